/-
  What the listed variables hold where a call begins, with two more tables; a start at which they hold it.
-/
import Derived.Test.YtbipjilpogbicaaDoorLTied
import Derived.Lay
namespace Go.Proofs.YtbipjilpogbicaaDoor
open Go.ChangeShapes Go.WideShapes Go.ChangeAt Go.RowKit

abbrev tabLaid5 : List (String × DataW Unit) := [("math/bits.deBruijn32tab", Rows.laid_math_bits_deBruijn32tab), ("math/bits.deBruijn64tab", Rows.laid_math_bits_deBruijn64tab), ("internal/strconv.uint64pow10", Rows.laid_internal_strconv_uint64pow10), ("unicode/utf8.acceptRanges", Rows.laid_unicode_utf8_acceptRanges), ("unicode/utf8.first", Rows.laid_unicode_utf8_first)]
theorem all_shaped5 (os : Os) : (World.laidAll Tryd.prog os tabLaid5).Shaped Tryd.prog := World.shaped_of_ZipB (by kernel_rfl) (by kernel_rfl)
theorem door_met5 (os : Os) (args : Array Value) : laidMetH Tryd.prog tabLaid5 ((World.laidAll Tryd.prog os tabLaid5).forCall (fun _ _ => 0) ⟨#[], args, []⟩).memory := by
  rw [MakeChecks.laidMetH_plain _ _ _ (by kernel_rfl)]
  exact laidMet_laidAll _ (by kernel_rfl) (by kernel_rfl)
theorem pt_of_laid5 {W : World} (h : laidMetH Tryd.prog tabLaid5 W) : PT W := by
  rw [MakeChecks.laidMetH_plain _ _ _ (by kernel_rfl)] at h
  exact pt_of_met (laidMet_tail (laidMet_tail h))
end Go.Proofs.YtbipjilpogbicaaDoor
