/-
  What the listed variables hold where a call begins; a start at which they hold it.
-/
import Derived.Test.YtbipjilpogbicaaDoorLDig
import Derived.Test.YtbipjilpogbicaaDoorRows
import Derived.ProofKit
import Derived.LaidMore
import Derived.Lib.LaidTab
import Derived.Stop.Joined
namespace Go.Proofs.YtbipjilpogbicaaDoor
open Go.ChangeShapes Go.WideShapes Go.ChangeAt Go.RowKit

theorem tiedOwn : ownKnob Tryd.prog.godebug = none := by kernel_rfl
theorem tiedLaidOut : laidOutB Tryd.prog = true := by kernel_rfl
theorem laidMet_tail {P : Program} {x : String × DataW Unit} {r : List (String × DataW Unit)} {w : World} (h : laidMet P (x :: r) w) : laidMet P r w := by
  obtain ⟨ps, hv, hn, hr⟩ := h
  obtain ⟨g, t, cs, fuel, p, q, h1, h2, h3, h4, h5, h6⟩ := hv
  subst h6
  exact ⟨q, h5, (List.nodup_append.1 hn).2.1, fun b off hp => hr b off (List.mem_append_right _ hp)⟩
theorem powName : Tryd.prog.globalNamed "internal/strconv.uint64pow10" = some 1 := by kernel_rfl
theorem powType : (Tryd.prog.globals[1]?).map (·.type) = some 91 := by kernel_rfl
theorem powCells1 : Tryd.prog.cellsOf 62 = 1 := by kernel_rfl
theorem powCells : Tryd.prog.cellsOf 91 = 20 := by kernel_rfl
theorem pt_of_met {r : List (String × DataW Unit)} {W : World} (h : laidMet Tryd.prog (("internal/strconv.uint64pow10", Rows.laid_internal_strconv_uint64pow10) :: r) W) : PT W :=
  Lib.tabIs_of_head powName powType Tryd.underlying91 Tryd.underlying62 powCells1 powCells h

abbrev tabLaid3 : List (String × DataW Unit) := [("math/bits.deBruijn32tab", Rows.laid_math_bits_deBruijn32tab), ("math/bits.deBruijn64tab", Rows.laid_math_bits_deBruijn64tab), ("internal/strconv.uint64pow10", Rows.laid_internal_strconv_uint64pow10)]
theorem door_met3 (os : Os) (args : Array Value) : laidMetH Tryd.prog tabLaid3 ((World.doorLaid Tryd.prog 400 os).forCall (fun _ _ => 0) ⟨#[], args, []⟩).memory :=
  laidMetH_of_parts3 (fuel := 8) (laidMet_of_run' 8 (by kernel_rfl) (by kernel_rfl)) (by kernel_rfl) (by kernel_rfl)
theorem pt_of_laid3 {W : World} (h : laidMetH Tryd.prog tabLaid3 W) : PT W := by
  rw [MakeChecks.laidMetH_plain _ _ _ (by kernel_rfl)] at h
  exact pt_of_met (laidMet_tail (laidMet_tail h))
end Go.Proofs.YtbipjilpogbicaaDoor
