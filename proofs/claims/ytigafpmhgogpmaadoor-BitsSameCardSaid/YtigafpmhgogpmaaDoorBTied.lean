/-
  What the listed variable holds where a call begins; a start at which it holds it.
-/
import Derived.Test.YtigafpmhgogpmaaDoorBMem
import Derived.Test.YtigafpmhgogpmaaDoorBWalk1
import Derived.Test.YtigafpmhgogpmaaDoorRows
import Derived.ProofKit
import Derived.LaidMore
import Derived.Lib.LaidTab
import Derived.Stop.Joined
namespace Go.Proofs.YtigafpmhgogpmaaDoor
open Go.ChangeShapes Go.WideShapes Go.ChangeAt Go.RowKit

theorem tiedOwn : ownKnob Tryd.prog.godebug = none := by kernel_rfl
theorem tiedLaidOut : laidOutB Tryd.prog = true := by kernel_rfl
theorem tabName : Tryd.prog.globalNamed "math/bits.deBruijn64tab" = some 0 := by kernel_rfl
theorem tabType : (Tryd.prog.globals[0]?).map (·.type) = some 52 := by kernel_rfl
theorem tabCells1 : Tryd.prog.cellsOf 5 = 1 := by kernel_rfl
theorem tabCells : Tryd.prog.cellsOf 52 = 64 := by kernel_rfl

abbrev tabLaid : List (String × DataW Unit) := [("math/bits.deBruijn64tab", Rows.laid_math_bits_deBruijn64tab)]

theorem door_met (os : Os) (args : Array Value) : laidMetH Tryd.prog tabLaid ((World.doorLaid Tryd.prog 400 os).forCall (fun _ _ => 0) ⟨#[], args, []⟩).memory :=
  laidMetH_of_parts3 (fuel := 8) (laidMet_of_run' 8 (by kernel_rfl) (by kernel_rfl)) (by kernel_rfl) (by kernel_rfl)

theorem tab_of_laid {W : World} (h : laidMetH Tryd.prog tabLaid W) : Tab W := by
  rw [MakeChecks.laidMetH_plain _ _ _ (by kernel_rfl)] at h
  have h' : laidMet Tryd.prog [("math/bits.deBruijn64tab", Lib.tabData .u8 (Lib.deBruijn64tab.map fun n : Nat => (n : Int)))] W := h
  have hT := Lib.tabIs_of_head tabName tabType Tryd.underlying52 Tryd.underlying5 tabCells1 tabCells h'
  intro j hj
  have := hT.cell tabName j (by rw [List.length_map]; exact hj)
  rw [this]
  congr 2
  rw [List.getD_eq_getElem?_getD, List.getElem?_map, List.getD_eq_getElem?_getD]
  cases h : Lib.deBruijn64tab[j]? <;> rfl

end Go.Proofs.YtigafpmhgogpmaaDoor
