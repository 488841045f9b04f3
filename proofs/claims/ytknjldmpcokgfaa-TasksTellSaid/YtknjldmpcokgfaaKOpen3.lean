/-
  Two tasks that came in, opened.
-/
import Derived.Test.YtknjldmpcokgfaaKOpen2
namespace Go.Proofs.Ytknjldmpcokgfaa
open Go.ChangeShapes Go.WideShapes Go.ChangeAt Go.RowKit

section
variable {H : Type} {enc : TypeId × Value → H} {W : World} {base : Nat} {spare : Nat → Bool} {held : Bool}

/-- Two tasks by value. -/
theorem open_two {r : Reach} {b0 : Nat} {v : Value} {d : DataW H} {p : List MemPlace} (hv : Value.okWide Try.prog W r b0 40 v) (h : DataW.Trod enc Try.prog W base spare held 40 v d p) :
    ∃ x y : TV, v = .agg #[.int .i64 x.id, .int .i64 x.c, .int .i64 x.d, .int .i64 x.t, .int .i64 x.p, .slice x.a1 x.ch.length x.c1, .slice x.a2 x.us.length x.c2, .int .i64 y.id, .int .i64 y.c, .int .i64 y.d, .int .i64 y.t, .int .i64 y.p, .slice y.a1 y.ch.length y.c1, .slice y.a2 y.us.length y.c2] ∧ x.ok W ∧ y.ok W := by
  have hu := Try.underlying40
  simp only [Value.okWide, hu] at hv
  obtain ⟨cs, rfl, hsz, _⟩ := hv
  obtain ⟨fuel, hf⟩ := h
  obtain ⟨ys, m, _, _, hlen, hyl, hall⟩ := DataW.trod_array hu hf
  have k7 : Try.prog.cellsOf TT = 7 := by kernel_rfl
  have k14 : Try.prog.cellsOf 40 = 14 := by kernel_rfl
  rw [k7] at hall
  rw [k14] at hlen
  simp only [Value.cells] at hlen hall
  have h0 := hall 0 (by omega)
  have h1 := hall 1 (by omega)
  rw [List.getElem?_eq_getElem (by omega)] at h0 h1
  obtain ⟨x, hx, okx, _⟩ := open_cells h0
  obtain ⟨y, hy, oky, _⟩ := open_cells h1
  refine ⟨x, y, ?_, okx, oky⟩
  congr 1
  apply Array.ext'
  show cs.toList = x.cells ++ y.cells
  rw [← hx, ← hy]
  simp only [Nat.zero_mul, List.drop_zero, Nat.one_mul]
  have e : (cs.toList.drop 7).take 7 = cs.toList.drop 7 := List.take_of_length_le (by rw [List.length_drop]; omega)
  rw [e, List.take_append_drop]
end
end Go.Proofs.Ytknjldmpcokgfaa
