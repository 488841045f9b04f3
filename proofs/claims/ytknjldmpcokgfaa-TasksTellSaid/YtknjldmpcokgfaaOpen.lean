/-
  Arguments opened: arrays of integers by value.
-/
import Derived.Test.YtknjldmpcokgfaaRows
import Derived.WalkKit
import Derived.ProofKit
import Derived.OpenShut
namespace Go.Proofs.Ytknjldmpcokgfaa
open Go.ChangeShapes Go.WideShapes Go.ChangeAt Go.RowKit

section
variable {H : Type} {enc : TypeId × Value → H} {P : Program} {W : World} {base : Nat} {spare : Nat → Bool} {held : Bool}

theorem open_intarr {k : IntKind} {n : Nat} {t e : TypeId} {r : Reach} {b0 : Nat} {v : Value} {d : DataW H} {p : List MemPlace} (ht : P.underlying t = some (.array n e)) (he : P.underlying e = some (.int k)) (h1 : P.cellsOf e = 1) (hn : P.cellsOf t = n)
    (hv : Value.okWide P W r b0 t v) (h : DataW.Trod enc P W base spare held t v d p) :
    ∃ zs : List Int, v = .agg (zs.map (Value.int k)).toArray ∧ zs.length = n ∧ ∀ x ∈ zs, (Lit.int k x).wf = true := by
  simp only [Value.okWide, ht] at hv
  obtain ⟨cs, rfl, hsz, _⟩ := hv
  obtain ⟨fuel, hf⟩ := h
  obtain ⟨ys, m, _, _, hlen, hyl, hall⟩ := DataW.trod_array ht hf
  rw [h1] at hall
  have hcs : cs.size = n := by rw [hsz, hn]
  have each : ∀ i (hi : i < cs.size), ∃ a, cs[i] = .int k a ∧ (Lit.int k a).wf = true := by
    intro i hi
    have h2 := hall i (by omega)
    rw [List.getElem?_eq_getElem (by omega)] at h2
    obtain ⟨a, ha, _, hw⟩ := DataW.trod_int he h2
    refine ⟨a, ?_, hw⟩
    simp only [Value.cells, Nat.mul_one] at ha
    rw [List.drop_eq_getElem_cons (by simpa using hi)] at ha
    simp at ha
    exact ha
  refine ⟨cs.toList.map intOf, ?_, by simp [hcs], ?_⟩
  · congr 1
    apply Array.ext
    · simp
    · intro i hi _
      obtain ⟨a, ha, _⟩ := each i hi
      simp [ha, intOf]
  · intro x hx
    obtain ⟨y, hy, rfl⟩ := List.mem_map.1 hx
    obtain ⟨i, hi, rfl⟩ := List.getElem_of_mem hy
    obtain ⟨a, ha, hw⟩ := each i (by simpa using hi)
    simp [ha, intOf, hw]
end

end Go.Proofs.Ytknjldmpcokgfaa
