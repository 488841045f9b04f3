/-
  Requests, and rows of them, opened.
-/
import Derived.Test.YtkcdblpaaldcaaaQSame
import Derived.Test.YtkcdblpaaldcaaaRows
import Derived.ProofKit
import Derived.OpenShut
import Derived.Deep.Slices
import Derived.Lib.SmallJoins
namespace Go.Proofs.Ytkcdblpaaldcaaa
open Go.ChangeShapes Go.WideShapes Go.ChangeAt Go.RowKit

theorem view_of_cells {W : World} {b o : Nat} : ∀ (l : List Req) (O : Nat → Req), (∀ k, k < l.length → l[k]? = some (O k)) → (∀ k, k < l.length → W.cell? ⟨b, o + k * 2, none⟩ = some (.int .i64 (O k).1) ∧ W.cell? ⟨b, o + k * 2 + 1, none⟩ = some (.int .i64 (O k).2)) → View W (some ⟨b, o, none⟩) l := by
  intro l O hO hc
  refine .inr ⟨b, o, rfl, fun j u hj => ?_⟩
  have hjl : j < l.length * 2 := by
    have := (List.getElem?_eq_some_iff.1 hj).1
    rwa [flat_len] at this
  have hk := hO (j / 2) (by omega)
  obtain ⟨f0, f1⟩ := flat_at l (j / 2) _ hk
  obtain ⟨c0, c1⟩ := hc (j / 2) (by omega)
  rcases (show j = (j / 2) * 2 ∨ j = (j / 2) * 2 + 1 by omega) with q | q
  · rw [← q] at f0 c0
    rw [f0] at hj
    rw [c0]; exact hj
  · rw [← q] at f1
    rw [Nat.add_assoc, ← q] at c1
    rw [f1] at hj
    rw [c1]; exact hj

section
variable {H : Type} {enc : TypeId × Value → H} {P : Program} {W : World} {base : Nat} {spare : Nat → Bool} {held : Bool}

theorem open_req {t : TypeId} {f0 f1 : Field} {r : Reach} {b0 : Nat} {v : Value} {d : DataW H} {p : List MemPlace} (hs : P.underlying t = some (.struct #[f0, f1])) (hone : Go.Deep.oneCellFields P #[f0, f1] = true) (hC : P.cellsOf t = 2)
    (h0 : P.underlying f0.type = some (.int .i64)) (h1 : P.underlying f1.type = some (.int .i64)) (hv : Value.okWide P W r b0 t v) (h : DataW.Trod enc P W base spare held t v d p) : ∃ x y : Int, v = .agg #[.int .i64 x, .int .i64 y] := by
  obtain ⟨v0, v1, y0, y1, n, rfl, _, _, t0, t1⟩ := Go.Joins.open_agg2 hs hone hC hv h
  obtain ⟨n0, e0, _, _⟩ := DataW.trod_int h0 t0
  obtain ⟨n1, e1, _, _⟩ := DataW.trod_int h1 t1
  simp at e0 e1
  exact ⟨n0, n1, by rw [e0, e1]⟩

theorem open_reqs {t e : TypeId} {f0 f1 : Field} {fuel len cap : Nat} {a0 : Option Addr} {x : DataW H × List MemPlace} (ht : P.underlying t = some (.slice e)) (he : P.underlying e = some (.struct #[f0, f1])) (hC : P.cellsOf e = 2)
    (h0 : P.underlying f0.type = some (.int .i64) ∧ f0.offset = 0 ∧ P.cellsOf f0.type = 1) (h1 : P.underlying f1.type = some (.int .i64) ∧ f1.offset = 1 ∧ P.cellsOf f1.type = 1)
    (h : DataW.trod enc P W base spare held fuel t [.slice a0 len cap] = some x) : ∃ l, IsAsks W a0 len cap l := by
  rcases Go.Deep.open_slice ht h with ⟨hcs, _⟩ | ⟨a, len', cap', m, n, D, Pl, hcs, hb, hl, hm, hmm, hx, hi⟩
  · simp at hcs
    obtain ⟨rfl, rfl, rfl⟩ := hcs
    exact ⟨[], by omega, by omega, by omega, rfl, .inl rfl⟩
  · simp at hcs
    obtain ⟨rfl, rfl, rfl⟩ := hcs
    have hlm : len ≤ m := by rw [hmm]; split <;> omega
    obtain ⟨O, hO⟩ := Go.Deep.choose_lt (n := len) (p := fun i (o : Req) => W.cell? (a.add (i * 2)) = some (.int .i64 o.1) ∧ W.cell? (a.add (i * 2 + 1)) = some (.int .i64 o.2)) (fun i hil => by
      obtain ⟨cs, hc, htr⟩ := hi i (by omega)
      rw [hC] at hc
      obtain ⟨_, hcl, hat⟩ := World.cells?_some hc
      obtain ⟨y0, y1, n', _, _, t0, t1⟩ := trod_struct2 he htr
      match cs, hcl with
      | [v0, v1], _ =>
        rw [h0.2.1, h0.2.2] at t0
        rw [h1.2.1, h1.2.2] at t1
        obtain ⟨n0, e0, _, w0⟩ := DataW.trod_int h0.1 t0
        obtain ⟨n1, e1, _, w1⟩ := DataW.trod_int h1.1 t1
        simp at e0 e1
        subst e0 e1
        have c0 := hat 0 (by omega)
        have c1 := hat 1 (by omega)
        rw [Go.Deep.add_add] at c0 c1
        exact ⟨(n0, n1), c0, c1⟩)
    refine ⟨(List.range len).map O, by unfold maxLen at hm; omega, by omega, by unfold maxLen at hm; omega, by simp, ?_⟩
    rcases Nat.eq_zero_or_pos len with z | z
    · subst z; left; rfl
    have z0 := (hO 0 z).1
    rcases a with ⟨b, off, spot⟩
    have hs : spot = none := by
      cases spot with
      | none => rfl
      | some s => simp [World.cell?, Addr.add] at z0; split at z0 <;> simp at z0
    subst hs
    refine view_of_cells _ O (fun k hk => ?_) (fun k hk => ?_)
    · simp at hk; simp [hk]
    · simp at hk
      obtain ⟨c0, c1⟩ := hO k hk
      rw [addr_at] at c0 c1
      exact ⟨c0, c1⟩
end

end Go.Proofs.Ytkcdblpaaldcaaa
