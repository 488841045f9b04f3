/-
  A row of steps that came in, opened.
-/
import Derived.Test.YtbmmigaabhnnfaaRPair
import Derived.Test.YtbmmigaabhnnfaaRows
import Derived.ProofKit
import Derived.OpenShut
import Derived.Deep.Slices
import Derived.Lib.SmallJoins
namespace Go.Proofs.Ytbmmigaabhnnfaa
open Go.ChangeShapes Go.WideShapes Go.ChangeAt Go.RowKit

/-- A row of steps below a world's blocks. -/
structure IsOps (W : World) (a0 : Option Addr) (len : Nat) (O : Nat → Int × Int × Int × Bool) : Prop where
  hlen : (len : Int) ≤ 9223372036854775807
  wf : ∀ k, k < len → I64 (O k).1 ∧ I64 (O k).2.1 ∧ I64 (O k).2.2.1
  cells : ∀ k, k < len → ∃ b off, a0 = some ⟨b, off, none⟩ ∧ b < W.heap.size ∧ W.cell? ⟨b, off + k * 4, none⟩ = some (.int .i64 (O k).1) ∧ W.cell? ⟨b, off + k * 4 + 1, none⟩ = some (.int .i64 (O k).2.1) ∧ W.cell? ⟨b, off + k * 4 + 2, none⟩ = some (.int .i64 (O k).2.2.1) ∧ W.cell? ⟨b, off + k * 4 + 3, none⟩ = some (.bool (O k).2.2.2)

section
variable {H : Type} {enc : TypeId × Value → H} {P : Program} {W : World} {base : Nat} {spare : Nat → Bool} {held : Bool}

theorem open_ops {t e : TypeId} {f0 f1 f2 f3 : Field} {fuel len cap : Nat} {a0 : Option Addr} {x : DataW H × List MemPlace} (ht : P.underlying t = some (.slice e)) (he : P.underlying e = some (.struct #[f0, f1, f2, f3])) (hC : P.cellsOf e = 4)
    (h0 : P.underlying f0.type = some (.int .i64) ∧ f0.offset = 0 ∧ P.cellsOf f0.type = 1) (h1 : P.underlying f1.type = some (.int .i64) ∧ f1.offset = 1 ∧ P.cellsOf f1.type = 1)
    (h2 : P.underlying f2.type = some (.int .i64) ∧ f2.offset = 2 ∧ P.cellsOf f2.type = 1) (h3 : P.underlying f3.type = some .bool ∧ f3.offset = 3 ∧ P.cellsOf f3.type = 1)
    (h : DataW.trod enc P W base spare held fuel t [.slice a0 len cap] = some x) : ∃ O, IsOps W a0 len O := by
  rcases Go.Deep.open_slice ht h with ⟨hcs, _⟩ | ⟨a, len', cap', m, n, D, Pl, hcs, hb, hl, hm, hmm, hx, hi⟩
  · simp at hcs
    obtain ⟨rfl, rfl, rfl⟩ := hcs
    exact ⟨fun _ => (0, 0, 0, false), by omega, fun k hk => absurd hk (Nat.not_lt_zero _), fun k hk => absurd hk (Nat.not_lt_zero _)⟩
  · simp at hcs
    obtain ⟨rfl, rfl, rfl⟩ := hcs
    have hlm : len ≤ m := by rw [hmm]; split <;> omega
    obtain ⟨O, hO⟩ := Go.Deep.choose_lt (n := len) (p := fun i (o : Int × Int × Int × Bool) => (I64 o.1 ∧ I64 o.2.1 ∧ I64 o.2.2.1) ∧ W.cell? (a.add (i * 4)) = some (.int .i64 o.1) ∧ W.cell? (a.add (i * 4 + 1)) = some (.int .i64 o.2.1) ∧ W.cell? (a.add (i * 4 + 2)) = some (.int .i64 o.2.2.1) ∧ W.cell? (a.add (i * 4 + 3)) = some (.bool o.2.2.2)) (fun i hil => by
      obtain ⟨cs, hc, htr⟩ := hi i (by omega)
      rw [hC] at hc
      obtain ⟨_, hcl, hat⟩ := World.cells?_some hc
      obtain ⟨y0, y1, y2, y3, n', _, _, t0, t1, t2, t3⟩ := Go.Joins.trod_struct4 he htr
      match cs, hcl with
      | [v0, v1, v2, v3], _ =>
        rw [h0.2.1, h0.2.2] at t0
        rw [h1.2.1, h1.2.2] at t1
        rw [h2.2.1, h2.2.2] at t2
        rw [h3.2.1, h3.2.2] at t3
        obtain ⟨n0, e0, _, w0⟩ := DataW.trod_int h0.1 t0
        obtain ⟨n1, e1, _, w1⟩ := DataW.trod_int h1.1 t1
        obtain ⟨n2, e2, _, w2⟩ := DataW.trod_int h2.1 t2
        obtain ⟨n3, e3, _⟩ := DataW.trod_bool h3.1 t3
        simp at e0 e1 e2 e3
        subst e0 e1 e2 e3
        have c0 := hat 0 (by omega)
        have c1 := hat 1 (by omega)
        have c2 := hat 2 (by omega)
        have c3 := hat 3 (by omega)
        rw [Go.Deep.add_add] at c0 c1 c2 c3
        exact ⟨(n0, n1, n2, n3), ⟨i64_of_wf w0, i64_of_wf w1, i64_of_wf w2⟩, c0, c1, c2, c3⟩)
    refine ⟨O, by unfold maxLen at hm; omega, fun k hk => (hO k hk).1, fun k hk => ?_⟩
    obtain ⟨_, c0, c1, c2, c3⟩ := hO k hk
    have z0 := (hO 0 (by omega)).2.1
    rcases a with ⟨b, off, spot⟩
    have hs : spot = none := by
      cases spot with
      | none => rfl
      | some s => simp [World.cell?, Addr.add] at z0; split at z0 <;> simp at z0
    subst hs
    rw [addr_at] at c0 c1 c2 c3
    exact ⟨b, off, rfl, block_of_cell c0, c0, c1, c2, c3⟩
end

end Go.Proofs.Ytbmmigaabhnnfaa
