/-
  A row of steps that came in, opened; the walk over PostPlays, of the row that came in.
-/
import Derived.Test.YtkcdblpaaldcaaaQLaw6
import Derived.Test.YtkcdblpaaldcaaaQOpen
import Derived.Deep.Slices
import Derived.Lib.SmallJoins
namespace Go.Proofs.Ytkcdblpaaldcaaa
open Go.ChangeShapes Go.WideShapes Go.ChangeAt Go.RowKit

section
variable {H : Type} {enc : TypeId × Value → H} {P : Program} {W : World} {base : Nat} {spare : Nat → Bool} {held : Bool}

theorem open_ops {t e : TypeId} {f0 f1 f2 f3 h0 h1 : Field} {fuel len cap : Nat} {a0 : Option Addr} {x : DataW H × List MemPlace} (ht : P.underlying t = some (.slice e)) (he : P.underlying e = some (.struct #[f0, f1, f2, f3])) (hC : P.cellsOf e = 5)
    (k0 : P.underlying f0.type = some (.int .i64) ∧ f0.offset = 0 ∧ P.cellsOf f0.type = 1) (k1 : P.underlying f1.type = some (.int .i64) ∧ f1.offset = 1 ∧ P.cellsOf f1.type = 1)
    (k2 : P.underlying f2.type = some (.struct #[h0, h1]) ∧ f2.offset = 2 ∧ P.cellsOf f2.type = 2) (k3 : P.underlying f3.type = some .bool ∧ f3.offset = 4 ∧ P.cellsOf f3.type = 1)
    (j0 : P.underlying h0.type = some (.int .i64) ∧ h0.offset = 0 ∧ P.cellsOf h0.type = 1) (j1 : P.underlying h1.type = some (.int .i64) ∧ h1.offset = 1 ∧ P.cellsOf h1.type = 1)
    (h : DataW.trod enc P W base spare held fuel t [.slice a0 len cap] = some x) : ∃ O, IsOps W a0 len O := by
  rcases Go.Deep.open_slice ht h with ⟨hcs, _⟩ | ⟨a, len', cap', m, n, D, Pl, hcs, hb, hl, hm, hmm, hx, hi⟩
  · simp at hcs
    obtain ⟨rfl, rfl, rfl⟩ := hcs
    exact ⟨fun _ => (0, 0, 0, 0, false), by omega, fun k hk => absurd hk (Nat.not_lt_zero _)⟩
  · simp at hcs
    obtain ⟨rfl, rfl, rfl⟩ := hcs
    have hlm : len ≤ m := by rw [hmm]; split <;> omega
    obtain ⟨O, hO⟩ := Go.Deep.choose_lt (n := len) (p := fun i (o : Op5) => W.cell? (a.add (i * 5)) = some (.int .i64 o.1) ∧ W.cell? (a.add (i * 5 + 1)) = some (.int .i64 o.2.1) ∧ W.cell? (a.add (i * 5 + 2)) = some (.int .i64 o.2.2.1) ∧ W.cell? (a.add (i * 5 + 3)) = some (.int .i64 o.2.2.2.1) ∧ W.cell? (a.add (i * 5 + 4)) = some (.bool o.2.2.2.2)) (fun i hil => by
      obtain ⟨cs, hc, htr⟩ := hi i (by omega)
      rw [hC] at hc
      obtain ⟨_, hcl, hat⟩ := World.cells?_some hc
      obtain ⟨y0, y1, y2, y3, n', _, _, t0, t1, t2, t3⟩ := Go.Joins.trod_struct4 he htr
      match cs, hcl with
      | [v0, v1, v2, v3, v4], _ =>
        rw [k0.2.1, k0.2.2] at t0
        rw [k1.2.1, k1.2.2] at t1
        rw [k2.2.1, k2.2.2] at t2
        rw [k3.2.1, k3.2.2] at t3
        obtain ⟨z0, z1, n2, _, _, u0, u1⟩ := trod_struct2 k2.1 t2
        rw [j0.2.1, j0.2.2] at u0
        rw [j1.2.1, j1.2.2] at u1
        obtain ⟨m0, e0, _, _⟩ := DataW.trod_int k0.1 t0
        obtain ⟨m1, e1, _, _⟩ := DataW.trod_int k1.1 t1
        obtain ⟨m2, e2, _, _⟩ := DataW.trod_int j0.1 u0
        obtain ⟨m3, e3, _, _⟩ := DataW.trod_int j1.1 u1
        obtain ⟨m4, e4, _⟩ := DataW.trod_bool k3.1 t3
        simp at e0 e1 e2 e3 e4
        subst e0 e1 e2 e3 e4
        have c0 := hat 0 (by omega)
        have c1 := hat 1 (by omega)
        have c2 := hat 2 (by omega)
        have c3 := hat 3 (by omega)
        have c4 := hat 4 (by omega)
        rw [Go.Deep.add_add] at c0 c1 c2 c3 c4
        exact ⟨(m0, m1, m2, m3, m4), c0, c1, c2, c3, c4⟩)
    refine ⟨O, by unfold maxLen at hm; omega, fun k hk => ?_⟩
    obtain ⟨c0, c1, c2, c3, c4⟩ := hO k hk
    have z0 := (hO 0 (by omega)).1
    rcases a with ⟨b, off, spot⟩
    have hs : spot = none := by
      cases spot with
      | none => rfl
      | some s => simp [World.cell?, Addr.add] at z0; split at z0 <;> simp at z0
    subst hs
    rw [addr_at] at c0 c1 c2 c3 c4
    exact ⟨b, off, rfl, block_of_cell c0, c0, c1, c2, c3, c4⟩
end

theorem row_plays (W : World) (n : Int) (_ : (Lit.int .i64 n).wf = true) (m : Int) (_ : (Lit.int .i64 m).wf = true) (a0 : Option Addr) (len cap : Nat) (O : Nat → Op5) (h : IsOps W a0 len O) :
    Calls Try.prog 3 #[.int .i64 n, .int .i64 m, .slice a0 len cap] W fun e w' => e = .returned (.bool true) ∧ Below W.heap.size W w' :=
  law_plays W n m a0 len cap (min len 60) O h.hlen rfl h.cells
end Go.Proofs.Ytkcdblpaaldcaaa
