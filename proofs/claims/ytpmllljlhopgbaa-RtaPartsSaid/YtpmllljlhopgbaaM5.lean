/- Texts of this claim, put together: UOpen. -/
import Derived.Test.YtpmllljlhopgbaaM4
import Derived.ProofKit
import Derived.OpenShut
import Derived.ChangeOld
import Derived.Below
set_option linter.unusedVariables false
set_option linter.unusedSimpArgs false

/-
  The arguments of the statements of rta, opened; the rows.
-/
namespace Go.Proofs.Ytpmllljlhopgbaa
open Go.ChangeShapes Go.WideShapes Go.ChangeAt Go.RowKit
section
variable {H : Type} {enc : TypeId × Value → H} {W : World} {base : Nat} {spare : Nat → Bool} {held : Bool}
set_option maxRecDepth 100000 in
theorem open_trips {r : Reach} {b0 : Nat} {v : Value} {d : DataW H} {p : List MemPlace} (hv : Value.okWide Try.prog W r b0 22 v) (h : DataW.Trod enc Try.prog W base spare held 22 v d p) :
    ∃ (a : Option Addr) (n c : Nat) (l : Nat → Int × Int × Int), v = .slice a n c ∧ Trips W a n l := by
  obtain ⟨a0, len, cap, rfl⟩ := okWide_slice Try.underlying22 hv
  refine ⟨a0, len, cap, ?_⟩
  obtain ⟨fuel, hf⟩ := h
  have k1 : Try.prog.cellsOf 3 = 1 := by kernel_rfl
  have k2 : Try.prog.cellsOf 33 = 3 := by kernel_rfl
  have hf : DataW.trod enc Try.prog W base spare held fuel 22 [.slice a0 len cap] = some (d, p) := by simpa [Value.cells] using hf
  rcases Go.Deep.open_slice Try.underlying22 hf with ⟨hcs, _⟩ | ⟨a, len', cap', m, n, D, Pl, hcs, hb, hl, hm, hmm, hx, hi⟩
  · simp at hcs
    obtain ⟨rfl, rfl, rfl⟩ := hcs
    exact ⟨fun _ => (0, 0, 0), rfl, by omega, fun k hk => absurd hk (Nat.not_lt_zero _)⟩
  · simp at hcs
    obtain ⟨rfl, rfl, rfl⟩ := hcs
    have hlm : len ≤ m := by rw [hmm]; split <;> omega
    obtain ⟨O, hO⟩ := Go.Deep.choose_lt (n := len) (p := fun i (o : Int × Int × Int) => W.cell? (a.add (i * 3)) = some (.int .i64 o.1) ∧ W.cell? (a.add (i * 3 + 1)) = some (.int .i64 o.2.1) ∧ W.cell? (a.add (i * 3 + 2)) = some (.int .i64 o.2.2)) (fun i hil => by
      obtain ⟨cs, hc, htr⟩ := hi i (by omega)
      rw [k2] at hc
      obtain ⟨_, hcl, hat⟩ := World.cells?_some hc
      obtain ⟨ys, m', _, _, hlen, hyl, hall⟩ := DataW.trod_array Try.underlying33 htr
      rw [k1] at hall
      match cs, hcl, ys, hyl with
      | [v0, v1, v2], _, [y0, y1, y2], _ =>
        have t0 : DataW.trod enc Try.prog W base spare held m' 3 [v0] = some y0 := by have q := hall 0 (by omega); simpa using q
        have t1 : DataW.trod enc Try.prog W base spare held m' 3 [v1] = some y1 := by have q := hall 1 (by omega); simpa using q
        have t2 : DataW.trod enc Try.prog W base spare held m' 3 [v2] = some y2 := by have q := hall 2 (by omega); simpa using q
        obtain ⟨n0, e0, _, w0⟩ := DataW.trod_int Try.underlying3 t0
        obtain ⟨n1, e1, _, w1⟩ := DataW.trod_int Try.underlying3 t1
        obtain ⟨n2, e2, _, w2⟩ := DataW.trod_int Try.underlying3 t2
        simp at e0 e1 e2
        subst e0 e1 e2
        have c0 := hat 0 (by omega)
        have c1 := hat 1 (by omega)
        have c2 := hat 2 (by omega)
        rw [Go.Deep.add_add] at c0 c1 c2
        exact ⟨(n0, n1, n2), c0, c1, c2⟩)
    refine ⟨O, rfl, by unfold maxLen at hm; omega, fun k hk => ?_⟩
    obtain ⟨c0, c1, c2⟩ := hO k hk
    have z0 := (hO 0 (by omega)).1
    rcases a with ⟨b, off, spot⟩
    have hs : spot = none := by
      cases spot with
      | none => rfl
      | some s => simp [World.cell?, Addr.add] at z0; split at z0 <;> simp at z0
    subst hs
    rw [addr_at] at c0 c1 c2
    exact ⟨b, off, rfl, c0, c1, c2⟩
set_option maxRecDepth 100000 in
theorem open_two64 {r : Reach} {b0 : Nat} {v : Value} {d : DataW H} {p : List MemPlace} (hv : Value.okWide Try.prog W r b0 34 v) (h : DataW.Trod enc Try.prog W base spare held 34 v d p) :
    ∃ q0 q1 : Int, v = .agg #[.int .i64 q0, .int .i64 q1] := by
  obtain ⟨zs, rfl, hl, _⟩ := open_intarr Try.underlying34 Try.underlying2 (by kernel_rfl) (by kernel_rfl) hv h
  match zs, hl with
  | [x, y], _ => exact ⟨x, y, rfl⟩
set_option maxRecDepth 100000 in
theorem open_three {r : Reach} {b0 : Nat} {v : Value} {d : DataW H} {p : List MemPlace} (hv : Value.okWide Try.prog W r b0 33 v) (h : DataW.Trod enc Try.prog W base spare held 33 v d p) :
    ∃ q0 q1 q2 : Int, v = .agg #[.int .i64 q0, .int .i64 q1, .int .i64 q2] := by
  obtain ⟨zs, rfl, hl, _⟩ := open_intarr Try.underlying33 Try.underlying3 (by kernel_rfl) (by kernel_rfl) hv h
  match zs, hl with
  | [x, y, z], _ => exact ⟨x, y, z, rfl⟩
end
theorem row_least (W : World) (a : Option Addr) (n cap : Nat) (l : Nat → Int × Int × Int) (hn : Trips W a n l) (t : Int) (_ : (Lit.int .i64 t).wf = true) :
    Calls Try.prog 3 #[.slice a n cap, .int .i64 t] W fun e w' => e = .returned (.bool true) ∧ Below W.heap.size W w' := law_least W a n cap l hn t
theorem row_bears (W : World) (a : Option Addr) (n cap : Nat) (l : Nat → Int × Int × Int) (hn : Trips W a n l) (t : Int) (_ : (Lit.int .i64 t).wf = true) :
    Calls Try.prog 4 #[.slice a n cap, .int .i64 t] W fun e w' => e = .returned (.bool true) ∧ Below W.heap.size W w' := law_bears W a n cap l hn t
theorem row_more (W : World) (a : Option Addr) (n cap : Nat) (l : Nat → Int × Int × Int) (hn : Trips W a n l) (d0 d1 d2 q0 q1 : Int) :
    Calls Try.prog 5 #[.slice a n cap, .agg #[.int .i64 d0, .int .i64 d1, .int .i64 d2], .agg #[.int .i64 q0, .int .i64 q1]] W fun e w' => e = .returned (.bool true) ∧ Below W.heap.size W w' := law_more W a n cap l hn d0 d1 d2 q0 q1
theorem row_parts (W : World) (a : Option Addr) (n cap : Nat) (l : Nat → Int × Int × Int) (hn : Trips W a n l) (ab : Option Addr) (nb capb : Nat) (lb : Nat → Int × Int × Int) (hnb : Trips W ab nb lb) (q0 q1 : Int) :
    Calls Try.prog 6 #[.slice a n cap, .slice ab nb capb, .agg #[.int .i64 q0, .int .i64 q1]] W fun e w' => e = .returned (.bool true) ∧ Below W.heap.size W w' := law_parts W a n cap l hn ab nb capb lb hnb q0 q1
end Go.Proofs.Ytpmllljlhopgbaa
