/-
  Tasks and systems that came in, opened.
-/
import Derived.Test.YtknjldmpcokgfaaKMem
import Derived.Test.YtknjldmpcokgfaaRows
import Derived.ProofKit
import Derived.OpenShut
import Derived.Deep.Slices
import Derived.Lib.SmallJoins
namespace Go.Proofs.Ytknjldmpcokgfaa
open Go.ChangeShapes Go.WideShapes Go.ChangeAt Go.RowKit

instance : Inhabited TV := ⟨⟨0, 0, 0, 0, 0, none, [], 0, none, [], 0⟩⟩
section
variable {H : Type} {enc : TypeId × Value → H} {W : World} {base : Nat} {spare : Nat → Bool} {held : Bool}

/-- A row of numbers. -/
theorem open_nums {t e : TypeId} {fuel : Nat} {v : Value} {x : DataW H × List MemPlace} (ht : Try.prog.underlying t = some (.slice e)) (he : Try.prog.underlying e = some (.int .i64)) (hc : Try.prog.cellsOf e = 1)
    (h : DataW.trod enc Try.prog W base spare held fuel t [v] = some x) : ∃ (a : Option Addr) (l : List Int) (c : Nat), v = .slice a l.length c ∧ Ints W a l ∧ l.length ≤ c ∧ (c : Int) ≤ 9223372036854775807 ∧ ∀ y ∈ l, I64 y := by
  rcases open_ints ht he hc h with ⟨hcs, _⟩ | ⟨a, len, cap, zs, hcs, _, hl, hm, hz, _, hcell, hw⟩
  · simp at hcs; subst hcs
    exact ⟨none, [], 0, rfl, .inl rfl, Nat.le_refl _, by omega, fun y hy => by cases hy⟩
  · simp at hcs; subst hcs
    have hlz : len ≤ zs.length := by rw [hz]; split <;> omega
    have hlen : (zs.take len).length = len := by rw [List.length_take]; omega
    refine ⟨some a, zs.take len, cap, by rw [hlen], ?_, by omega, by unfold maxLen at hm; omega, fun y hy => i64_of_wf (hw y (List.mem_of_mem_take hy))⟩
    rcases Nat.eq_zero_or_pos len with e | e
    · left; rw [e]; simp
    · right
      have h0 := hcell 0 (by omega)
      rcases a with ⟨b, off, spot⟩
      have hs : spot = none := by
        cases spot with
        | none => rfl
        | some s => simp [World.cell?, Addr.add] at h0; split at h0 <;> simp at h0
      subst hs
      refine ⟨b, off, rfl, fun j u hj => ?_⟩
      rw [List.getElem?_take] at hj
      split at hj
      · obtain ⟨q1, q2⟩ := List.getElem?_eq_some_iff.1 hj
        have := hcell j q1
        rw [addr_at] at this
        rw [this]
        simp [List.getD_eq_getElem?_getD, hj]
      · cases hj

/-- The cells of a task. -/
theorem open_cells {fuel : Nat} {cs : List Value} {y : DataW H × List MemPlace} (h : DataW.trod enc Try.prog W base spare held fuel TT cs = some y) : ∃ x : TV, cs = x.cells ∧ x.ok W ∧ I64 x.p ∧ I64 x.id := by
  obtain ⟨xs, n, _, _, hl, hlen, hf⟩ := DataW.trod_struct Try.underlying25 h
  have hl7 : cs.length = 7 := hl.trans (by kernel_rfl)
  have hx7 : xs.length = 7 := hlen
  have k1 : Try.prog.cellsOf 3 = 1 := by kernel_rfl
  have k2 : Try.prog.cellsOf 2 = 1 := by kernel_rfl
  have k3 : Try.prog.cellsOf 22 = 1 := by kernel_rfl
  have k4 : Try.prog.cellsOf 23 = 1 := by kernel_rfl
  match cs, hl7, xs, hx7 with
  | [v0, v1, v2, v3, v4, v5, v6], _, [y0, y1, y2, y3, y4, y5, y6], _ =>
    have t0 : DataW.trod enc Try.prog W base spare held n 3 [v0] = some y0 := by have q := hf 0 _ rfl; simpa [k1, k2, k3, k4] using q
    have t1 : DataW.trod enc Try.prog W base spare held n 2 [v1] = some y1 := by have q := hf 1 _ rfl; simpa [k1, k2, k3, k4] using q
    have t2 : DataW.trod enc Try.prog W base spare held n 2 [v2] = some y2 := by have q := hf 2 _ rfl; simpa [k1, k2, k3, k4] using q
    have t3 : DataW.trod enc Try.prog W base spare held n 2 [v3] = some y3 := by have q := hf 3 _ rfl; simpa [k1, k2, k3, k4] using q
    have t4 : DataW.trod enc Try.prog W base spare held n 3 [v4] = some y4 := by have q := hf 4 _ rfl; simpa [k1, k2, k3, k4] using q
    have t5 : DataW.trod enc Try.prog W base spare held n 22 [v5] = some y5 := by have q := hf 5 _ rfl; simpa [k1, k2, k3, k4] using q
    have t6 : DataW.trod enc Try.prog W base spare held n 23 [v6] = some y6 := by have q := hf 6 _ rfl; simpa [k1, k2, k3, k4] using q
    obtain ⟨n0, e0, _, w0⟩ := DataW.trod_int Try.underlying3 t0
    obtain ⟨n1, e1, _, w1⟩ := DataW.trod_int Try.underlying2 t1
    obtain ⟨n2, e2, _, w2⟩ := DataW.trod_int Try.underlying2 t2
    obtain ⟨n3, e3, _, w3⟩ := DataW.trod_int Try.underlying2 t3
    obtain ⟨n4, e4, _, w4⟩ := DataW.trod_int Try.underlying3 t4
    obtain ⟨a1, l1, c1, e5, i5, le5, m5, _⟩ := open_nums (v := v5) Try.underlying22 Try.underlying2 k2 t5
    obtain ⟨a2, l2, c2, e6, i6, le6, m6, _⟩ := open_nums (v := v6) Try.underlying23 Try.underlying3 k1 t6
    simp at e0 e1 e2 e3 e4
    subst e0 e1 e2 e3 e4 e5 e6
    exact ⟨⟨n0, n1, n2, n3, n4, a1, l1, c1, a2, l2, c2⟩, rfl, ⟨i5, i6, le5, m5, le6, m6⟩, i64_of_wf w4, i64_of_wf w0⟩

/-- A task by value. -/
theorem open_task {r : Reach} {b0 : Nat} {v : Value} {d : DataW H} {p : List MemPlace} (hv : Value.okWide Try.prog W r b0 TT v) (h : DataW.Trod enc Try.prog W base spare held TT v d p) : ∃ x : TV, v = x.val ∧ x.ok W ∧ I64 x.p ∧ I64 x.id := by
  obtain ⟨cs, rfl, _⟩ := okWide_struct Try.underlying25 hv
  obtain ⟨fuel, hf⟩ := h
  obtain ⟨x, hx, h1, h2⟩ := open_cells hf
  refine ⟨x, ?_, h1, h2⟩
  simp only [Value.cells] at hx
  unfold TV.val
  congr 1
  apply Array.ext'
  exact hx

/-- A row of tasks. -/
theorem open_tasks {fuel : Nat} {v : Value} {y : DataW H × List MemPlace} (h : DataW.trod enc Try.prog W base spare held fuel 26 [v] = some y) :
    ∃ (a : Option Addr) (n c : Nat) (L : List TV), v = .slice a n c ∧ Tasks W a n c L ∧ ∀ x ∈ L, I64 x.p ∧ I64 x.id := by
  rcases Go.Deep.open_slice Try.underlying26 h with ⟨hcs, _⟩ | ⟨a, len, cap, m, n, D, Pl, hcs, hb, hl, hm, hmm, hx, hi⟩
  · simp at hcs; subst hcs
    exact ⟨none, 0, 0, [], rfl, ⟨rfl, .inl rfl, (fun x hx => by cases hx), Nat.le_refl _, by omega⟩, (fun x hx => by cases hx)⟩
  · simp at hcs; subst hcs
    have k7 : Try.prog.cellsOf TT = 7 := by kernel_rfl
    have hlm : len ≤ m := by rw [hmm]; split <;> omega
    obtain ⟨O, hO⟩ := Go.Deep.choose_lt (n := len) (p := fun i (x : TV) => (x.ok W ∧ I64 x.p ∧ I64 x.id) ∧ ∀ j u, x.cells[j]? = some u → W.cell? (a.add (i * 7 + j)) = some u) (fun i hil => by
      obtain ⟨cs, hc, htr⟩ := hi i (by omega)
      rw [k7] at hc
      obtain ⟨_, hcl, hat⟩ := World.cells?_some hc
      obtain ⟨x, rfl, h1, h2⟩ := open_cells htr
      refine ⟨x, ⟨h1, h2⟩, fun j u hj => ?_⟩
      have hjl : j < 7 := by
        have := (List.getElem?_eq_some_iff.1 hj).1
        rwa [cells_len] at this
      have := hat j hjl
      rw [Go.Deep.add_add] at this
      rw [this]; exact hj)
    refine ⟨some a, len, cap, (List.range len).map O, rfl, ⟨by simp, ?_, ?_, hl, by unfold maxLen at hm; omega⟩, ?_⟩
    · rcases Nat.eq_zero_or_pos len with z | z
      · subst z; left; rfl
      have z0 := (hO 0 z).2 0 _ rfl
      rcases a with ⟨b, off, spot⟩
      have hs : spot = none := by
        cases spot with
        | none => rfl
        | some s => simp [World.cell?, Addr.add] at z0; split at z0 <;> simp at z0
      subst hs
      refine .inr ⟨b, off, rfl, fun j u hj => ?_⟩
      have hjl : j < len * 7 := by
        have := (List.getElem?_eq_some_iff.1 hj).1
        rwa [flat_len, List.length_map, List.length_range] at this
      have hk : ((List.range len).map O)[j / 7]? = some (O (j / 7)) := by simp [show j / 7 < len by omega]
      have hf := flat_at _ _ _ hk (j % 7) (by omega)
      rw [show j / 7 * 7 + j % 7 = j by omega, hj] at hf
      have := (hO (j / 7) (by omega)).2 (j % 7) u hf.symm
      rw [addr_at, show j / 7 * 7 + j % 7 = j by omega] at this
      exact this
    · intro x hx
      obtain ⟨i, hi, rfl⟩ := List.mem_map.1 hx
      exact (hO i (by simpa using hi)).1.1
    · intro x hx
      obtain ⟨i, hi, rfl⟩ := List.mem_map.1 hx
      exact (hO i (by simpa using hi)).1.2

/-- A system by value. -/
theorem open_system {r : Reach} {b0 : Nat} {v : Value} {d : DataW H} {p : List MemPlace} (hv : Value.okWide Try.prog W r b0 28 v) (h : DataW.Trod enc Try.prog W base spare held 28 v d p) :
    ∃ (s r : Int) (a : Option Addr) (n c : Nat) (L : List TV), v = .agg #[.int .i64 s, .int .i64 r, .slice a n c] ∧ Tasks W a n c L ∧ ∀ x ∈ L, I64 x.p ∧ I64 x.id := by
  obtain ⟨v0, v1, v2, y0, y1, y2, n, rfl, _, _, t0, t1, t2⟩ := Go.Joins.open_agg3 Try.underlying28 (by kernel_rfl) (by kernel_rfl) hv h
  obtain ⟨n0, e0, _, _⟩ := DataW.trod_int Try.underlying3 t0
  obtain ⟨n1, e1, _, _⟩ := DataW.trod_int Try.underlying2 t1
  obtain ⟨a, n2, c, L, e2, h2, h3⟩ := open_tasks t2
  simp at e0 e1
  subst e0 e1 e2
  exact ⟨n0, n1, a, n2, c, L, rfl, h2, h3⟩
end
end Go.Proofs.Ytknjldmpcokgfaa
