/-
  The walks over whether two tasks are the same.
-/
import Derived.Test.YtknjldmpcokgfaaKW2
namespace Go.Proofs.Ytknjldmpcokgfaa
open Go.RowKit Go.Maps

theorem new_first (w : World) (cs : Array Value) (T : TypeId) (o : Obj) (i : Nat) : ((w.alloc (.cells cs T)).alloc o).cell? ⟨w.heap.size, i, none⟩ = cs[i]? := by
  rw [World.cell?_alloc_lt _ _ _ (by simp), World.cell?_alloc_new]
theorem new_second (w : World) (cs : Array Value) (T : TypeId) (o : Obj) (i : Nat) : ((w.alloc o).alloc (.cells cs T)).cell? ⟨w.heap.size + 1, i, none⟩ = cs[i]? := by
  have := World.cell?_alloc_new (w.alloc o) cs T i
  rwa [World.size_alloc] at this
theorem tk_eq (x y : TV) : x.tk = y.tk ↔ x.id = y.id ∧ x.c = y.c ∧ x.d = y.d ∧ x.t = y.t ∧ x.p = y.p ∧ x.ch = y.ch ∧ x.us = y.us := by
  simp [TV.tk]

set_option maxRecDepth 100000 in
set_option maxHeartbeats 4000000 in
theorem same_task (x y : TV) (w : World) (hx : x.ok w) (hy : y.ok w) : Calls Try.prog 16 #[x.val, y.val] w fun e w' => e = .returned (.bool (decide (x.tk = y.tk))) ∧ Below w.heap.size w w' := by
  obtain ⟨id, c, d, t, p, a1, ch, c1, a2, us, c2⟩ := x
  obtain ⟨id', c', d', t', p', a1', ch', c1', a2', us', c2'⟩ := y
  obtain ⟨i1, i2, l1, m1, l2, m2⟩ := hx
  obtain ⟨j1, j2, k1, n1, k2, n2⟩ := hy
  simp only at i1 i2 l1 m1 l2 m2 j1 j2 k1 n1 k2 n2
  unfold TV.val
  have CL : Hid (∀ w', Below w.heap.size w w' → _) := fun w' hb => eq_L ch.length ch'.length c1 c1' (by omega) (by omega) a1 a1' ch ch' rfl rfl w' (i1.below hb) (j1.below hb)
  have CI : Hid (∀ w', Below w.heap.size w w' → _) := fun w' hb => eq_I us.length us'.length c2 c2' (by omega) (by omega) a2 a2' us us' rfl rfl w' (i2.below hb) (j2.below hb)
  clear i1 i2 j1 j2 l1 m1 l2 m2 k1 n1 k2 n2
  by_cases h0 : id = id'
  rotate_left
  · have hq : ¬ ((TV.mk id c d t p a1 ch c1 a2 us c2).tk = (TV.mk id' c' d' t' p' a1' ch' c1' a2' us' c2').tk) := fun z => h0 ((tk_eq _ _).1 z).1
    rw [decide_eq_false hq]
    clear hq CL CI
    have d1 : (id == id') = false := by rw [beq_eq_false_iff_ne]; exact h0
    have d2 : decide (id = id') = false := decide_eq_false h0
    go_enter Try.func16, Try.ntmps16
    go_wp2
    go_ret
    exact ⟨rfl, (by repeat (first | exact Below.refl _ _ | (with_reducible assumption) | refine bw_alloc ?_ _ | refine bw_drew ?_))⟩
  subst h0
  by_cases h1 : c = c'
  rotate_left
  · have hq : ¬ ((TV.mk id c d t p a1 ch c1 a2 us c2).tk = (TV.mk id c' d' t' p' a1' ch' c1' a2' us' c2').tk) := fun z => h1 ((tk_eq _ _).1 z).2.1
    rw [decide_eq_false hq]
    clear hq CL CI
    have d1 : (c == c') = false := by rw [beq_eq_false_iff_ne]; exact h1
    have d2 : decide (c = c') = false := decide_eq_false h1
    go_enter Try.func16, Try.ntmps16
    go_wp2
    go_ret
    exact ⟨rfl, (by repeat (first | exact Below.refl _ _ | (with_reducible assumption) | refine bw_alloc ?_ _ | refine bw_drew ?_))⟩
  subst h1
  by_cases h2 : d = d'
  rotate_left
  · have hq : ¬ ((TV.mk id c d t p a1 ch c1 a2 us c2).tk = (TV.mk id c d' t' p' a1' ch' c1' a2' us' c2').tk) := fun z => h2 ((tk_eq _ _).1 z).2.2.1
    rw [decide_eq_false hq]
    clear hq CL CI
    have d1 : (d == d') = false := by rw [beq_eq_false_iff_ne]; exact h2
    have d2 : decide (d = d') = false := decide_eq_false h2
    go_enter Try.func16, Try.ntmps16
    go_wp2
    go_ret
    exact ⟨rfl, (by repeat (first | exact Below.refl _ _ | (with_reducible assumption) | refine bw_alloc ?_ _ | refine bw_drew ?_))⟩
  subst h2
  by_cases h3 : t = t'
  rotate_left
  · have hq : ¬ ((TV.mk id c d t p a1 ch c1 a2 us c2).tk = (TV.mk id c d t' p' a1' ch' c1' a2' us' c2').tk) := fun z => h3 ((tk_eq _ _).1 z).2.2.2.1
    rw [decide_eq_false hq]
    clear hq CL CI
    have d1 : (t == t') = false := by rw [beq_eq_false_iff_ne]; exact h3
    have d2 : decide (t = t') = false := decide_eq_false h3
    go_enter Try.func16, Try.ntmps16
    go_wp2
    go_ret
    exact ⟨rfl, (by repeat (first | exact Below.refl _ _ | (with_reducible assumption) | refine bw_alloc ?_ _ | refine bw_drew ?_))⟩
  subst h3
  by_cases h4 : p = p'
  rotate_left
  · have hq : ¬ ((TV.mk id c d t p a1 ch c1 a2 us c2).tk = (TV.mk id c d t p' a1' ch' c1' a2' us' c2').tk) := fun z => h4 ((tk_eq _ _).1 z).2.2.2.2.1
    rw [decide_eq_false hq]
    clear hq CL CI
    have d1 : (p == p') = false := by rw [beq_eq_false_iff_ne]; exact h4
    have d2 : decide (p = p') = false := decide_eq_false h4
    go_enter Try.func16, Try.ntmps16
    go_wp2
    go_ret
    exact ⟨rfl, (by repeat (first | exact Below.refl _ _ | (with_reducible assumption) | refine bw_alloc ?_ _ | refine bw_drew ?_))⟩
  subst h4
  by_cases h5 : ch = ch'
  rotate_left
  · have hq : ¬ ((TV.mk id c d t p a1 ch c1 a2 us c2).tk = (TV.mk id c d t p a1' ch' c1' a2' us' c2').tk) := fun z => h5 ((tk_eq _ _).1 z).2.2.2.2.2.1
    rw [decide_eq_false hq]
    rw [decide_eq_false h5] at CL
    clear hq CI h5
    go_enter Try.func16, Try.ntmps16
    go_wp2_with (go_at_call 41; (with_reducible refine (CL.out _ (by repeat (first | exact Below.refl _ _ | (with_reducible assumption) | refine bw_alloc ?_ _ | refine bw_drew ?_))).mono ?_); rintro e w1 ⟨rfl, b1⟩; have B1 := Lib.hid b1; clear b1)
    go_ret
    exact ⟨rfl, below_up (by repeat (first | exact Below.refl _ _ | (with_reducible assumption) | refine bw_alloc ?_ _ | refine bw_drew ?_)) B1.out⟩
  have hq : decide ((TV.mk id c d t p a1 ch c1 a2 us c2).tk = (TV.mk id c d t p a1' ch' c1' a2' us' c2').tk) = decide (us = us') := by
    simp [tk_eq, h5]
  rw [hq]
  rw [decide_eq_true h5] at CL
  clear hq h5
  obtain ⟨q, hq⟩ : ∃ q, decide (us = us') = q := ⟨_, rfl⟩
  rw [hq] at CI ⊢
  clear hq
  go_enter Try.func16, Try.ntmps16
  go_wp2_with (first
    | (go_at_call 41; (with_reducible refine (CL.out _ (by repeat (first | exact Below.refl _ _ | (with_reducible assumption) | refine bw_alloc ?_ _ | refine bw_drew ?_))).mono ?_); rintro e w1 ⟨rfl, b1⟩; have B1 := Lib.hid (below_up (W := w) (by repeat (first | exact Below.refl _ _ | (with_reducible assumption) | refine bw_alloc ?_ _ | refine bw_drew ?_)) b1); have A0 := kept_cell (v := .slice a2 us.length c2) b1 ((new_first w _ _ _ 6).trans rfl); have A1 := kept_cell (v := .slice a2' us'.length c2') b1 ((new_second w _ _ _ 6).trans rfl); clear b1)
    | (go_at_call 42; (with_reducible refine (CI.out _ B1.out).mono ?_); rintro e w2 ⟨rfl, b2⟩; have B2 := Lib.hid b2; clear b2))
  go_ret
  exact ⟨rfl, below_up B1.out B2.out⟩
end Go.Proofs.Ytknjldmpcokgfaa
