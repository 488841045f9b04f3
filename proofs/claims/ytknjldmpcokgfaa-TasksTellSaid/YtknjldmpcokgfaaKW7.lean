/-
  The walk over what is wrong with a task.
-/
import Derived.Test.YtknjldmpcokgfaaKW6
namespace Go.Proofs.Ytknjldmpcokgfaa
open Go.RowKit Go.Maps

/-- What is wrong with a task, beside so many sets. -/
def idBad (x : TV) : Prop := ¬ (1 ≤ x.id ∧ x.id ≤ 99 ∧ 1 ≤ x.p ∧ x.p ≤ 99)
def cdBad (x : TV) : Prop := ¬ (1 ≤ x.c ∧ x.c ≤ x.d ∧ x.d ≤ x.t ∧ x.t ≤ 1073741824)
def chBad (x : TV) : Prop := 64 < x.ch.length ∨ (x.ch ≠ [] ∧ fillB x.ch x.c = false)
def usBad (x : TV) (s : Int) : Prop := 64 < x.us.length ∨ x.us.any (badB s) = true
instance (x : TV) : Decidable (idBad x) := by unfold idBad; infer_instance
instance (x : TV) : Decidable (cdBad x) := by unfold cdBad; infer_instance
instance (x : TV) : Decidable (chBad x) := by unfold chBad; infer_instance
instance (x : TV) (s : Int) : Decidable (usBad x s) := by unfold usBad; infer_instance
def rightOf (x : TV) (s : Int) : Int := if idBad x then 1 else if cdBad x then 10 else if chBad x then 13 else if usBad x s then 12 else 0

theorem fill_chunks (x : TV) (h : 1 ≤ x.c) : fillB (chunksOf x) x.c = true ↔ ¬ (x.ch ≠ [] ∧ fillB x.ch x.c = false) := by
  unfold chunksOf
  split
  · rename_i e
    rw [fillB, if_pos ⟨h, Int.le_refl _⟩, fillB]
    simp [e]
  · rename_i e
    simp [e]

/-- A task in a box, and its bound in another one. -/
structure Boxed (w : World) (x : TV) (s : Int) (v : World) : Prop where
  low : Below w.heap.size w v
  at_ : AtB v w.heap.size x
  cell : v.cell? ⟨w.heap.size + 1, 0, none⟩ = some (.int .i64 s)
theorem Boxed.below {w v v' : World} {x : TV} {s : Int} (h : Boxed w x s v) (hb : Below v.heap.size v v') : Boxed w x s v' :=
  ⟨below_up h.low hb, h.at_.below hb, kept_cell hb h.cell⟩
theorem boxed_new {w : World} {x : TV} {s : Int} {T T' : TypeId} :
    Boxed w x s ((w.alloc (.cells #[.int .i64 x.id, .int .i64 x.c, .int .i64 x.d, .int .i64 x.t, .int .i64 x.p, .slice x.a1 x.ch.length x.c1, .slice x.a2 x.us.length x.c2] T)).alloc (.cells #[.int .i64 s] T')) :=
  ⟨(by repeat (first | exact Below.refl _ _ | (with_reducible assumption) | refine bw_alloc ?_ _ | refine bw_drew ?_)), (atB_new w x T).below ((Below.refl _ _).alloc (Nat.le_refl _) _), (new_second w _ _ _ 0).trans rfl⟩

theorem fillC {w : World} {x : TV} (hx : x.ok w) (hc : x.c ≤ 9223372036854775807) {a : Option Addr} {cap : Nat} {v : World} (hv : Ints v a (chunksOf x)) (hl : ((chunksOf x).length : Int) ≤ 9223372036854775807) {q : Bool} (hq : fillB (chunksOf x) x.c = q) :
    Calls Try.prog 33 #[.slice a (chunksOf x).length cap, .int .i64 x.c] v fun e w' => e = .returned (.bool q) ∧ v = w' := by
  rw [← hq]
  exact fill_any a _ cap _ rfl hl _ hc v hv

set_option maxRecDepth 100000 in
set_option maxHeartbeats 8000000 in
theorem right_any (x : TV) (s : Int) (w : World) (hx : x.ok w) : Calls Try.prog 10 #[x.val, .int .i64 s] w fun e w' => e = .returned (.int .i64 (rightOf x s)) ∧ Below w.heap.size w w' := by
  have HX := Lib.hid hx
  unfold TV.val
  by_cases h1 : 1 ≤ x.id ∧ x.id ≤ 99
  rotate_left
  · have hr : rightOf x s = 1 := by unfold rightOf; rw [if_pos]; unfold idBad; omega
    rw [hr]
    have C := Lib.hid (fun w => within_no x.id 1 99 h1 w)
    clear hr h1 hx
    go_enter Try.func10, Try.ntmps10
    go_wp2_with (go_at_call 32; (with_reducible refine (C.out _).mono ?_); rintro e w1 ⟨rfl, rfl⟩)
    go_ret
    exact ⟨rfl, (by repeat (first | exact Below.refl _ _ | (with_reducible assumption) | refine bw_alloc ?_ _ | refine bw_drew ?_))⟩
  by_cases h2 : 1 ≤ x.p ∧ x.p ≤ 99
  rotate_left
  · have hr : rightOf x s = 1 := by unfold rightOf; rw [if_pos]; unfold idBad; omega
    rw [hr]
    have C := Lib.hid (fun w => within_yes x.id 1 99 h1.1 h1.2 w)
    have D := Lib.hid (fun w => within_no x.p 1 99 h2 w)
    clear hr h1 h2 hx
    go_enter Try.func10, Try.ntmps10
    go_wp2_with (first
      | (go_at_call 32; (with_reducible refine (C.out _).mono ?_); rintro e w1 ⟨rfl, rfl⟩)
      | (go_at_call 32; (with_reducible refine (D.out _).mono ?_); rintro e w1 ⟨rfl, rfl⟩))
    go_ret
    exact ⟨rfl, (by repeat (first | exact Below.refl _ _ | (with_reducible assumption) | refine bw_alloc ?_ _ | refine bw_drew ?_))⟩
  have hid : ¬ idBad x := fun z => z ⟨h1.1, h1.2, h2.1, h2.2⟩
  have C := Lib.hid (fun w => within_yes x.id 1 99 h1.1 h1.2 w)
  have D := Lib.hid (fun w => within_yes x.p 1 99 h2.1 h2.2 w)
  have hr0 : rightOf x s = if cdBad x then 10 else if chBad x then 13 else if usBad x s then 12 else 0 := by unfold rightOf; rw [if_neg hid]
  rw [hr0]
  clear h1 h2 hid hr0
  by_cases h3 : cdBad x
  · rw [if_pos h3]
    clear hx
    unfold cdBad at h3
    have d : decide (x.c < 1) = true ∨ (decide (x.c < 1) = false ∧ decide (x.d < x.c) = true) ∨ (decide (x.c < 1) = false ∧ decide (x.d < x.c) = false ∧ decide (x.t < x.d) = true) ∨ (decide (x.c < 1) = false ∧ decide (x.d < x.c) = false ∧ decide (x.t < x.d) = false ∧ decide (1073741824 < x.t) = true) := by
      simp only [decide_eq_true_eq, decide_eq_false_iff_not]; omega
    clear h3
    rcases d with d1 | ⟨d1, d2⟩ | ⟨d1, d2, d3⟩ | ⟨d1, d2, d3, d4⟩
    all_goals
      go_enter Try.func10, Try.ntmps10
      go_wp2_with (first
        | (go_at_call 32; (with_reducible refine (C.out _).mono ?_); rintro e w1 ⟨rfl, rfl⟩)
        | (go_at_call 32; (with_reducible refine (D.out _).mono ?_); rintro e w1 ⟨rfl, rfl⟩))
      go_ret
      exact ⟨rfl, (by repeat (first | exact Below.refl _ _ | (with_reducible assumption) | refine bw_alloc ?_ _ | refine bw_drew ?_))⟩
  rw [if_neg h3]
  unfold cdBad at h3
  have hc1 : 1 ≤ x.c := by omega
  have hc2 : x.c ≤ 9223372036854775807 := by omega
  have d1 : decide (x.c < 1) = false := decide_eq_false (by omega)
  have d2 : decide (x.d < x.c) = false := decide_eq_false (by omega)
  have d3 : decide (x.t < x.d) = false := decide_eq_false (by omega)
  have d4 : decide (1073741824 < x.t) = false := decide_eq_false (by omega)
  clear h3
  by_cases h4 : 64 < x.ch.length
  · rw [if_pos (show chBad x from .inl h4)]
    have d5 : decide ((64 : Int) < (x.ch.length : Int)) = true := decide_eq_true (by omega)
    clear hc1 hc2 hx
    have h5 : (64 : Int) < (x.ch.length : Int) := by omega
    go_enter Try.func10, Try.ntmps10
    go_wp2_with (first
      | (go_at_call 32; (with_reducible refine (C.out _).mono ?_); rintro e w1 ⟨rfl, rfl⟩)
      | (go_at_call 32; (with_reducible refine (D.out _).mono ?_); rintro e w1 ⟨rfl, rfl⟩))
    go_ret
    exact ⟨rfl, (by repeat (first | exact Below.refl _ _ | (with_reducible assumption) | refine bw_alloc ?_ _ | refine bw_drew ?_))⟩
  have d5 : decide ((64 : Int) < (x.ch.length : Int)) = false := decide_eq_false (by omega)
  have h5 : ¬ (64 : Int) < (x.ch.length : Int) := by omega
  by_cases h6 : fillB (chunksOf x) x.c = true
  rotate_left
  · have hb : chBad x := .inr (by have := mt (fill_chunks x hc1).2 h6; simpa using this)
    rw [if_pos hb]
    have F : Hid (∀ (a : Option Addr) (cap : Nat) (v : World), Ints v a (chunksOf x) → ((chunksOf x).length : Int) ≤ 9223372036854775807 → _) := fun a cap v hv hl => fillC (cap := cap) hx hc2 hv hl (q := false) (by simpa using h6)
    clear hb h6 hc1 hc2 hx h4
    go_enter Try.func10, Try.ntmps10
    go_upto_region 10 with (first
      | (go_at_call 32; (with_reducible refine (C.out _).mono ?_); rintro e w1 ⟨rfl, rfl⟩)
      | (go_at_call 32; (with_reducible refine (D.out _).mono ?_); rintro e w1 ⟨rfl, rfl⟩))
    refine gen_world (Boxed w x s) boxed_new ?_
    intro W1 hw1
    have H1 := Lib.hid hw1
    obtain ⟨_, ⟨c0, c1, c2, c3, c4, c5, c6⟩, e0⟩ := hw1
    have K : Hid (∀ v, Below W1.heap.size W1 v → _) := fun v hb => chunks_under x W1 v hb (HX.out.below H1.out.low)
    have MK : Hid (∀ v, Below W1.heap.size W1 v → (Below W1.heap.size W1 v ∧ v.cell? ⟨w.heap.size, 0, none⟩ = some (.int .i64 x.id) ∧ v.cell? ⟨w.heap.size, 1, none⟩ = some (.int .i64 x.c) ∧ v.cell? ⟨w.heap.size, 2, none⟩ = some (.int .i64 x.d) ∧ v.cell? ⟨w.heap.size, 3, none⟩ = some (.int .i64 x.t) ∧ v.cell? ⟨w.heap.size, 4, none⟩ = some (.int .i64 x.p) ∧ v.cell? ⟨w.heap.size, 5, none⟩ = some (.slice x.a1 x.ch.length x.c1) ∧ v.cell? ⟨w.heap.size, 6, none⟩ = some (.slice x.a2 x.us.length x.c2))) :=
      fun v hb => ⟨hb, (H1.out.below hb).at_.c0, (H1.out.below hb).at_.c1, (H1.out.below hb).at_.c2, (H1.out.below hb).at_.c3, (H1.out.below hb).at_.c4, (H1.out.below hb).at_.c5, (H1.out.below hb).at_.c6⟩
    clear e0
    go_region_held3 (fun v => Below W1.heap.size W1 v ∧ v.cell? ⟨w.heap.size, 0, none⟩ = some (.int .i64 x.id) ∧ v.cell? ⟨w.heap.size, 1, none⟩ = some (.int .i64 x.c) ∧ v.cell? ⟨w.heap.size, 2, none⟩ = some (.int .i64 x.d) ∧ v.cell? ⟨w.heap.size, 3, none⟩ = some (.int .i64 x.t) ∧ v.cell? ⟨w.heap.size, 4, none⟩ = some (.int .i64 x.p) ∧ v.cell? ⟨w.heap.size, 5, none⟩ = some (.slice x.a1 x.ch.length x.c1) ∧ v.cell? ⟨w.heap.size, 6, none⟩ = some (.slice x.a2 x.us.length x.c2)) (exact MK.out _ (by repeat (first | exact Below.refl _ _ | (with_reducible assumption) | refine bw_alloc ?_ _ | refine bw_drew ?_)))
      (first
        | (go_at_call 34; (with_reducible refine (K.out _ (by repeat (first | exact Below.refl _ _ | (with_reducible assumption) | refine bw_alloc ?_ _ | refine bw_drew ?_))).mono ?_); rintro e wx ⟨a, cp, rfl, hI, bx, hl⟩)
        | (go_at_call 33; (with_reducible refine (F.out _ _ _ hI hl).mono ?_); rintro e wy ⟨rfl, rfl⟩))
    all_goals
      have BX := Lib.hid bx
      clear bx hI hl
      go_wp2
      go_ret
      exact ⟨rfl, below_up H1.out.low BX.out⟩
  have hnc : ¬ chBad x := by
    rintro (z | z)
    · exact h4 z
    · exact (fill_chunks x hc1).1 h6 z
  rw [if_neg hnc]
  have F : Hid (∀ (a : Option Addr) (cap : Nat) (v : World), Ints v a (chunksOf x) → ((chunksOf x).length : Int) ≤ 9223372036854775807 → _) := fun a cap v hv hl => fillC (cap := cap) hx hc2 hv hl (q := true) h6
  have hul : (x.us.length : Int) ≤ 9223372036854775807 := by have := hx.l2; have := hx.m2; omega
  clear hnc h6 hc1 hc2 hx h4
  by_cases h7 : 64 < x.us.length
  · rw [if_pos (show usBad x s from .inl h7)]
    have d6 : decide ((64 : Int) < (x.us.length : Int)) = true := decide_eq_true (by omega)
    have h8 : (64 : Int) < (x.us.length : Int) := by omega
    clear h7 hul
    go_enter Try.func10, Try.ntmps10
    go_upto_region 10 with (first
      | (go_at_call 32; (with_reducible refine (C.out _).mono ?_); rintro e w1 ⟨rfl, rfl⟩)
      | (go_at_call 32; (with_reducible refine (D.out _).mono ?_); rintro e w1 ⟨rfl, rfl⟩))
    refine gen_world (Boxed w x s) boxed_new ?_
    intro W1 hw1
    have H1 := Lib.hid hw1
    obtain ⟨_, ⟨c0, c1, c2, c3, c4, c5, c6⟩, e0⟩ := hw1
    have K : Hid (∀ v, Below W1.heap.size W1 v → _) := fun v hb => chunks_under x W1 v hb (HX.out.below H1.out.low)
    have MK : Hid (∀ v, Below W1.heap.size W1 v → (Below W1.heap.size W1 v ∧ v.cell? ⟨w.heap.size, 0, none⟩ = some (.int .i64 x.id) ∧ v.cell? ⟨w.heap.size, 1, none⟩ = some (.int .i64 x.c) ∧ v.cell? ⟨w.heap.size, 2, none⟩ = some (.int .i64 x.d) ∧ v.cell? ⟨w.heap.size, 3, none⟩ = some (.int .i64 x.t) ∧ v.cell? ⟨w.heap.size, 4, none⟩ = some (.int .i64 x.p) ∧ v.cell? ⟨w.heap.size, 5, none⟩ = some (.slice x.a1 x.ch.length x.c1) ∧ v.cell? ⟨w.heap.size, 6, none⟩ = some (.slice x.a2 x.us.length x.c2))) :=
      fun v hb => ⟨hb, (H1.out.below hb).at_.c0, (H1.out.below hb).at_.c1, (H1.out.below hb).at_.c2, (H1.out.below hb).at_.c3, (H1.out.below hb).at_.c4, (H1.out.below hb).at_.c5, (H1.out.below hb).at_.c6⟩
    clear e0
    go_region_held3 (fun v => Below W1.heap.size W1 v ∧ v.cell? ⟨w.heap.size, 0, none⟩ = some (.int .i64 x.id) ∧ v.cell? ⟨w.heap.size, 1, none⟩ = some (.int .i64 x.c) ∧ v.cell? ⟨w.heap.size, 2, none⟩ = some (.int .i64 x.d) ∧ v.cell? ⟨w.heap.size, 3, none⟩ = some (.int .i64 x.t) ∧ v.cell? ⟨w.heap.size, 4, none⟩ = some (.int .i64 x.p) ∧ v.cell? ⟨w.heap.size, 5, none⟩ = some (.slice x.a1 x.ch.length x.c1) ∧ v.cell? ⟨w.heap.size, 6, none⟩ = some (.slice x.a2 x.us.length x.c2)) (exact MK.out _ (by repeat (first | exact Below.refl _ _ | (with_reducible assumption) | refine bw_alloc ?_ _ | refine bw_drew ?_)))
      (first
        | (go_at_call 34; (with_reducible refine (K.out _ (by repeat (first | exact Below.refl _ _ | (with_reducible assumption) | refine bw_alloc ?_ _ | refine bw_drew ?_))).mono ?_); rintro e wx ⟨a, cp, rfl, hI, bx, hl⟩)
        | (go_at_call 33; (with_reducible refine (F.out _ _ _ hI hl).mono ?_); rintro e wy ⟨rfl, rfl⟩))
    all_goals
      have H2 := Lib.hid (H1.out.below bx)
      obtain ⟨_, ⟨f0, f1, f2, f3, f4, f5, f6⟩, g0⟩ := H2.out
      clear bx hI hl c0 c1 c2 c3 c4 c5 c6
      go_wp2
      go_ret
      exact ⟨rfl, H2.out.low⟩
  have d6 : decide ((64 : Int) < (x.us.length : Int)) = false := decide_eq_false (by omega)
  have h8 : ¬ (64 : Int) < (x.us.length : Int) := by omega
  by_cases h9 : x.us.any (badB s) = true
  · rw [if_pos (show usBad x s from .inr h9)]
    have HN := Lib.hid h9
    clear h7 h9
    go_enter Try.func10, Try.ntmps10
    go_upto_region 10 with (first
      | (go_at_call 32; (with_reducible refine (C.out _).mono ?_); rintro e w1 ⟨rfl, rfl⟩)
      | (go_at_call 32; (with_reducible refine (D.out _).mono ?_); rintro e w1 ⟨rfl, rfl⟩))
    refine gen_world (Boxed w x s) boxed_new ?_
    intro W1 hw1
    have H1 := Lib.hid hw1
    obtain ⟨_, ⟨c0, c1, c2, c3, c4, c5, c6⟩, e0⟩ := hw1
    have K : Hid (∀ v, Below W1.heap.size W1 v → _) := fun v hb => chunks_under x W1 v hb (HX.out.below H1.out.low)
    have MK : Hid (∀ v, Below W1.heap.size W1 v → (Below W1.heap.size W1 v ∧ v.cell? ⟨w.heap.size, 0, none⟩ = some (.int .i64 x.id) ∧ v.cell? ⟨w.heap.size, 1, none⟩ = some (.int .i64 x.c) ∧ v.cell? ⟨w.heap.size, 2, none⟩ = some (.int .i64 x.d) ∧ v.cell? ⟨w.heap.size, 3, none⟩ = some (.int .i64 x.t) ∧ v.cell? ⟨w.heap.size, 4, none⟩ = some (.int .i64 x.p) ∧ v.cell? ⟨w.heap.size, 5, none⟩ = some (.slice x.a1 x.ch.length x.c1) ∧ v.cell? ⟨w.heap.size, 6, none⟩ = some (.slice x.a2 x.us.length x.c2))) :=
      fun v hb => ⟨hb, (H1.out.below hb).at_.c0, (H1.out.below hb).at_.c1, (H1.out.below hb).at_.c2, (H1.out.below hb).at_.c3, (H1.out.below hb).at_.c4, (H1.out.below hb).at_.c5, (H1.out.below hb).at_.c6⟩
    clear e0
    go_region_held3 (fun v => Below W1.heap.size W1 v ∧ v.cell? ⟨w.heap.size, 0, none⟩ = some (.int .i64 x.id) ∧ v.cell? ⟨w.heap.size, 1, none⟩ = some (.int .i64 x.c) ∧ v.cell? ⟨w.heap.size, 2, none⟩ = some (.int .i64 x.d) ∧ v.cell? ⟨w.heap.size, 3, none⟩ = some (.int .i64 x.t) ∧ v.cell? ⟨w.heap.size, 4, none⟩ = some (.int .i64 x.p) ∧ v.cell? ⟨w.heap.size, 5, none⟩ = some (.slice x.a1 x.ch.length x.c1) ∧ v.cell? ⟨w.heap.size, 6, none⟩ = some (.slice x.a2 x.us.length x.c2)) (exact MK.out _ (by repeat (first | exact Below.refl _ _ | (with_reducible assumption) | refine bw_alloc ?_ _ | refine bw_drew ?_)))
      (first
        | (go_at_call 34; (with_reducible refine (K.out _ (by repeat (first | exact Below.refl _ _ | (with_reducible assumption) | refine bw_alloc ?_ _ | refine bw_drew ?_))).mono ?_); rintro e wx ⟨a, cp, rfl, hI, bx, hl⟩)
        | (go_at_call 33; (with_reducible refine (F.out _ _ _ hI hl).mono ?_); rintro e wy ⟨rfl, rfl⟩))
    all_goals
      have H2 := Lib.hid (H1.out.below bx)
      obtain ⟨_, ⟨f0, f1, f2, f3, f4, f5, f6⟩, g0⟩ := H2.out
      have G := Lib.hid (contains_any x.a2 x.us.length x.c2 x.us rfl hul s (w.heap.size + 1) _ (HX.out.below H2.out.low).two g0)
      rw [HN.out] at G
      clear bx hI hl c0 c1 c2 c3 c4 c5 c6
      go_wp2_with (go_at_call 35; (with_reducible refine (G.out).mono ?_); rintro e w1 ⟨rfl, rfl⟩)
      go_ret
      exact ⟨rfl, H2.out.low⟩
  · have hnu : ¬ usBad x s := fun z => z.elim h7 h9
    rw [if_neg hnu]
    have HN : Hid (x.us.any (badB s) = false) := by show _ = _; simpa using h9
    clear h7 h9 hnu
    go_enter Try.func10, Try.ntmps10
    go_upto_region 10 with (first
      | (go_at_call 32; (with_reducible refine (C.out _).mono ?_); rintro e w1 ⟨rfl, rfl⟩)
      | (go_at_call 32; (with_reducible refine (D.out _).mono ?_); rintro e w1 ⟨rfl, rfl⟩))
    refine gen_world (Boxed w x s) boxed_new ?_
    intro W1 hw1
    have H1 := Lib.hid hw1
    obtain ⟨_, ⟨c0, c1, c2, c3, c4, c5, c6⟩, e0⟩ := hw1
    have K : Hid (∀ v, Below W1.heap.size W1 v → _) := fun v hb => chunks_under x W1 v hb (HX.out.below H1.out.low)
    have MK : Hid (∀ v, Below W1.heap.size W1 v → (Below W1.heap.size W1 v ∧ v.cell? ⟨w.heap.size, 0, none⟩ = some (.int .i64 x.id) ∧ v.cell? ⟨w.heap.size, 1, none⟩ = some (.int .i64 x.c) ∧ v.cell? ⟨w.heap.size, 2, none⟩ = some (.int .i64 x.d) ∧ v.cell? ⟨w.heap.size, 3, none⟩ = some (.int .i64 x.t) ∧ v.cell? ⟨w.heap.size, 4, none⟩ = some (.int .i64 x.p) ∧ v.cell? ⟨w.heap.size, 5, none⟩ = some (.slice x.a1 x.ch.length x.c1) ∧ v.cell? ⟨w.heap.size, 6, none⟩ = some (.slice x.a2 x.us.length x.c2))) :=
      fun v hb => ⟨hb, (H1.out.below hb).at_.c0, (H1.out.below hb).at_.c1, (H1.out.below hb).at_.c2, (H1.out.below hb).at_.c3, (H1.out.below hb).at_.c4, (H1.out.below hb).at_.c5, (H1.out.below hb).at_.c6⟩
    clear e0
    go_region_held3 (fun v => Below W1.heap.size W1 v ∧ v.cell? ⟨w.heap.size, 0, none⟩ = some (.int .i64 x.id) ∧ v.cell? ⟨w.heap.size, 1, none⟩ = some (.int .i64 x.c) ∧ v.cell? ⟨w.heap.size, 2, none⟩ = some (.int .i64 x.d) ∧ v.cell? ⟨w.heap.size, 3, none⟩ = some (.int .i64 x.t) ∧ v.cell? ⟨w.heap.size, 4, none⟩ = some (.int .i64 x.p) ∧ v.cell? ⟨w.heap.size, 5, none⟩ = some (.slice x.a1 x.ch.length x.c1) ∧ v.cell? ⟨w.heap.size, 6, none⟩ = some (.slice x.a2 x.us.length x.c2)) (exact MK.out _ (by repeat (first | exact Below.refl _ _ | (with_reducible assumption) | refine bw_alloc ?_ _ | refine bw_drew ?_)))
      (first
        | (go_at_call 34; (with_reducible refine (K.out _ (by repeat (first | exact Below.refl _ _ | (with_reducible assumption) | refine bw_alloc ?_ _ | refine bw_drew ?_))).mono ?_); rintro e wx ⟨a, cp, rfl, hI, bx, hl⟩)
        | (go_at_call 33; (with_reducible refine (F.out _ _ _ hI hl).mono ?_); rintro e wy ⟨rfl, rfl⟩))
    all_goals
      have H2 := Lib.hid (H1.out.below bx)
      obtain ⟨_, ⟨f0, f1, f2, f3, f4, f5, f6⟩, g0⟩ := H2.out
      have G := Lib.hid (contains_any x.a2 x.us.length x.c2 x.us rfl hul s (w.heap.size + 1) _ (HX.out.below H2.out.low).two g0)
      rw [HN.out] at G
      clear bx hI hl c0 c1 c2 c3 c4 c5 c6
      go_wp2_with (go_at_call 35; (with_reducible refine (G.out).mono ?_); rintro e w1 ⟨rfl, rfl⟩)
      go_ret
      exact ⟨rfl, H2.out.low⟩
end Go.Proofs.Ytknjldmpcokgfaa
