/-
  The walks over one number put in, taken out, looked for.
-/
import Derived.Test.YtigafpmhgogpmaaDoorBWalk3
import Derived.Test.YtigafpmhgogpmaaDoorBEq
import Derived.Deep.RegionHeld3
namespace Go.Proofs.YtigafpmhgogpmaaDoor
open Go.RowKit
attribute [local go_sem] set_eq

theorem orN_two (p q : Nat → Bool) (k : Nat) (hk : k < 4) : wd (orN [p, q] 2) k = wd (orP p q) k := wd_congr (fun i _ => by simp [orN, orP, noneP]) hk

theorem or_two (p q : Nat → Bool) (b : Nat) (w : World) (hb : b < w.heap.size)
    (h0 : w.cell? ⟨b, 0, none⟩ = some (.int .u64 (wd p 0))) (h1 : w.cell? ⟨b, 1, none⟩ = some (.int .u64 (wd p 1))) (h2 : w.cell? ⟨b, 2, none⟩ = some (.int .u64 (wd p 2))) (h3 : w.cell? ⟨b, 3, none⟩ = some (.int .u64 (wd p 3)))
    (h4 : w.cell? ⟨b, 4, none⟩ = some (.int .u64 (wd q 0))) (h5 : w.cell? ⟨b, 5, none⟩ = some (.int .u64 (wd q 1))) (h6 : w.cell? ⟨b, 6, none⟩ = some (.int .u64 (wd q 2))) (h7 : w.cell? ⟨b, 7, none⟩ = some (.int .u64 (wd q 3))) :
    Calls Tryd.prog 22 #[.slice (some ⟨b, 0, none⟩) 2 2] w fun e w' => e = .returned (.agg #[.int .u64 (wd (orP p q) 0), .int .u64 (wd (orP p q) 1), .int .u64 (wd (orP p q) 2), .int .u64 (wd (orP p q) 3)]) ∧ Below w.heap.size w w' := by
  have h := or_any [p, q] (by simp) 2 (some ⟨b, 0, none⟩) w (.inr ⟨b, 0, rfl, hb, fun k hk => by
    rcases (show k = 0 ∨ k = 1 by simp at hk; omega) with rfl | rfl
    · exact ⟨h0, h1, h2, h3⟩
    · exact ⟨h4, h5, h6, h7⟩⟩)
  rw [show ([p, q] : List (Nat → Bool)).length = 2 from rfl, orN_two p q 0 (by omega), orN_two p q 1 (by omega), orN_two p q 2 (by omega), orN_two p q 3 (by omega)] at h
  exact h

set_option maxHeartbeats 2000000 in
theorem with_any (p : Nat → Bool) (i : Int) (hu : i ≤ 9223372036854775807) (w : World) :
    Calls Tryd.prog 13 #[.agg #[.int .u64 (wd p 0), .int .u64 (wd p 1), .int .u64 (wd p 2), .int .u64 (wd p 3)], .int .i64 i] w fun e w' => e = .returned (.agg #[.int .u64 (wd (orP p (oneP i)) 0), .int .u64 (wd (orP p (oneP i)) 1), .int .u64 (wd (orP p (oneP i)) 2), .int .u64 (wd (orP p (oneP i)) 3)]) ∧ Below w.heap.size w w' := by
  have O := Lib.hid (fun w => only_any i hu w)
  have C := Lib.hid (fun b w h => or_two p (oneP i) b w h)
  clear hu
  generalize wd (orP p (oneP i)) = r at C ⊢
  generalize wd (oneP i) = o at O C
  generalize wd p = a at C ⊢
  go_enter Tryd.func13, Tryd.ntmps13
  go_wp2
  refine gen_world (fun w' => Four w' w.heap.size (a 0) (a 1) (a 2) (a 3) ∧ Four w' (w.heap.size + 1) 0 0 0 0 ∧ Below w.heap.size w w') ⟨(Four.new w _ _ _ _ _).alloc _, by simpa using Four.new (w.alloc _) 0 0 0 0 _, ((Below.refl _ _).alloc (Nat.le_refl _) _).alloc (by simp) _⟩ ?_
  intro W1 ⟨fa, fz, hb⟩
  have FA := Lib.hid fa
  have FZ := Lib.hid fz
  have HB := Lib.hid hb
  obtain ⟨a0, a1, a2, a3, _, _, _, _⟩ := fa
  clear fz hb
  go_region_with (first | (go_at_call 30; (refine (O.out _).mono ?_); rintro e w1 ⟨rfl, hw1⟩; obtain ⟨b0, b1, b2, b3, _, _, _, _⟩ := Four.next hw1 FA.out; have FZ1 := Lib.hid (Four.next hw1 FZ.out); have HB1 := Lib.hid (below_next hw1 HB.out (Nat.le_refl _)); clear hw1) | (go_at_call 22; (refine (C.out _ _ (by simp) (by simp) (by simp) (by simp) (by simp) (by simp) (by simp) (by simp) (by simp)).mono ?_); rintro e w2 ⟨rfl, hw2⟩; have FZ2 := Lib.hid (Four.next hw2 (FZ1.out.alloc _)); have HB2 := Lib.hid (below_next hw2 (HB1.out.alloc HB1.out.size _) (Nat.le_refl _)); obtain ⟨z0, z1, z2, z3, v0, v1, v2, v3⟩ := FZ2.out; clear hw2))
  all_goals
    go_wp2
    refine bodyPost_ret (v := .agg #[.int .u64 (r 0), .int .u64 (r 1), .int .u64 (r 2), .int .u64 (r 3)]) ?_ rfl ⟨rfl, below_set4 HB2.out (by simp) (r 0) (r 1) (r 2) (r 3)⟩
    obtain ⟨s0, s1, s2, s3, _, _, _, _⟩ := FZ2.out.set4 (r 0) (r 1) (r 2) (r 3)
    unfold set4 at s0 s1 s2 s3
    simp [results, Tryd.results13, go_sem, s0, s1, s2, s3]

set_option maxHeartbeats 2000000 in
theorem without_any (p : Nat → Bool) (i : Int) (hu : i ≤ 9223372036854775807) (w : World) :
    Calls Tryd.prog 15 #[.agg #[.int .u64 (wd p 0), .int .u64 (wd p 1), .int .u64 (wd p 2), .int .u64 (wd p 3)], .int .i64 i] w fun e w' => e = .returned (.agg #[.int .u64 (wd (minusP p (oneP i)) 0), .int .u64 (wd (minusP p (oneP i)) 1), .int .u64 (wd (minusP p (oneP i)) 2), .int .u64 (wd (minusP p (oneP i)) 3)]) ∧ Below w.heap.size w w' := by
  have O := Lib.hid (fun w => only_any i hu w)
  have C := Lib.hid (fun w => minus_any p (oneP i) w)
  clear hu
  generalize wd (minusP p (oneP i)) = r at C ⊢
  generalize wd (oneP i) = o at O C
  generalize wd p = a at C ⊢
  go_enter Tryd.func15, Tryd.ntmps15
  go_wp2
  refine gen_world (fun w' => Four w' w.heap.size (a 0) (a 1) (a 2) (a 3) ∧ Four w' (w.heap.size + 1) 0 0 0 0 ∧ Below w.heap.size w w') ⟨(Four.new w _ _ _ _ _).alloc _, by simpa using Four.new (w.alloc _) 0 0 0 0 _, ((Below.refl _ _).alloc (Nat.le_refl _) _).alloc (by simp) _⟩ ?_
  intro W1 ⟨fa, fz, hb⟩
  have FA := Lib.hid fa
  have FZ := Lib.hid fz
  have HB := Lib.hid hb
  obtain ⟨a0, a1, a2, a3, _, _, _, _⟩ := fa
  clear fz hb
  go_region_with (first | (go_at_call 30; (refine (O.out _).mono ?_); rintro e w1 ⟨rfl, hw1⟩; obtain ⟨b0, b1, b2, b3, _, _, _, _⟩ := Four.next hw1 FA.out; have FZ1 := Lib.hid (Four.next hw1 FZ.out); have HB1 := Lib.hid (below_next hw1 HB.out (Nat.le_refl _)); clear hw1) | (go_at_call 26; (refine (C.out _).mono ?_); rintro e w2 ⟨rfl, hw2⟩; have FZ2 := Lib.hid (Four.next hw2 FZ1.out); have HB2 := Lib.hid (below_next hw2 HB1.out (Nat.le_refl _)); obtain ⟨z0, z1, z2, z3, v0, v1, v2, v3⟩ := FZ2.out; clear hw2))
  all_goals
    go_wp2
    refine bodyPost_ret (v := .agg #[.int .u64 (r 0), .int .u64 (r 1), .int .u64 (r 2), .int .u64 (r 3)]) ?_ rfl ⟨rfl, below_set4 HB2.out (by simp) (r 0) (r 1) (r 2) (r 3)⟩
    obtain ⟨s0, s1, s2, s3, _, _, _, _⟩ := FZ2.out.set4 (r 0) (r 1) (r 2) (r 3)
    unfold set4 at s0 s1 s2 s3
    simp [results, Tryd.results15, go_sem, s0, s1, s2, s3]

/-- What is looked for: the words with and without it. -/
theorem has_no {p : Nat → Bool} {i : Int} (h : hasP p i = false) {k : Nat} (hk : k < 4) : wd (minusP p (oneP i)) k = wd p k :=
  wd_congr (fun x hx => by
    unfold minusP oneP
    by_cases e : (x : Int) = i
    · subst e
      have : p x = false := by simpa [hasP, show (x : Int) ≤ 255 by omega] using h
      simp [this]
    · simp [e]) hk
theorem has_yes {p : Nat → Bool} {i : Int} (h : hasP p i = true) : ∃ k j : Nat, k < 4 ∧ j < 64 ∧ i = ((64 * k + j : Nat) : Int) ∧ wd p k = wd (minusP p (oneP i)) k + 2 ^ j ∧ ∀ k', k' ≠ k → wd (minusP p (oneP i)) k' = wd p k' := by
  unfold hasP at h
  rw [Bool.and_eq_true, decide_eq_true_eq] at h
  obtain ⟨⟨h0, h1⟩, h2⟩ := h
  have e : i = ((64 * (i.toNat / 64) + i.toNat % 64 : Nat) : Int) := by omega
  refine ⟨i.toNat / 64, i.toNat % 64, by omega, Nat.mod_lt _ (by omega), e, ?_, fun k' hk => wd_minus_far fun j hj => by omega⟩
  have h3 : p (64 * (i.toNat / 64) + i.toNat % 64) = true := by rw [show 64 * (i.toNat / 64) + i.toNat % 64 = i.toNat by omega]; exact h2
  have := wd_del (p := p) (k := i.toNat / 64) (j := i.toNat % 64) (Nat.mod_lt _ (by omega)) h3
  rw [← e] at this
  exact this

set_option maxHeartbeats 2000000 in
theorem has_core (x0 x1 x2 x3 y0 y1 y2 y3 : Nat) (i : Int) (w : World)
    (C : Hid (∀ w, Calls Tryd.prog 15 #[.agg #[.int .u64 x0, .int .u64 x1, .int .u64 x2, .int .u64 x3], .int .i64 i] w fun e w' => e = .returned (.agg #[.int .u64 y0, .int .u64 y1, .int .u64 y2, .int .u64 y3]) ∧ Below w.heap.size w w'))
    (same : Bool) (hsame : eq4 x0 x1 x2 x3 y0 y1 y2 y3 = same) :
    Calls Tryd.prog 11 #[.agg #[.int .u64 x0, .int .u64 x1, .int .u64 x2, .int .u64 x3], .int .i64 i] w fun e w' => e = .returned (.bool (!same)) ∧ Below w.heap.size w w' := by
  go_enter Tryd.func11, Tryd.ntmps11
  go_wp2
  refine gen_world (fun w' => Four w' w.heap.size x0 x1 x2 x3 ∧ Below w.heap.size w w') ⟨Four.new w _ _ _ _ _, (Below.refl _ _).alloc (Nat.le_refl _) _⟩ ?_
  intro W1 ⟨fa, hb⟩
  have FA := Lib.hid fa
  have HB := Lib.hid hb
  obtain ⟨a0, a1, a2, a3, _, _, _, _⟩ := fa
  clear hb
  go_region_with (go_at_call 15; (refine (C.out _).mono ?_); rintro e w1 ⟨rfl, hw1⟩; obtain ⟨b0, b1, b2, b3, _, _, _, _⟩ := Four.next hw1 FA.out; have HB1 := Lib.hid (below_next hw1 HB.out (Nat.le_refl _)); clear hw1)
  all_goals
    go_wp2
    go_ret
    exact ⟨rfl, HB1.out⟩

theorem has_any (p : Nat → Bool) (i : Int) (hu : i ≤ 9223372036854775807) (w : World) :
    Calls Tryd.prog 11 #[.agg #[.int .u64 (wd p 0), .int .u64 (wd p 1), .int .u64 (wd p 2), .int .u64 (wd p 3)], .int .i64 i] w fun e w' => e = .returned (.bool (hasP p i)) ∧ Below w.heap.size w w' := by
  have C := Lib.hid (fun w => without_any p i hu w)
  cases h : hasP p i with
  | false =>
    have e := @has_no p i h
    exact has_core _ _ _ _ _ _ _ _ i w C true (by rw [e (k := 0) (by omega), e (k := 1) (by omega), e (k := 2) (by omega), e (k := 3) (by omega)]; exact eq4_self ..)
  | true =>
    obtain ⟨k, j, hk, hj, _, hne, _⟩ := has_yes h
    have hp : 0 < 2 ^ j := Nat.two_pow_pos j
    refine has_core _ _ _ _ _ _ _ _ i w C false ?_
    have hd : ∀ k', k' = k → (wd p k' == wd (minusP p (oneP i)) k') = false := fun k' e => by subst e; rw [beq_eq_false_iff_ne]; omega
    unfold eq4
    rcases (show k = 0 ∨ k = 1 ∨ k = 2 ∨ k = 3 by omega) with e | e | e | e
    · rw [hd 0 e.symm]; simp
    · rw [hd 1 e.symm]; simp
    · rw [hd 2 e.symm]; simp
    · rw [hd 3 e.symm]; simp

end Go.Proofs.YtigafpmhgogpmaaDoor
