/- Texts of this claim, put together: BEq, BWalk4, BWalk5, CMem, CW1, BRef1, KW27, CK, COpen. -/
import Derived.Test.YtlglncnhhgofoaaM2
import Derived.Deep.RegionHeld3
import Derived.Laws.MakeOwn
import Derived.Tactics2
import Derived.Tactics
import Derived.RegionTactic
set_option linter.unusedVariables false
set_option linter.unusedSimpArgs false

/-
  Two sets held against each other: word by word.
-/
namespace Go.Proofs.Ytlglncnhhgofoaa
open Go Go.RowKit
set_option linter.unusedSimpArgs false

/-- Are four words the same as four others? -/
def eq4 (x0 x1 x2 x3 y0 y1 y2 y3 : Nat) : Bool := x0 == y0 && x1 == y1 && x2 == y2 && x3 == y3
theorem eq4_self (x0 x1 x2 x3 : Nat) : eq4 x0 x1 x2 x3 x0 x1 x2 x3 = true := by simp [eq4]

set_option maxHeartbeats 1000000 in
theorem set_eq_d (d : Nat) (x0 x1 x2 x3 y0 y1 y2 y3 : Nat) (w : World) :
    (Op.equalIn (d + 1 + 1) 47 (.agg #[.int .u64 x0, .int .u64 x1, .int .u64 x2, .int .u64 x3]) (.agg #[.int .u64 y0, .int .u64 y1, .int .u64 y2, .int .u64 y3])).run Try.prog w = .ok (eq4 x0 x1 x2 x3 y0 y1 y2 y3) w := by
  unfold eq4
  have e : ∀ (a b : Nat) (w : World), (Op.equalIn (d + 1) 40 (.int .u64 a) (.int .u64 b)).run Try.prog w = .ok (a == b) w := fun a b w => by
    rw [run_equalIn_int w d 40 .u64 .u64 a b Try.underlying40]
    congr 1
    rw [Bool.eq_iff_iff]; simp; omega
  have hp : ∀ (xs : Array Value) (i : Nat) (w : World) (v : Value), xs[i]? = some v → (part 40 xs i).run Try.prog w = .ok v w := by
    intro xs i w v h
    simp [part, Sem.run_bind, Try.isAgg40, go_sem, h]
  have hs : ∀ w, (sizeOf 40).run Try.prog w = .ok 1 w := fun w => by simp [Try.sizeOf40, go_sem]
  rw [Op.equalIn]
  simp only [Sem.run_bind, run_underlying Try.underlying47, Result.andThen_ok, hs]
  simp only [Std.Legacy.Range.forIn_eq_forIn_range', Std.Legacy.Range.size, List.range']
  have px0 : ∀ w, (part 40 #[.int .u64 x0, .int .u64 x1, .int .u64 x2, .int .u64 x3] (0 * 1)).run Try.prog w = .ok (.int .u64 x0) w := fun w => hp _ _ _ _ rfl
  have px1 : ∀ w, (part 40 #[.int .u64 x0, .int .u64 x1, .int .u64 x2, .int .u64 x3] ((0 + 1) * 1)).run Try.prog w = .ok (.int .u64 x1) w := fun w => hp _ _ _ _ rfl
  have px2 : ∀ w, (part 40 #[.int .u64 x0, .int .u64 x1, .int .u64 x2, .int .u64 x3] ((0 + 1 + 1) * 1)).run Try.prog w = .ok (.int .u64 x2) w := fun w => hp _ _ _ _ rfl
  have px3 : ∀ w, (part 40 #[.int .u64 x0, .int .u64 x1, .int .u64 x2, .int .u64 x3] ((0 + 1 + 1 + 1) * 1)).run Try.prog w = .ok (.int .u64 x3) w := fun w => hp _ _ _ _ rfl
  have py0 : ∀ w, (part 40 #[.int .u64 y0, .int .u64 y1, .int .u64 y2, .int .u64 y3] (0 * 1)).run Try.prog w = .ok (.int .u64 y0) w := fun w => hp _ _ _ _ rfl
  have py1 : ∀ w, (part 40 #[.int .u64 y0, .int .u64 y1, .int .u64 y2, .int .u64 y3] ((0 + 1) * 1)).run Try.prog w = .ok (.int .u64 y1) w := fun w => hp _ _ _ _ rfl
  have py2 : ∀ w, (part 40 #[.int .u64 y0, .int .u64 y1, .int .u64 y2, .int .u64 y3] ((0 + 1 + 1) * 1)).run Try.prog w = .ok (.int .u64 y2) w := fun w => hp _ _ _ _ rfl
  have py3 : ∀ w, (part 40 #[.int .u64 y0, .int .u64 y1, .int .u64 y2, .int .u64 y3] ((0 + 1 + 1 + 1) * 1)).run Try.prog w = .ok (.int .u64 y3) w := fun w => hp _ _ _ _ rfl
  clear hp hs
  simp only [List.forIn_cons, List.forIn_nil, Sem.run_bind, px0, px1, px2, px3, py0, py1, py2, py3, Result.andThen_ok, e]
  cases h0 : x0 == y0 <;> simp only [Bool.not_false, Bool.not_true, Bool.false_eq_true, if_true, if_false, Sem.run_pure, Sem.run_bind, Result.andThen_ok, Bool.true_and, Bool.false_and, Bool.and_true, Bool.and_false, px1, px2, px3, py1, py2, py3, e]
  cases h1 : x1 == y1 <;> simp only [Bool.not_false, Bool.not_true, Bool.false_eq_true, if_true, if_false, Sem.run_pure, Sem.run_bind, Result.andThen_ok, Bool.true_and, Bool.false_and, Bool.and_true, Bool.and_false, px1, px2, px3, py1, py2, py3, e]
  cases h2 : x2 == y2 <;> simp only [Bool.not_false, Bool.not_true, Bool.false_eq_true, if_true, if_false, Sem.run_pure, Sem.run_bind, Result.andThen_ok, Bool.true_and, Bool.false_and, Bool.and_true, Bool.and_false, px1, px2, px3, py1, py2, py3, e]
  cases h3 : x3 == y3 <;> simp only [Bool.not_false, Bool.not_true, Bool.false_eq_true, if_true, if_false, Sem.run_pure, Sem.run_bind, Result.andThen_ok, Bool.true_and, Bool.false_and, Bool.and_true, Bool.and_false, px1, px2, px3, py1, py2, py3, e]

theorem set_eq (x0 x1 x2 x3 y0 y1 y2 y3 : Nat) (w : World) :
    (Op.equalIn 10000 47 (.agg #[.int .u64 x0, .int .u64 x1, .int .u64 x2, .int .u64 x3]) (.agg #[.int .u64 y0, .int .u64 y1, .int .u64 y2, .int .u64 y3])).run Try.prog w = .ok (eq4 x0 x1 x2 x3 y0 y1 y2 y3) w :=
  set_eq_d 9998 x0 x1 x2 x3 y0 y1 y2 y3 w

end Go.Proofs.Ytlglncnhhgofoaa

/-
  The walks over one number put in, taken out, looked for.
-/
namespace Go.Proofs.Ytlglncnhhgofoaa
open Go.RowKit
attribute [local go_sem] set_eq

theorem orN_two (p q : Nat → Bool) (k : Nat) (hk : k < 4) : wd (orN [p, q] 2) k = wd (orP p q) k := wd_congr (fun i _ => by simp [orN, orP, noneP]) hk

theorem or_two (p q : Nat → Bool) (b : Nat) (w : World) (hb : b < w.heap.size)
    (h0 : w.cell? ⟨b, 0, none⟩ = some (.int .u64 (wd p 0))) (h1 : w.cell? ⟨b, 1, none⟩ = some (.int .u64 (wd p 1))) (h2 : w.cell? ⟨b, 2, none⟩ = some (.int .u64 (wd p 2))) (h3 : w.cell? ⟨b, 3, none⟩ = some (.int .u64 (wd p 3)))
    (h4 : w.cell? ⟨b, 4, none⟩ = some (.int .u64 (wd q 0))) (h5 : w.cell? ⟨b, 5, none⟩ = some (.int .u64 (wd q 1))) (h6 : w.cell? ⟨b, 6, none⟩ = some (.int .u64 (wd q 2))) (h7 : w.cell? ⟨b, 7, none⟩ = some (.int .u64 (wd q 3))) :
    Calls Try.prog 74 #[.slice (some ⟨b, 0, none⟩) 2 2] w fun e w' => e = .returned (.agg #[.int .u64 (wd (orP p q) 0), .int .u64 (wd (orP p q) 1), .int .u64 (wd (orP p q) 2), .int .u64 (wd (orP p q) 3)]) ∧ Below w.heap.size w w' := by
  have h := or_any [p, q] (by simp) 2 (some ⟨b, 0, none⟩) w (.inr ⟨b, 0, rfl, hb, fun k hk => by
    rcases (show k = 0 ∨ k = 1 by simp at hk; omega) with rfl | rfl
    · exact ⟨h0, h1, h2, h3⟩
    · exact ⟨h4, h5, h6, h7⟩⟩)
  rw [show ([p, q] : List (Nat → Bool)).length = 2 from rfl, orN_two p q 0 (by omega), orN_two p q 1 (by omega), orN_two p q 2 (by omega), orN_two p q 3 (by omega)] at h
  exact h

set_option maxHeartbeats 2000000 in
theorem with_any (p : Nat → Bool) (i : Int) (hu : i ≤ 9223372036854775807) (w : World) :
    Calls Try.prog 50 #[.agg #[.int .u64 (wd p 0), .int .u64 (wd p 1), .int .u64 (wd p 2), .int .u64 (wd p 3)], .int .i64 i] w fun e w' => e = .returned (.agg #[.int .u64 (wd (orP p (oneP i)) 0), .int .u64 (wd (orP p (oneP i)) 1), .int .u64 (wd (orP p (oneP i)) 2), .int .u64 (wd (orP p (oneP i)) 3)]) ∧ Below w.heap.size w w' := by
  have O := Lib.hid (fun w => only_any i hu w)
  have C := Lib.hid (fun b w h => or_two p (oneP i) b w h)
  clear hu
  generalize wd (orP p (oneP i)) = r at C ⊢
  generalize wd (oneP i) = o at O C
  generalize wd p = a at C ⊢
  go_enter Try.func50, Try.ntmps50
  go_wp2
  refine gen_world (fun w' => Four w' w.heap.size (a 0) (a 1) (a 2) (a 3) ∧ Four w' (w.heap.size + 1) 0 0 0 0 ∧ Below w.heap.size w w') ⟨(Four.new w _ _ _ _ _).alloc _, by simpa using Four.new (w.alloc _) 0 0 0 0 _, ((Below.refl _ _).alloc (Nat.le_refl _) _).alloc (by simp) _⟩ ?_
  intro W1 ⟨fa, fz, hb⟩
  have FA := Lib.hid fa
  have FZ := Lib.hid fz
  have HB := Lib.hid hb
  obtain ⟨a0, a1, a2, a3, _, _, _, _⟩ := fa
  clear fz hb
  go_region_with (first | (go_at_call 75; (refine (O.out _).mono ?_); rintro e w1 ⟨rfl, hw1⟩; obtain ⟨b0, b1, b2, b3, _, _, _, _⟩ := Four.next hw1 FA.out; have FZ1 := Lib.hid (Four.next hw1 FZ.out); have HB1 := Lib.hid (below_next hw1 HB.out (Nat.le_refl _)); clear hw1) | (go_at_call 74; (refine (C.out _ _ (by simp) (by simp) (by simp) (by simp) (by simp) (by simp) (by simp) (by simp) (by simp)).mono ?_); rintro e w2 ⟨rfl, hw2⟩; have FZ2 := Lib.hid (Four.next hw2 (FZ1.out.alloc _)); have HB2 := Lib.hid (below_next hw2 (HB1.out.alloc HB1.out.size _) (Nat.le_refl _)); obtain ⟨z0, z1, z2, z3, v0, v1, v2, v3⟩ := FZ2.out; clear hw2))
  all_goals
    go_wp2
    refine bodyPost_ret (v := .agg #[.int .u64 (r 0), .int .u64 (r 1), .int .u64 (r 2), .int .u64 (r 3)]) ?_ rfl ⟨rfl, below_set4 HB2.out (by simp) (r 0) (r 1) (r 2) (r 3)⟩
    obtain ⟨s0, s1, s2, s3, _, _, _, _⟩ := FZ2.out.set4 (r 0) (r 1) (r 2) (r 3)
    unfold set4 at s0 s1 s2 s3
    simp [results, Try.results50, go_sem, s0, s1, s2, s3]

set_option maxHeartbeats 2000000 in
theorem without_any (p : Nat → Bool) (i : Int) (hu : i ≤ 9223372036854775807) (w : World) :
    Calls Try.prog 73 #[.agg #[.int .u64 (wd p 0), .int .u64 (wd p 1), .int .u64 (wd p 2), .int .u64 (wd p 3)], .int .i64 i] w fun e w' => e = .returned (.agg #[.int .u64 (wd (minusP p (oneP i)) 0), .int .u64 (wd (minusP p (oneP i)) 1), .int .u64 (wd (minusP p (oneP i)) 2), .int .u64 (wd (minusP p (oneP i)) 3)]) ∧ Below w.heap.size w w' := by
  have O := Lib.hid (fun w => only_any i hu w)
  have C := Lib.hid (fun w => minus_any p (oneP i) w)
  clear hu
  generalize wd (minusP p (oneP i)) = r at C ⊢
  generalize wd (oneP i) = o at O C
  generalize wd p = a at C ⊢
  go_enter Try.func73, Try.ntmps73
  go_wp2
  refine gen_world (fun w' => Four w' w.heap.size (a 0) (a 1) (a 2) (a 3) ∧ Four w' (w.heap.size + 1) 0 0 0 0 ∧ Below w.heap.size w w') ⟨(Four.new w _ _ _ _ _).alloc _, by simpa using Four.new (w.alloc _) 0 0 0 0 _, ((Below.refl _ _).alloc (Nat.le_refl _) _).alloc (by simp) _⟩ ?_
  intro W1 ⟨fa, fz, hb⟩
  have FA := Lib.hid fa
  have FZ := Lib.hid fz
  have HB := Lib.hid hb
  obtain ⟨a0, a1, a2, a3, _, _, _, _⟩ := fa
  clear fz hb
  go_region_with (first | (go_at_call 75; (refine (O.out _).mono ?_); rintro e w1 ⟨rfl, hw1⟩; obtain ⟨b0, b1, b2, b3, _, _, _, _⟩ := Four.next hw1 FA.out; have FZ1 := Lib.hid (Four.next hw1 FZ.out); have HB1 := Lib.hid (below_next hw1 HB.out (Nat.le_refl _)); clear hw1) | (go_at_call 91; (refine (C.out _).mono ?_); rintro e w2 ⟨rfl, hw2⟩; have FZ2 := Lib.hid (Four.next hw2 FZ1.out); have HB2 := Lib.hid (below_next hw2 HB1.out (Nat.le_refl _)); obtain ⟨z0, z1, z2, z3, v0, v1, v2, v3⟩ := FZ2.out; clear hw2))
  all_goals
    go_wp2
    refine bodyPost_ret (v := .agg #[.int .u64 (r 0), .int .u64 (r 1), .int .u64 (r 2), .int .u64 (r 3)]) ?_ rfl ⟨rfl, below_set4 HB2.out (by simp) (r 0) (r 1) (r 2) (r 3)⟩
    obtain ⟨s0, s1, s2, s3, _, _, _, _⟩ := FZ2.out.set4 (r 0) (r 1) (r 2) (r 3)
    unfold set4 at s0 s1 s2 s3
    simp [results, Try.results73, go_sem, s0, s1, s2, s3]

/-- What is looked for: the words with and without it. -/
theorem has_no {p : Nat → Bool} {i : Int} (h : hasP p i = false) {k : Nat} (hk : k < 4) : wd (minusP p (oneP i)) k = wd p k :=
  wd_congr (fun x hx => by
    unfold minusP oneP
    by_cases e : (x : Int) = i
    · subst e
      have : p x = false := by simpa [hasP, show (x : Int) ≤ 255 by omega] using h
      simp [this]
    · simp [e]) hk
theorem has_yes {p : Nat → Bool} {i : Int} (h : hasP p i = true) : ∃ k j : Nat, k < 4 ∧ j < 64 ∧ i = ((64 * k + j : Nat) : Int) ∧ wd p k = wd (minusP p (oneP i)) k + 2 ^ j ∧ ∀ k', k' ≠ k → wd (minusP p (oneP i)) k' = wd p k' := by
  unfold hasP at h
  rw [Bool.and_eq_true, decide_eq_true_eq] at h
  obtain ⟨⟨h0, h1⟩, h2⟩ := h
  have e : i = ((64 * (i.toNat / 64) + i.toNat % 64 : Nat) : Int) := by omega
  refine ⟨i.toNat / 64, i.toNat % 64, by omega, Nat.mod_lt _ (by omega), e, ?_, fun k' hk => wd_minus_far fun j hj => by omega⟩
  have h3 : p (64 * (i.toNat / 64) + i.toNat % 64) = true := by rw [show 64 * (i.toNat / 64) + i.toNat % 64 = i.toNat by omega]; exact h2
  have := wd_del (p := p) (k := i.toNat / 64) (j := i.toNat % 64) (Nat.mod_lt _ (by omega)) h3
  rw [← e] at this
  exact this

set_option maxHeartbeats 2000000 in
theorem has_core (x0 x1 x2 x3 y0 y1 y2 y3 : Nat) (i : Int) (w : World)
    (C : Hid (∀ w, Calls Try.prog 73 #[.agg #[.int .u64 x0, .int .u64 x1, .int .u64 x2, .int .u64 x3], .int .i64 i] w fun e w' => e = .returned (.agg #[.int .u64 y0, .int .u64 y1, .int .u64 y2, .int .u64 y3]) ∧ Below w.heap.size w w'))
    (same : Bool) (hsame : eq4 x0 x1 x2 x3 y0 y1 y2 y3 = same) :
    Calls Try.prog 49 #[.agg #[.int .u64 x0, .int .u64 x1, .int .u64 x2, .int .u64 x3], .int .i64 i] w fun e w' => e = .returned (.bool (!same)) ∧ Below w.heap.size w w' := by
  go_enter Try.func49, Try.ntmps49
  go_wp2
  refine gen_world (fun w' => Four w' w.heap.size x0 x1 x2 x3 ∧ Below w.heap.size w w') ⟨Four.new w _ _ _ _ _, (Below.refl _ _).alloc (Nat.le_refl _) _⟩ ?_
  intro W1 ⟨fa, hb⟩
  have FA := Lib.hid fa
  have HB := Lib.hid hb
  obtain ⟨a0, a1, a2, a3, _, _, _, _⟩ := fa
  clear hb
  go_region_with (go_at_call 73; (refine (C.out _).mono ?_); rintro e w1 ⟨rfl, hw1⟩; obtain ⟨b0, b1, b2, b3, _, _, _, _⟩ := Four.next hw1 FA.out; have HB1 := Lib.hid (below_next hw1 HB.out (Nat.le_refl _)); clear hw1)
  all_goals
    go_wp2
    go_ret
    exact ⟨rfl, HB1.out⟩

theorem has_any (p : Nat → Bool) (i : Int) (hu : i ≤ 9223372036854775807) (w : World) :
    Calls Try.prog 49 #[.agg #[.int .u64 (wd p 0), .int .u64 (wd p 1), .int .u64 (wd p 2), .int .u64 (wd p 3)], .int .i64 i] w fun e w' => e = .returned (.bool (hasP p i)) ∧ Below w.heap.size w w' := by
  have C := Lib.hid (fun w => without_any p i hu w)
  cases h : hasP p i with
  | false =>
    have e := @has_no p i h
    exact has_core _ _ _ _ _ _ _ _ i w C true (by rw [e (k := 0) (by omega), e (k := 1) (by omega), e (k := 2) (by omega), e (k := 3) (by omega)]; exact eq4_self ..)
  | true =>
    obtain ⟨k, j, hk, hj, _, hne, _⟩ := has_yes h
    have hp : 0 < 2 ^ j := Nat.two_pow_pos j
    refine has_core _ _ _ _ _ _ _ _ i w C false ?_
    have hd : ∀ k', k' = k → (wd p k' == wd (minusP p (oneP i)) k') = false := fun k' e => by subst e; rw [beq_eq_false_iff_ne]; omega
    unfold eq4
    rcases (show k = 0 ∨ k = 1 ∨ k = 2 ∨ k = 3 by omega) with e | e | e | e
    · rw [hd 0 e.symm]; simp
    · rw [hd 1 e.symm]; simp
    · rw [hd 2 e.symm]; simp
    · rw [hd 3 e.symm]; simp

end Go.Proofs.Ytlglncnhhgofoaa

/-
  The walks over the set of a row, and over how many are in a set.
-/
namespace Go.Proofs.Ytlglncnhhgofoaa
open Go.RowKit

/-- All of the first n of a row. -/
def ofN (l : List Int) : Nat → Nat → Bool
  | 0 => noneP
  | n + 1 => orP (ofN l n) (oneP (l.getD n 0))

theorem index_0 (x0 x1 x2 x3 : Nat) (w : World) : (Instr.index 47 (.agg #[.int .u64 x0, .int .u64 x1, .int .u64 x2, .int .u64 x3]) (.int .i64 0)).run Try.prog w = .ok (.int .u64 x0) w := by kernel_rfl
theorem index_1 (x0 x1 x2 x3 : Nat) (w : World) : (Instr.index 47 (.agg #[.int .u64 x0, .int .u64 x1, .int .u64 x2, .int .u64 x3]) (.int .i64 1)).run Try.prog w = .ok (.int .u64 x1) w := by kernel_rfl
theorem index_2 (x0 x1 x2 x3 : Nat) (w : World) : (Instr.index 47 (.agg #[.int .u64 x0, .int .u64 x1, .int .u64 x2, .int .u64 x3]) (.int .i64 2)).run Try.prog w = .ok (.int .u64 x2) w := by kernel_rfl
theorem index_3 (x0 x1 x2 x3 : Nat) (w : World) : (Instr.index 47 (.agg #[.int .u64 x0, .int .u64 x1, .int .u64 x2, .int .u64 x3]) (.int .i64 3)).run Try.prog w = .ok (.int .u64 x3) w := by kernel_rfl

/-- How many are in the first k words. -/
def cntW (p : Nat → Bool) : Nat → Nat
  | 0 => 0
  | k + 1 => cntW p k + cntN (wd p k).testBit 64
theorem cntW_eq (p : Nat → Bool) : ∀ k, cntW p k = cntN p (64 * k)
  | 0 => rfl
  | k + 1 => by
    rw [show 64 * (k + 1) = 64 * k + 64 by omega, cntN_add, ← cntW_eq p k]
    show cntW p k + _ = _
    congr 1
    exact cntN_congr fun j hj => wd_bit p k hj

end Go.Proofs.Ytlglncnhhgofoaa

/-
  What a cache's blocks hold, and what of memory a call may turn.
-/
namespace Go.Proofs.Ytlglncnhhgofoaa
open Go.RowKit Go.Maps

/-- What may have turned of what was there: the blocks of S alone. -/
structure Turn (S : Nat → Prop) (w w' : World) : Prop where
  os : w'.os = w.os
  tape : w'.tape = w.tape
  output : w'.output = w.output
  size : w.heap.size ≤ w'.heap.size
  block : ∀ k, k < w.heap.size → ¬ S k → w'.heap[k]? = w.heap[k]?

theorem Turn.refl (S : Nat → Prop) (w : World) : Turn S w w := ⟨rfl, rfl, rfl, Nat.le_refl _, fun _ _ _ => rfl⟩
theorem Turn.trans {S S' : Nat → Prop} {a b c : World} (h : Turn S a b) (k : Turn S' b c) (hs : ∀ i, i < a.heap.size → S' i → S i) : Turn S a c :=
  ⟨k.os.trans h.os, k.tape.trans h.tape, k.output.trans h.output, Nat.le_trans h.size k.size, fun i hi hn => (k.block i (Nat.lt_of_lt_of_le hi h.size) (fun q => hn (hs i hi q))).trans (h.block i hi hn)⟩
theorem Turn.then {S : Nat → Prop} {a b c : World} (h : Turn S a b) (k : Turn S b c) : Turn S a c := h.trans k fun _ _ q => q
theorem Turn.mono {S S' : Nat → Prop} {a b : World} (h : Turn S a b) (hs : ∀ i, i < a.heap.size → S i → S' i) : Turn S' a b :=
  ⟨h.os, h.tape, h.output, h.size, fun i hi hn => h.block i hi (fun q => hn (hs i hi q))⟩
theorem Turn.of_below {S : Nat → Prop} {w w' : World} (h : Below w.heap.size w w') : Turn S w w' := ⟨h.os, h.tape, h.output, h.size, fun k hk _ => h.block k hk⟩
theorem Turn.of_same {S : Nat → Prop} {w w1 w' : World} (h : Turn S w1 w') (e : w1.heap = w.heap) (e1 : w1.os = w.os) (e2 : w1.tape = w.tape) (e3 : w1.output = w.output) : Turn S w w' :=
  ⟨h.os.trans e1, h.tape.trans e2, h.output.trans e3, by rw [← e]; exact h.size, fun k hk hn => by rw [← e]; exact h.block k (by rw [e]; exact hk) hn⟩
theorem Turn.below {S : Nat → Prop} {w w' : World} {B : Nat} (h : Turn S w w') (hB : B ≤ w.heap.size) (hs : ∀ i, S i → B ≤ i) : Below B w w' :=
  ⟨h.os, h.tape, h.output, h.size, fun k hk => h.block k (by omega) (fun q => by have := hs k q; omega)⟩
theorem Turn.drew {S : Nat → Prop} {a w : World} (h : Turn S a w) : Turn S a w.drew := ⟨h.os, h.tape, h.output, h.size, h.block⟩
theorem Turn.alloc {S : Nat → Prop} {a w : World} (h : Turn S a w) (o : Obj) : Turn S a (w.alloc o) :=
  h.then (Turn.of_below ((Below.refl _ _).alloc (Nat.le_refl _) o))
theorem Turn.setCell {S : Nat → Prop} {a w : World} (h : Turn S a w) {p : Addr} (hp : p.block < a.heap.size → S p.block) (u : Value) : Turn S a (w.setCell p u) :=
  ⟨h.os, h.tape, h.output, by simp [World.setCell]; exact h.size, fun k hk hn => by
    rw [Below.heap_setCell _ _ _ _ (fun e => hn (by rw [e]; exact hp (by omega)))]; exact h.block k hk hn⟩
theorem Turn.grown {S : Nat → Prop} {a w w' : World} {row : Option Nat} (h : Turn S a w) (hg : w.grownBy w' row) (hr : ∀ k, row = some k → k < a.heap.size → S k) : Turn S a w' :=
  ⟨hg.os.trans h.os, hg.tape.trans h.tape, hg.output.trans h.output, Nat.le_trans h.size hg.size, fun k hk hn => (hg.block k (Nat.lt_of_lt_of_le hk h.size) (fun e => hn (hr k e.symm hk))).trans (h.block k hk hn)⟩

theorem Turn.obj {S : Nat → Prop} {w w' : World} (h : Turn S w w') {b : Nat} {o : Obj} (ho : w.heap[b]? = some o) (hn : ¬ S b) : w'.heap[b]? = some o := (h.block b (lt_of_block ho) hn).trans ho

theorem Turn.bel {S : Nat → Prop} {w w' w'' : World} (h : Turn S w w') (k : Below w'.heap.size w' w'') : Turn S w w'' := h.then (Turn.of_below k)
theorem Turn.cell {S : Nat → Prop} {w w' : World} (h : Turn S w w') {b o : Nat} {v : Value} (hc : w.cell? ⟨b, o, none⟩ = some v) (hn : ¬ S b) : w'.cell? ⟨b, o, none⟩ = some v := by
  have hl := block_of_cell hc
  have e := h.block b hl hn
  unfold World.cell? at hc ⊢
  simp only [e]
  exact hc

/-! ### plain: whose each set is -/
def okSet (n : Nat) (s : Int) : Prop := 0 ≤ s ∧ s < n
def okOwn (o : Int) : Prop := 1 ≤ o ∧ o ≤ 99
instance (n : Nat) (s : Int) : Decidable (okSet n s) := inferInstanceAs (Decidable (_ ∧ _))
instance (o : Int) : Decidable (okOwn o) := inferInstanceAs (Decidable (_ ∧ _))
def ownL (n : Nat) (L : Nat → Int) (s : Int) : Int := if okSet n s then L s.toNat else 0
def putL (L : Nat → Int) (s o : Int) (i : Nat) : Int := if (i : Int) = s then o else L i
def useB (n : Nat) (L : Nat → Int) (s o : Int) : Bool := if okSet n s ∧ okOwn o then decide (L s.toNat = o) else false
def useL (n : Nat) (L : Nat → Int) (s o : Int) : Nat → Int := if okSet n s ∧ okOwn o then putL L s o else L
def ofP (n : Nat) (L : Nat → Int) (o : Int) (i : Nat) : Bool := decide (okOwn o) && (decide (i < n) && decide (L i = o))

/-- A row of owners. -/
def RowC (w : World) (r n : Nat) (L : Nat → Int) : Prop :=
  ∃ cur : Array Value, w.heap[r]? = some (.cells cur 3 (0, 0)) ∧ cur.size = n ∧ ∀ i, i < n → cur[i]? = some (.int .i64 (L i))
/-- A cache: its struct, of type T, and its row. -/
structure Ch (T : TypeId) (w : World) (b r n : Nat) (L : Nat → Int) : Prop where
  str : w.heap[b]? = some (.cells #[.slice (some ⟨r, 0, none⟩) n n] T (0, 0))
  row : RowC w r n L
  ne : b ≠ r
  few : n ≤ 256
  wf : ∀ i, I64 (L i)
theorem RowC.lt {w : World} {r n : Nat} {L : Nat → Int} (h : RowC w r n L) : r < w.heap.size := let ⟨_, hb, _⟩ := h; lt_of_block hb
theorem RowC.cell {w : World} {r n : Nat} {L : Nat → Int} (h : RowC w r n L) {i : Nat} (hi : i < n) : w.cell? ⟨r, i, none⟩ = some (.int .i64 (L i)) := by
  obtain ⟨cur, hb, _, hc⟩ := h
  rw [blk_cell hb]; exact hc i hi
theorem RowC.free {w : World} {r n : Nat} {L : Nat → Int} (h : RowC w r n L) (o : Nat) : w.frozen? ⟨r, o, none⟩ = false := let ⟨_, hb, _⟩ := h; blk_free hb o
theorem RowC.turn {S : Nat → Prop} {w w' : World} {r n : Nat} {L : Nat → Int} (h : RowC w r n L) (ht : Turn S w w') (hn : ¬ S r) : RowC w' r n L := by
  obtain ⟨cur, hb, h1, h2⟩ := h
  exact ⟨cur, ht.obj hb hn, h1, h2⟩
theorem RowC.put {w : World} {r n : Nat} {L : Nat → Int} (h : RowC w r n L) {i : Nat} (hi : i < n) (o : Int) : RowC (w.setCell ⟨r, i, none⟩ (.int .i64 o)) r n (putL L i o) := by
  obtain ⟨cur, hb, h1, h2⟩ := h
  refine ⟨cur.setIfInBounds i (.int .i64 o), blk_set hb _, by simp [h1], fun j hj => ?_⟩
  unfold putL
  by_cases e : j = i
  · subst e
    rw [if_pos rfl, Array.getElem?_setIfInBounds_self]
    simp [h1, hj]
  · rw [if_neg (by omega), Array.getElem?_setIfInBounds_ne (by omega)]
    exact h2 j hj
theorem Ch.slice {T : TypeId} {w : World} {b r n : Nat} {L : Nat → Int} (h : Ch T w b r n L) : w.cell? ⟨b, 0, none⟩ = some (.slice (some ⟨r, 0, none⟩) n n) := by rw [blk_cell h.str]; rfl
theorem Ch.free {T : TypeId} {w : World} {b r n : Nat} {L : Nat → Int} (h : Ch T w b r n L) : w.frozen? ⟨b, 0, none⟩ = false := blk_free h.str 0
theorem Ch.turn {T : TypeId} {S : Nat → Prop} {w w' : World} {b r n : Nat} {L : Nat → Int} (h : Ch T w b r n L) (ht : Turn S w w') (hb : ¬ S b) (hr : ¬ S r) : Ch T w' b r n L :=
  ⟨ht.obj h.str hb, h.row.turn ht hr, h.ne, h.few, h.wf⟩
theorem Ch.below {T : TypeId} {w w' : World} {b r n : Nat} {L : Nat → Int} (h : Ch T w b r n L) (hb : Below w.heap.size w w') : Ch T w' b r n L :=
  h.turn (S := fun _ => False) (Turn.of_below hb) (fun q => q) (fun q => q)
theorem putL_wf {L : Nat → Int} (h : ∀ i, I64 (L i)) {s o : Int} (ho : I64 o) : ∀ i, I64 (putL L s o i) := fun i => by
  unfold putL; split
  · exact ho
  · exact h i
theorem own_i64 {o : Int} (h : okOwn o) : I64 o := by unfold okOwn at h; unfold I64; omega
theorem Ch.put {T : TypeId} {w : World} {b r n : Nat} {L : Nat → Int} (h : Ch T w b r n L) {i : Nat} (hi : i < n) {o : Int} (ho : okOwn o) : Ch T (w.setCell ⟨r, i, none⟩ (.int .i64 o)) b r n (putL L i o) :=
  ⟨(blk_far (a := ⟨r, i, none⟩) h.ne _).trans h.str, h.row.put hi o, h.ne, h.few, putL_wf h.wf (own_i64 ho)⟩
theorem Ch.lt {T : TypeId} {w : World} {b r n : Nat} {L : Nat → Int} (h : Ch T w b r n L) : b < w.heap.size ∧ r < w.heap.size := ⟨lt_of_block h.str, h.row.lt⟩
/-- What a use leaves. -/
theorem Ch.use {T : TypeId} {w : World} {b r n : Nat} {L : Nat → Int} (h : Ch T w b r n L) {i : Nat} (hi : i < n) {o : Int} (ho : okOwn o) {w1 : World} (hb : Below w.heap.size w w1) :
    Ch T (w1.setCell ⟨r, i, none⟩ (.int .i64 o)) b r n (useL n L i o) ∧ Turn (fun k => k = r) w (w1.setCell ⟨r, i, none⟩ (.int .i64 o)) := by
  have e : useL n L i o = putL L i o := by unfold useL; rw [if_pos ⟨⟨by omega, by omega⟩, ho⟩]
  rw [e]
  exact ⟨(h.below hb).put hi ho, Turn.setCell (S := fun k => k = r) (p := ⟨r, i, none⟩) (Turn.of_below hb) (fun _ => rfl) _⟩

abbrev CT : TypeId := 74
theorem cinfoInt : (Try.prog.info? 3).map (fun i => (i.zero, i.size, i.bytes)) = some (some (.int .i64 0), 1, 8) := by kernel_rfl
theorem make_row (n : Nat) (hn : n ≤ 256) (w : World) : (Instr.makeSlice 28 (.int .i64 (n : Int)) (.int .i64 (n : Int))).run Try.prog w = .ok (.slice (some ⟨w.heap.size, 0, none⟩) n n) (w.alloc (.cells (madeCells #[.int .i64 0] n) 3)) := by
  obtain ⟨i0, hi, hz0, hz1, hz2⟩ := info_parts cinfoInt
  have h := run_make w 28 3 i0 (.int .i64 0) Try.underlying28 hi hz0 .i64 .i64 n n (by omega) (by omega) (by rw [hz2]; omega) (by omega)
  rw [hz1] at h
  simpa [Value.cells] using h
theorem made_at {n i : Nat} (h : i < n) : (madeCells #[.int .i64 0] n)[i]? = some (.int .i64 0) := by
  simp [madeCells, h, Nat.mod_one]
theorem row_new (w : World) (n : Nat) : RowC (w.alloc (.cells (madeCells #[.int .i64 0] n) 3)) w.heap.size n (fun _ => 0) :=
  ⟨_, heap_alloc_new w _, size_madeCells _ _, fun i hi => made_at hi⟩

end Go.Proofs.Ytlglncnhhgofoaa

/-
  The walks over a cache: how many sets; is there such a set, may one own; a new one; a use, an owner, a flush; of none.
-/
namespace Go.Proofs.Ytlglncnhhgofoaa
open Go.RowKit Go.Maps

set_option maxHeartbeats 1000000 in
theorem sets_any {w : World} {b r n : Nat} {L : Nat → Int} (h : Ch CT w b r n L) : Calls Try.prog 72 #[.pointer (some ⟨b, 0, none⟩)] w fun e w' => e = .returned (.int .i64 n) ∧ w' = w := by
  have c0 := h.slice
  clear h
  go_enter Try.func72, Try.ntmps72
  go_wp2
  go_ret
  exact ⟨rfl, rfl⟩
set_option maxHeartbeats 1000000 in
theorem sets_nil (w : World) : Calls Try.prog 72 #[.pointer none] w fun e w' => e = .returned (.int .i64 0) ∧ w' = w := by
  go_enter Try.func72, Try.ntmps72
  go_wp2
  go_ret
  exact ⟨rfl, rfl⟩
set_option maxHeartbeats 1000000 in
theorem chas_core {v : Value} {n : Nat} {w : World} (C : Hid (Calls Try.prog 72 #[v] w fun e w' => e = .returned (.int .i64 n) ∧ w' = w)) (s : Int) :
    Calls Try.prog 47 #[v, .int .i64 s] w fun e w' => e = .returned (.bool (decide (okSet n s))) ∧ w' = w := by
  by_cases h0 : 0 ≤ s
  · by_cases h1 : s < n
    · rw [decide_eq_true (show okSet n s from ⟨h0, h1⟩)]
      have d1 : decide (s < (n : Int)) = true := decide_eq_true h1
      go_enter Try.func47, Try.ntmps47
      go_wp2_with (go_at_call 72; refine C.out.mono ?_; rintro e w1 ⟨rfl, rfl⟩)
      go_ret
      exact ⟨rfl, rfl⟩
    · rw [decide_eq_false (fun q : okSet n s => h1 q.2)]
      have d1 : decide (s < (n : Int)) = false := decide_eq_false h1
      go_enter Try.func47, Try.ntmps47
      go_wp2_with (go_at_call 72; refine C.out.mono ?_; rintro e w1 ⟨rfl, rfl⟩)
      go_ret
      exact ⟨rfl, rfl⟩
  · rw [decide_eq_false (fun q : okSet n s => h0 q.1)]
    go_enter Try.func47, Try.ntmps47
    go_wp2
    go_ret
    exact ⟨rfl, rfl⟩
theorem chas_any {w : World} {b r n : Nat} {L : Nat → Int} (h : Ch CT w b r n L) (s : Int) : Calls Try.prog 47 #[.pointer (some ⟨b, 0, none⟩), .int .i64 s] w fun e w' => e = .returned (.bool (decide (okSet n s))) ∧ w' = w :=
  chas_core (Lib.hid (sets_any h)) s
theorem chas_nil (w : World) (s : Int) : Calls Try.prog 47 #[.pointer none, .int .i64 s] w fun e w' => e = .returned (.bool false) ∧ w' = w := by
  have := chas_core (Lib.hid (sets_nil w)) s
  rwa [decide_eq_false (fun q : okSet 0 s => by have := q.1; have := q.2; omega)] at this
set_option maxHeartbeats 1000000 in
theorem may_any (o : Int) (w : World) : Calls Try.prog 45 #[.int .i64 o] w fun e w' => e = .returned (.bool (decide (okOwn o))) ∧ w' = w := by
  by_cases h0 : 1 ≤ o
  · by_cases h1 : o ≤ 99
    · rw [decide_eq_true (show okOwn o from ⟨h0, h1⟩)]
      have d1 : decide (o ≤ 99) = true := decide_eq_true h1
      go_enter Try.func45, Try.ntmps45
      go_wp2
      go_ret
      exact ⟨rfl, rfl⟩
    · rw [decide_eq_false (fun q : okOwn o => h1 q.2)]
      have d1 : decide (o ≤ 99) = false := decide_eq_false h1
      go_enter Try.func45, Try.ntmps45
      go_wp2
      go_ret
      exact ⟨rfl, rfl⟩
  · rw [decide_eq_false (fun q : okOwn o => h0 q.1)]
    go_enter Try.func45, Try.ntmps45
    go_wp2
    go_ret
    exact ⟨rfl, rfl⟩

/-! ### a new one -/
/-- What comes back: a cache of its own. -/
def CacheBack (T : TypeId) (n : Nat) (w : World) (e : Ending) (w' : World) : Prop :=
  ∃ b r, e = .returned (.pointer (some ⟨b, 0, none⟩)) ∧ Ch T w' b r n (fun _ => 0) ∧ w.heap.size ≤ b ∧ w.heap.size ≤ r ∧ Below w.heap.size w w'
theorem back_of {T : TypeId} {n : Nat} (hn : n ≤ 256) (w : World) : CacheBack T n w (.returned (.pointer (some ⟨w.heap.size + 1, 0, none⟩))) ((w.alloc (.cells (madeCells #[.int .i64 0] n) 3)).alloc (.cells #[.slice (some ⟨w.heap.size, 0, none⟩) n n] T)) := by
  have e := World.size_alloc w (.cells (madeCells #[.int .i64 0] n) 3)
  refine ⟨w.heap.size + 1, w.heap.size, rfl, ⟨?_, ?_, by omega, hn, fun _ => by unfold I64; omega⟩, by omega, by omega, (by repeat (first | exact Below.refl _ _ | (with_reducible assumption) | refine bw_alloc ?_ _ | refine bw_drew ?_))⟩
  · have := heap_alloc_new (w.alloc (.cells (madeCells #[.int .i64 0] n) 3)) (.cells #[.slice (some ⟨w.heap.size, 0, none⟩) n n] T)
    rwa [e] at this
  · exact (row_new w n).turn (S := fun _ => False) (Turn.of_below ((Below.refl _ _).alloc (Nat.le_refl _) _)) (fun q => q)
set_option maxHeartbeats 1000000 in
theorem cnew_some (n : Nat) (hn : n ≤ 256) (w : World) : Calls Try.prog 16 #[.int .i64 n] w (CacheBack CT n w) := by
  have hmk := make_row n hn
  have h0 : (0 : Int) ≤ (n : Int) := by omega
  have h1 : (n : Int) ≤ 256 := by omega
  go_enter Try.func16, Try.ntmps16
  go_wp2
  go_ret
  exact back_of hn w
set_option maxHeartbeats 1000000 in
theorem cnew_none (n : Int) (h : n < 0 ∨ 256 < n) (w : World) : Calls Try.prog 16 #[.int .i64 n] w fun e w' => e = .returned (.pointer none) ∧ w' = w := by
  by_cases h1 : n < 0
  · clear h
    go_enter Try.func16, Try.ntmps16
    go_wp2
    go_ret
    exact ⟨rfl, rfl⟩
  · have h2 : 256 < n := by omega
    have h3 : 0 ≤ n := by omega
    clear h h1
    go_enter Try.func16, Try.ntmps16
    go_wp2
    go_ret
    exact ⟨rfl, rfl⟩

/-! ### a use -/
/-- What a use answers and leaves. -/
def UseBack (T : TypeId) (b r n : Nat) (L : Nat → Int) (s o : Int) (w : World) (e : Ending) (w' : World) : Prop :=
  e = .returned (.bool (useB n L s o)) ∧ Ch T w' b r n (useL n L s o) ∧ Turn (fun k => k = r) w w'
theorem use_stays {T : TypeId} {b r n : Nat} {L : Nat → Int} {s o : Int} {w : World} (h : Ch T w b r n L) (hn : ¬ (okSet n s ∧ okOwn o)) : UseBack T b r n L s o w (.returned (.bool false)) w := by
  refine ⟨by unfold useB; rw [if_neg hn], ?_, Turn.refl _ _⟩
  unfold useL; rw [if_neg hn]; exact h
theorem use_puts {T : TypeId} {b r n : Nat} {L : Nat → Int} {i : Nat} {o : Int} {w : World} (h : Ch T w b r n L) (hi : i < n) (ho : okOwn o) {q : Bool} (hq : (L i == o) = q) {w1 : World} (hb : Below w.heap.size w w1) : UseBack T b r n L i o w (.returned (.bool q)) (w1.setCell ⟨r, i, none⟩ (.int .i64 o)) := by
  refine ⟨?_, h.use hi ho hb⟩
  unfold useB
  rw [if_pos ⟨⟨by omega, by omega⟩, ho⟩, Int.toNat_natCast, ← hq]
  by_cases e : L i = o <;> simp [e]
set_option maxHeartbeats 1000000 in
theorem cuse_core {v : Value} {n : Nat} {w : World} (s o : Int) (C : Hid (Calls Try.prog 47 #[v, .int .i64 s] w fun e w' => e = .returned (.bool (decide (okSet n s))) ∧ w' = w)) (hn : ¬ (okSet n s ∧ okOwn o)) :
    Calls Try.prog 48 #[v, .int .i64 s, .int .i64 o] w fun e w' => e = .returned (.bool false) ∧ w' = w := by
  have M := Lib.hid (may_any o)
  by_cases h0 : okSet n s
  · have h1 : ¬ okOwn o := fun q => hn ⟨h0, q⟩
    rw [decide_eq_true h0] at C
    rw [decide_eq_false h1] at M
    clear hn h0 h1
    go_enter Try.func48, Try.ntmps48
    go_wp2_with (first
      | (go_at_call 47; refine C.out.mono ?_; rintro e w1 ⟨rfl, rfl⟩)
      | (go_at_call 45; refine (M.out _).mono ?_; rintro e w1 ⟨rfl, rfl⟩))
    go_ret
    exact ⟨rfl, rfl⟩
  · rw [decide_eq_false h0] at C
    clear hn h0
    go_enter Try.func48, Try.ntmps48
    go_wp2_with (go_at_call 47; refine C.out.mono ?_; rintro e w1 ⟨rfl, rfl⟩)
    go_ret
    exact ⟨rfl, rfl⟩
set_option maxHeartbeats 1000000 in
theorem cuse_any {w : World} {b r n : Nat} {L : Nat → Int} (h : Ch CT w b r n L) (s o : Int) : Calls Try.prog 48 #[.pointer (some ⟨b, 0, none⟩), .int .i64 s, .int .i64 o] w (UseBack CT b r n L s o w) := by
  have C := Lib.hid (chas_any h s)
  by_cases hq : okSet n s ∧ okOwn o
  · have M := Lib.hid (may_any o)
    have h0 := hq.1.1
    have h1 := hq.1.2
    rw [decide_eq_true hq.1] at C
    rw [decide_eq_true hq.2] at M
    obtain ⟨i, rfl⟩ : ∃ i : Nat, s = (i : Int) := ⟨s.toNat, by omega⟩
    have hi : i < n := by omega
    have ho := hq.2
    have H := Lib.hid h
    have c0 := h.slice
    have c1 := h.row.cell hi
    have f1 := h.row.free i
    obtain ⟨q, hqe⟩ : ∃ q, (L i == o) = q := ⟨_, rfl⟩
    have HQ := Lib.hid hqe
    have HO := Lib.hid ho
    clear h hq h0 h1 ho
    generalize L i = x at c1 hqe
    go_enter Try.func48, Try.ntmps48
    go_wp2_with (first
      | (go_at_call 47; refine C.out.mono ?_; rintro e w1 ⟨rfl, rfl⟩)
      | (go_at_call 45; refine (M.out _).mono ?_; rintro e w1 ⟨rfl, rfl⟩))
    go_ret
    exact use_puts H.out hi HO.out HQ.out (Below.refl _ _)
  · refine (cuse_core s o C hq).mono ?_
    rintro e w' ⟨rfl, rfl⟩
    exact use_stays h hq
theorem cuse_nil (w : World) (s o : Int) : Calls Try.prog 48 #[.pointer none, .int .i64 s, .int .i64 o] w fun e w' => e = .returned (.bool false) ∧ w' = w :=
  cuse_core (n := 0) s o (by rw [decide_eq_false (fun q : okSet 0 s => by have := q.1; have := q.2; omega)]; exact Lib.hid (chas_nil w s)) (fun q => by have := q.1.1; have := q.1.2; omega)

/-! ### an owner -/
end Go.Proofs.Ytlglncnhhgofoaa

/-
  The walks over the document's own answers: one number looked for, put in, taken out.
-/
namespace Go.Proofs.Ytlglncnhhgofoaa
open Go.RowKit

theorem bit_and (x j : Nat) (h : x < 18446744073709551616) : bits .and .u64 ((x : Int) / 2 ^ j) 1 = ((x / 2 ^ j % 2 : Nat) : Int) := by
  have h1 : x / 2 ^ j ≤ x := Nat.div_le_self _ _
  have e : (x : Int) / 2 ^ j = ((x / 2 ^ j : Nat) : Int) := by simp
  rw [e]
  have := bits_and_u64_nat (x / 2 ^ j) 1 (by omega) (by omega)
  rw [nat_mask1] at this
  exact this

theorem hasP_at {p : Nat → Bool} {i : Int} {k j : Nat} (h0 : 0 ≤ i) (h1 : i ≤ 255) (hk : i / 64 = k) (hj : i % 64 = j) : hasP p i = (wd p k).testBit j := by
  have hj' : j < 64 := by omega
  rw [wd_bit p k hj']
  unfold hasP
  rw [decide_eq_true (⟨h0, h1⟩ : 0 ≤ i ∧ i ≤ 255), Bool.true_and]
  congr 1; omega

set_option maxHeartbeats 1000000 in
theorem rhas_0 (x0 x1 x2 x3 : Nat) (i : Int) (h0 : 0 ≤ i) (h255 : i ≤ 255) (h1 : i / 64 = 0) (j : Nat) (hj : j < 64) (h2 : i % 64 = j) (hx : x0 < 18446744073709551616) (w : World) :
    Calls Try.prog 64 #[.agg #[.int .u64 x0, .int .u64 x1, .int .u64 x2, .int .u64 x3], .int .i64 i] w fun e w' => e = .returned (.bool (x0.testBit j)) ∧ Below w.heap.size w w' := by
  have hb := bit_and x0 j hx
  rw [bit_read] at hb
  clear hx
  cases hp : x0.testBit j with
  | true =>
    rw [hp] at hb
    simp only [if_true] at hb
    clear hp
    go_enter Try.func64, Try.ntmps64
    go_wp2
    go_ret
    exact ⟨rfl, (Below.refl _ _).alloc (Nat.le_refl _) _⟩
  | false =>
    rw [hp] at hb
    simp only [Bool.false_eq_true, if_false] at hb
    clear hp
    go_enter Try.func64, Try.ntmps64
    go_wp2
    go_ret
    exact ⟨rfl, (Below.refl _ _).alloc (Nat.le_refl _) _⟩
set_option maxHeartbeats 1000000 in
theorem rhas_1 (x0 x1 x2 x3 : Nat) (i : Int) (h0 : 0 ≤ i) (h255 : i ≤ 255) (h1 : i / 64 = 1) (j : Nat) (hj : j < 64) (h2 : i % 64 = j) (hx : x1 < 18446744073709551616) (w : World) :
    Calls Try.prog 64 #[.agg #[.int .u64 x0, .int .u64 x1, .int .u64 x2, .int .u64 x3], .int .i64 i] w fun e w' => e = .returned (.bool (x1.testBit j)) ∧ Below w.heap.size w w' := by
  have hb := bit_and x1 j hx
  rw [bit_read] at hb
  clear hx
  cases hp : x1.testBit j with
  | true =>
    rw [hp] at hb
    simp only [if_true] at hb
    clear hp
    go_enter Try.func64, Try.ntmps64
    go_wp2
    go_ret
    exact ⟨rfl, (Below.refl _ _).alloc (Nat.le_refl _) _⟩
  | false =>
    rw [hp] at hb
    simp only [Bool.false_eq_true, if_false] at hb
    clear hp
    go_enter Try.func64, Try.ntmps64
    go_wp2
    go_ret
    exact ⟨rfl, (Below.refl _ _).alloc (Nat.le_refl _) _⟩
set_option maxHeartbeats 1000000 in
theorem rhas_2 (x0 x1 x2 x3 : Nat) (i : Int) (h0 : 0 ≤ i) (h255 : i ≤ 255) (h1 : i / 64 = 2) (j : Nat) (hj : j < 64) (h2 : i % 64 = j) (hx : x2 < 18446744073709551616) (w : World) :
    Calls Try.prog 64 #[.agg #[.int .u64 x0, .int .u64 x1, .int .u64 x2, .int .u64 x3], .int .i64 i] w fun e w' => e = .returned (.bool (x2.testBit j)) ∧ Below w.heap.size w w' := by
  have hb := bit_and x2 j hx
  rw [bit_read] at hb
  clear hx
  cases hp : x2.testBit j with
  | true =>
    rw [hp] at hb
    simp only [if_true] at hb
    clear hp
    go_enter Try.func64, Try.ntmps64
    go_wp2
    go_ret
    exact ⟨rfl, (Below.refl _ _).alloc (Nat.le_refl _) _⟩
  | false =>
    rw [hp] at hb
    simp only [Bool.false_eq_true, if_false] at hb
    clear hp
    go_enter Try.func64, Try.ntmps64
    go_wp2
    go_ret
    exact ⟨rfl, (Below.refl _ _).alloc (Nat.le_refl _) _⟩
set_option maxHeartbeats 1000000 in
theorem rhas_3 (x0 x1 x2 x3 : Nat) (i : Int) (h0 : 0 ≤ i) (h255 : i ≤ 255) (h1 : i / 64 = 3) (j : Nat) (hj : j < 64) (h2 : i % 64 = j) (hx : x3 < 18446744073709551616) (w : World) :
    Calls Try.prog 64 #[.agg #[.int .u64 x0, .int .u64 x1, .int .u64 x2, .int .u64 x3], .int .i64 i] w fun e w' => e = .returned (.bool (x3.testBit j)) ∧ Below w.heap.size w w' := by
  have hb := bit_and x3 j hx
  rw [bit_read] at hb
  clear hx
  cases hp : x3.testBit j with
  | true =>
    rw [hp] at hb
    simp only [if_true] at hb
    clear hp
    go_enter Try.func64, Try.ntmps64
    go_wp2
    go_ret
    exact ⟨rfl, (Below.refl _ _).alloc (Nat.le_refl _) _⟩
  | false =>
    rw [hp] at hb
    simp only [Bool.false_eq_true, if_false] at hb
    clear hp
    go_enter Try.func64, Try.ntmps64
    go_wp2
    go_ret
    exact ⟨rfl, (Below.refl _ _).alloc (Nat.le_refl _) _⟩

set_option maxHeartbeats 1000000 in
theorem rhas_low (x0 x1 x2 x3 : Nat) (i : Int) (h0 : i < 0) (w : World) :
    Calls Try.prog 64 #[.agg #[.int .u64 x0, .int .u64 x1, .int .u64 x2, .int .u64 x3], .int .i64 i] w fun e w' => e = .returned (.bool false) ∧ Below w.heap.size w w' := by
  go_enter Try.func64, Try.ntmps64
  go_wp2
  go_ret
  exact ⟨rfl, (Below.refl _ _).alloc (Nat.le_refl _) _⟩
set_option maxHeartbeats 1000000 in
theorem rhas_high (x0 x1 x2 x3 : Nat) (i : Int) (h0 : 0 ≤ i) (h : 255 < i) (w : World) :
    Calls Try.prog 64 #[.agg #[.int .u64 x0, .int .u64 x1, .int .u64 x2, .int .u64 x3], .int .i64 i] w fun e w' => e = .returned (.bool false) ∧ Below w.heap.size w w' := by
  go_enter Try.func64, Try.ntmps64
  go_wp2
  go_ret
  exact ⟨rfl, (Below.refl _ _).alloc (Nat.le_refl _) _⟩

theorem hasP_out {p : Nat → Bool} {i : Int} (h : i < 0 ∨ 255 < i) : hasP p i = false := by
  unfold hasP; rw [decide_eq_false (by omega)]; rfl

theorem rhas_any (p : Nat → Bool) (i : Int) (w : World) :
    Calls Try.prog 64 #[.agg #[.int .u64 (wd p 0), .int .u64 (wd p 1), .int .u64 (wd p 2), .int .u64 (wd p 3)], .int .i64 i] w fun e w' => e = .returned (.bool (hasP p i)) ∧ Below w.heap.size w w' := by
  rcases (show i < 0 ∨ (0 ≤ i ∧ 255 < i) ∨ (0 ≤ i ∧ i ≤ 255) by omega) with h | ⟨h0, h⟩ | ⟨h0, h1⟩
  · rw [hasP_out (.inl h)]; exact rhas_low _ _ _ _ i h w
  · rw [hasP_out (.inr h)]; exact rhas_high _ _ _ _ i h0 h w
  · obtain ⟨j, hj⟩ : ∃ j : Nat, i % 64 = j := ⟨(i % 64).toNat, by omega⟩
    have hj' : j < 64 := by omega
    rcases (show i / 64 = 0 ∨ i / 64 = 1 ∨ i / 64 = 2 ∨ i / 64 = 3 by omega) with g | g | g | g
    · rw [hasP_at (k := 0) h0 h1 g hj]; exact rhas_0 _ _ _ _ i h0 h1 g j hj' hj (wd_lt p 0) w
    · rw [hasP_at (k := 1) h0 h1 g hj]; exact rhas_1 _ _ _ _ i h0 h1 g j hj' hj (wd_lt p 1) w
    · rw [hasP_at (k := 2) h0 h1 g hj]; exact rhas_2 _ _ _ _ i h0 h1 g j hj' hj (wd_lt p 2) w
    · rw [hasP_at (k := 3) h0 h1 g hj]; exact rhas_3 _ _ _ _ i h0 h1 g j hj' hj (wd_lt p 3) w

end Go.Proofs.Ytlglncnhhgofoaa

/-
  The walks over accesses, and over the greatest chunk.
-/
namespace Go.Proofs.Ytlglncnhhgofoaa
open Go.RowKit Go.Maps

/-- Which set a tick uses, and whether one does. -/
def accOf (x : TV) (k : Int) : Int × Bool := if k < 0 then (0, false) else (x.us[(k % x.us.length).toNat]?.getD 0, decide (x.us ≠ []))
theorem acc_neg (x : TV) {k : Int} (h : k < 0) : accOf x k = (0, false) := by unfold accOf; rw [if_pos h]
theorem acc_nil {x : TV} {k : Int} (h : ¬ k < 0) (hu : x.us = []) : accOf x k = (0, false) := by unfold accOf; rw [if_neg h, hu]; rfl
theorem acc_at {x : TV} {k : Int} {j : Nat} {u : Int} (h : ¬ k < 0) (hj : k % x.us.length = (j : Int)) (hu : x.us[j]? = some u) : accOf x k = (u, true) := by
  unfold accOf
  rw [if_neg h, hj]
  have : x.us ≠ [] := by rintro e; rw [e] at hu; simp at hu
  simp [hu, this]
set_option maxRecDepth 100000 in
set_option maxHeartbeats 2000000 in
theorem acc_any (x : TV) (k : Int) (w : World) (hx : x.ok w) : Calls Try.prog 46 #[.agg #[.int .i64 x.id, .int .i64 x.c, .int .i64 x.d, .int .i64 x.t, .int .i64 x.p, .slice x.a1 x.ch.length x.c1, .slice x.a2 x.us.length x.c2], .int .i64 k] w fun e w' => e = .returned (.tuple #[.int .i64 (accOf x k).1, .bool (accOf x k).2]) ∧ Below w.heap.size w w' := by
  have hl2 := hx.l2
  have hm2 := hx.m2
  have hn9 : (x.us.length : Int) ≤ 9223372036854775807 := by omega
  clear hl2 hm2
  by_cases hk : k < 0
  · rw [acc_neg x hk]
    clear hx
    have hk2 : decide (k < 0) = true := decide_eq_true hk
    by_cases hu : x.us.length = 0
    · rw [hu]
      go_enter Try.func46, Try.ntmps46
      go_wp2_with fail
      go_ret2
      exact ⟨rfl, (by repeat (first | exact Below.refl _ _ | (with_reducible assumption) | refine bw_alloc ?_ _ | refine bw_drew ?_))⟩
    · have d1 : ((x.us.length : Int) == 0) = false := by rw [beq_eq_false_iff_ne]; omega
      generalize x.us.length = n at *
      go_enter Try.func46, Try.ntmps46
      go_wp2_with fail
      go_ret2
      exact ⟨rfl, (by repeat (first | exact Below.refl _ _ | (with_reducible assumption) | refine bw_alloc ?_ _ | refine bw_drew ?_))⟩
  · have hk2 : decide (k < 0) = false := decide_eq_false hk
    by_cases hu : x.us = []
    · rw [acc_nil hk hu]
      have hu2 : x.us.length = 0 := by rw [hu]; rfl
      clear hx hu
      rw [hu2]
      go_enter Try.func46, Try.ntmps46
      go_wp2_with fail
      go_ret2
      exact ⟨rfl, (by repeat (first | exact Below.refl _ _ | (with_reducible assumption) | refine bw_alloc ?_ _ | refine bw_drew ?_))⟩
    · have hp : 0 < x.us.length := List.length_pos_iff.2 hu
      obtain ⟨j, hj, hjl⟩ : ∃ j : Nat, k % x.us.length = (j : Int) ∧ j < x.us.length := by
        have a := Int.emod_nonneg k (show (x.us.length : Int) ≠ 0 by omega)
        have b := Int.emod_lt_of_pos k (show (0 : Int) < x.us.length by omega)
        exact ⟨(k % x.us.length).toNat, by omega, by omega⟩
      obtain ⟨u, hu⟩ := nth_of (rfl : x.us.length = x.us.length) hjl
      rw [acc_at hk hj hu]
      obtain ⟨g, o, ha, hc⟩ := hx.two.at_ hu
      have hgl : g < w.heap.size := block_of_cell hc
      rw [ha]
      have e1 : k.tmod x.us.length = (j : Int) := by rw [Int.tmod_eq_emod_of_nonneg (by omega)]; exact hj
      have d1 : ((x.us.length : Int) == 0) = false := by rw [beq_eq_false_iff_ne]; omega
      have z1 : ¬ (x.us.length : Int) = 0 := by omega
      have z2 : ¬ x.us.length = 0 := by omega
      have hj1 : (j : Int) < (x.us.length : Int) := by omega
      have hj0 : (0 : Int) ≤ (j : Int) := by omega
      clear hx hu ha hj hp
      generalize x.us.length = n at *
      go_enter Try.func46, Try.ntmps46
      go_upto_region 3 with fail
      go_quiet (fail)
      go_wp2_with fail
      go_ret2
      exact ⟨rfl, below_same (Below.alloc (Below.refl _ _) (Nat.le_refl _) _) rfl rfl rfl rfl⟩
end Go.Proofs.Ytlglncnhhgofoaa

/-
  A job's work in memory, and what a tick makes of it.
-/
namespace Go.Proofs.Ytlglncnhhgofoaa
open Go.RowKit Go.Maps

abbrev WT : TypeId := 49
/-- A job's work. -/
structure WK where
  dn : Int
  dm : Int
  db : Int
  rl : Int
  sn : Nat → Bool
/-- What may be stepped. -/
def Fits (id rel : Int) (k : WK) : Prop := okOwn id ∧ 0 ≤ rel ∧ rel ≤ 1000 ∧ 0 ≤ k.dn ∧ k.dn < k.dm ∧ 0 ≤ k.db
instance (id rel : Int) (k : WK) : Decidable (Fits id rel k) := inferInstanceAs (Decidable (_ ∧ _ ∧ _ ∧ _ ∧ _ ∧ _))
def wUp (x : Int) : Int := IntKind.i64.wrap (x + 1)
def bitUp (p : Nat → Bool) (s : Int) : Nat → Bool := orP p (oneP s)
/-- A tick of work with nothing to end: the set s, if any (u), is used. -/
def workW (n : Nat) (L : Nat → Int) (id : Int) (s : Int) (u : Bool) (rel : Int) (k : WK) : WK × Bool :=
  if u = true ∧ okSet n s then
    if ¬ L s.toNat = id ∧ 0 < rel ∧ hasP k.sn s = true then ({ k with db := rel - 1, rl := wUp k.rl }, true)
    else ({ k with dn := k.dn + 1, sn := bitUp k.sn s }, false)
  else ({ k with dn := k.dn + 1 }, false)
def workL (n : Nat) (L : Nat → Int) (id : Int) (s : Int) (u : Bool) : Nat → Int := if u = true ∧ okSet n s then putL L s id else L
/-- A tick. -/
def stepW (n : Nat) (L : Nat → Int) (id : Int) (s : Int) (u : Bool) (rel : Int) (k : WK) : WK × Bool :=
  if Fits id rel k then if 0 < k.db then ({ k with db := k.db - 1, rl := wUp k.rl }, true) else workW n L id s u rel k
  else (k, false)
def stepL (n : Nat) (L : Nat → Int) (id : Int) (s : Int) (u : Bool) (rel : Int) (k : WK) : Nat → Int :=
  if Fits id rel k ∧ ¬ 0 < k.db then workL n L id s u else L
/-- What a tick leaves. -/
def StepBack (T : TypeId) (b r n : Nat) (L' : Nat → Int) (o : WK × Bool) (w : World) (e : Ending) (w' : World) : Prop :=
  e = .returned (.tuple #[.agg #[.int .i64 o.1.dn, .int .i64 o.1.dm, .int .i64 o.1.db, .int .i64 o.1.rl, .int .u64 (wd o.1.sn 0), .int .u64 (wd o.1.sn 1), .int .u64 (wd o.1.sn 2), .int .u64 (wd o.1.sn 3)], .bool o.2]) ∧ Ch T w' b r n L' ∧ Turn (fun k => k = r) w w'

/-- The boxes of a call: a task, a work, the work that comes back. -/
structure StepAt (S : Nat → Prop) (w : World) (x : TV) (a b c d : Int) (y : Nat → Nat) (W : World) : Prop where
  low : Turn S w W
  tb : W.heap[w.heap.size]? = some (.cells #[.int .i64 x.id, .int .i64 x.c, .int .i64 x.d, .int .i64 x.t, .int .i64 x.p, .slice x.a1 x.ch.length x.c1, .slice x.a2 x.us.length x.c2] TT (0, 0))
  wb : W.heap[w.heap.size + 1]? = some (.cells #[.int .i64 a, .int .i64 b, .int .i64 c, .int .i64 d, .int .u64 (y 0), .int .u64 (y 1), .int .u64 (y 2), .int .u64 (y 3)] WT (0, 0))
  rb : W.heap[w.heap.size + 1 + 1]? = some (.cells #[.int .i64 0, .int .i64 0, .int .i64 0, .int .i64 0, .int .u64 0, .int .u64 0, .int .u64 0, .int .u64 0] WT (0, 0))
theorem StepAt.below {S : Nat → Prop} {w W W' : World} {x : TV} {a b c d : Int} {y : Nat → Nat} (h : StepAt S w x a b c d y W) (hb : Below W.heap.size W W') : StepAt S w x a b c d y W' :=
  ⟨h.low.bel hb, kept_obj hb h.tb, kept_obj hb h.wb, kept_obj hb h.rb⟩
theorem StepAt.turn {r : Nat} {w W W' : World} {x : TV} {a b c d : Int} {y : Nat → Nat} (h : StepAt (fun k => k = r) w x a b c d y W) (hb : Turn (fun k => k = r) W W') (hr : r < w.heap.size) : StepAt (fun k => k = r) w x a b c d y W' :=
  ⟨h.low.then hb, hb.obj h.tb (by omega), hb.obj h.wb (by omega), hb.obj h.rb (by omega)⟩
theorem stepAt_new (S : Nat → Prop) (w : World) (x : TV) (a b c d : Int) (y : Nat → Nat) : StepAt S w x a b c d y (((w.alloc (.cells #[.int .i64 x.id, .int .i64 x.c, .int .i64 x.d, .int .i64 x.t, .int .i64 x.p, .slice x.a1 x.ch.length x.c1, .slice x.a2 x.us.length x.c2] TT)).alloc (.cells #[.int .i64 a, .int .i64 b, .int .i64 c, .int .i64 d, .int .u64 (y 0), .int .u64 (y 1), .int .u64 (y 2), .int .u64 (y 3)] WT)).alloc (.cells #[.int .i64 0, .int .i64 0, .int .i64 0, .int .i64 0, .int .u64 0, .int .u64 0, .int .u64 0, .int .u64 0] WT)) := by
  have e1 := World.size_alloc w (.cells #[.int .i64 x.id, .int .i64 x.c, .int .i64 x.d, .int .i64 x.t, .int .i64 x.p, .slice x.a1 x.ch.length x.c1, .slice x.a2 x.us.length x.c2] TT)
  have e2 := World.size_alloc (w.alloc (.cells #[.int .i64 x.id, .int .i64 x.c, .int .i64 x.d, .int .i64 x.t, .int .i64 x.p, .slice x.a1 x.ch.length x.c1, .slice x.a2 x.us.length x.c2] TT)) (.cells #[.int .i64 a, .int .i64 b, .int .i64 c, .int .i64 d, .int .u64 (y 0), .int .u64 (y 1), .int .u64 (y 2), .int .u64 (y 3)] WT)
  refine ⟨Turn.of_below (by repeat (first | exact Below.refl _ _ | (with_reducible assumption) | refine bw_alloc ?_ _ | refine bw_drew ?_)), ?_, ?_, ?_⟩
  · exact kept_obj ((Below.refl _ _).alloc (Nat.le_refl _) _) (kept_obj ((Below.refl _ _).alloc (Nat.le_refl _) _) (heap_alloc_new w _))
  · have := heap_alloc_new (w.alloc (.cells #[.int .i64 x.id, .int .i64 x.c, .int .i64 x.d, .int .i64 x.t, .int .i64 x.p, .slice x.a1 x.ch.length x.c1, .slice x.a2 x.us.length x.c2] TT)) (.cells #[.int .i64 a, .int .i64 b, .int .i64 c, .int .i64 d, .int .u64 (y 0), .int .u64 (y 1), .int .u64 (y 2), .int .u64 (y 3)] WT)
    rw [e1] at this
    exact kept_obj ((Below.refl _ _).alloc (Nat.le_refl _) _) this
  · have := heap_alloc_new ((w.alloc (.cells #[.int .i64 x.id, .int .i64 x.c, .int .i64 x.d, .int .i64 x.t, .int .i64 x.p, .slice x.a1 x.ch.length x.c1, .slice x.a2 x.us.length x.c2] TT)).alloc (.cells #[.int .i64 a, .int .i64 b, .int .i64 c, .int .i64 d, .int .u64 (y 0), .int .u64 (y 1), .int .u64 (y 2), .int .u64 (y 3)] WT)) (.cells #[.int .i64 0, .int .i64 0, .int .i64 0, .int .i64 0, .int .u64 0, .int .u64 0, .int .u64 0, .int .u64 0] WT)
    rw [e2, e1] at this
    exact this
theorem StepAt.set0 {S : Nat → Prop} {w W : World} {x : TV} {a b c d : Int} {y : Nat → Nat} (h : StepAt S w x a b c d y W) (a' : Int) : StepAt S w x a' b c d y (W.setCell ⟨w.heap.size + 1, 0, none⟩ (.int .i64 a')) :=
  ⟨h.low.setCell (p := ⟨w.heap.size + 1, 0, none⟩) (fun q => absurd q (by show ¬ w.heap.size + 1 < _; omega)) _, (blk_far (a := ⟨w.heap.size + 1, 0, none⟩) (by show w.heap.size ≠ w.heap.size + 1; omega) _).trans h.tb, (blk_set h.wb _).trans rfl, (blk_far (a := ⟨w.heap.size + 1, 0, none⟩) (by show w.heap.size + 1 + 1 ≠ w.heap.size + 1; omega) _).trans h.rb⟩
theorem StepAt.facts {S : Nat → Prop} {w W : World} {x : TV} {a b c d : Int} {y : Nat → Nat} (h : StepAt S w x a b c d y W) :
    W.cell? ⟨w.heap.size, 0, none⟩ = some (.int .i64 x.id) ∧ W.cell? ⟨w.heap.size, 1, none⟩ = some (.int .i64 x.c) ∧ W.cell? ⟨w.heap.size, 2, none⟩ = some (.int .i64 x.d) ∧ W.cell? ⟨w.heap.size, 3, none⟩ = some (.int .i64 x.t) ∧ W.cell? ⟨w.heap.size, 4, none⟩ = some (.int .i64 x.p) ∧ W.cell? ⟨w.heap.size, 5, none⟩ = some (.slice x.a1 x.ch.length x.c1) ∧ W.cell? ⟨w.heap.size, 6, none⟩ = some (.slice x.a2 x.us.length x.c2) ∧ W.cell? ⟨w.heap.size + 1, 0, none⟩ = some (.int .i64 a) ∧ W.cell? ⟨w.heap.size + 1, 1, none⟩ = some (.int .i64 b) ∧ W.cell? ⟨w.heap.size + 1, 2, none⟩ = some (.int .i64 c) ∧ W.cell? ⟨w.heap.size + 1, 3, none⟩ = some (.int .i64 d) ∧ W.cell? ⟨w.heap.size + 1, 4, none⟩ = some (.int .u64 (y 0)) ∧ W.cell? ⟨w.heap.size + 1, 5, none⟩ = some (.int .u64 (y 1)) ∧ W.cell? ⟨w.heap.size + 1, 6, none⟩ = some (.int .u64 (y 2)) ∧ W.cell? ⟨w.heap.size + 1, 7, none⟩ = some (.int .u64 (y 3)) ∧ W.frozen? ⟨w.heap.size + 1, 0, none⟩ = false ∧ W.frozen? ⟨w.heap.size + 1, 1, none⟩ = false ∧ W.frozen? ⟨w.heap.size + 1, 2, none⟩ = false ∧ W.frozen? ⟨w.heap.size + 1, 3, none⟩ = false ∧ W.frozen? ⟨w.heap.size + 1, 4, none⟩ = false ∧ W.frozen? ⟨w.heap.size + 1, 5, none⟩ = false ∧ W.frozen? ⟨w.heap.size + 1, 6, none⟩ = false ∧ W.frozen? ⟨w.heap.size + 1, 7, none⟩ = false ∧ W.cell? ⟨w.heap.size + 1 + 1, 0, none⟩ = some ((.int .i64 0)) ∧ W.cell? ⟨w.heap.size + 1 + 1, 1, none⟩ = some ((.int .i64 0)) ∧ W.cell? ⟨w.heap.size + 1 + 1, 2, none⟩ = some ((.int .i64 0)) ∧ W.cell? ⟨w.heap.size + 1 + 1, 3, none⟩ = some ((.int .i64 0)) ∧ W.cell? ⟨w.heap.size + 1 + 1, 4, none⟩ = some ((.int .u64 0)) ∧ W.cell? ⟨w.heap.size + 1 + 1, 5, none⟩ = some ((.int .u64 0)) ∧ W.cell? ⟨w.heap.size + 1 + 1, 6, none⟩ = some ((.int .u64 0)) ∧ W.cell? ⟨w.heap.size + 1 + 1, 7, none⟩ = some ((.int .u64 0)) ∧ W.frozen? ⟨w.heap.size + 1 + 1, 0, none⟩ = false ∧ W.frozen? ⟨w.heap.size + 1 + 1, 1, none⟩ = false ∧ W.frozen? ⟨w.heap.size + 1 + 1, 2, none⟩ = false ∧ W.frozen? ⟨w.heap.size + 1 + 1, 3, none⟩ = false ∧ W.frozen? ⟨w.heap.size + 1 + 1, 4, none⟩ = false ∧ W.frozen? ⟨w.heap.size + 1 + 1, 5, none⟩ = false ∧ W.frozen? ⟨w.heap.size + 1 + 1, 6, none⟩ = false ∧ W.frozen? ⟨w.heap.size + 1 + 1, 7, none⟩ = false :=
  ⟨by rw [blk_cell h.tb]; rfl, by rw [blk_cell h.tb]; rfl, by rw [blk_cell h.tb]; rfl, by rw [blk_cell h.tb]; rfl, by rw [blk_cell h.tb]; rfl, by rw [blk_cell h.tb]; rfl, by rw [blk_cell h.tb]; rfl, by rw [blk_cell h.wb]; rfl, by rw [blk_cell h.wb]; rfl, by rw [blk_cell h.wb]; rfl, by rw [blk_cell h.wb]; rfl, by rw [blk_cell h.wb]; rfl, by rw [blk_cell h.wb]; rfl, by rw [blk_cell h.wb]; rfl, by rw [blk_cell h.wb]; rfl, blk_free h.wb 0, blk_free h.wb 1, blk_free h.wb 2, blk_free h.wb 3, blk_free h.wb 4, blk_free h.wb 5, blk_free h.wb 6, blk_free h.wb 7, by rw [blk_cell h.rb]; rfl, by rw [blk_cell h.rb]; rfl, by rw [blk_cell h.rb]; rfl, by rw [blk_cell h.rb]; rfl, by rw [blk_cell h.rb]; rfl, by rw [blk_cell h.rb]; rfl, by rw [blk_cell h.rb]; rfl, by rw [blk_cell h.rb]; rfl, blk_free h.rb 0, blk_free h.rb 1, blk_free h.rb 2, blk_free h.rb 3, blk_free h.rb 4, blk_free h.rb 5, blk_free h.rb 6, blk_free h.rb 7⟩
/-- Eight cells stored. -/
theorem box_set8 {w : World} {b : Nat} {T : TypeId} {z0 z1 z2 z3 z4 z5 z6 z7 : Value} (h : w.heap[b]? = some (.cells #[z0, z1, z2, z3, z4, z5, z6, z7] T (0, 0))) (y0 y1 y2 y3 y4 y5 y6 y7 : Value) : ((((((((w.setCell ⟨b, 0, none⟩ y0).setCell ⟨b, 1, none⟩ y1).setCell ⟨b, 2, none⟩ y2).setCell ⟨b, 3, none⟩ y3).setCell ⟨b, 4, none⟩ y4).setCell ⟨b, 5, none⟩ y5).setCell ⟨b, 6, none⟩ y6).setCell ⟨b, 7, none⟩ y7).heap[b]? = some (.cells #[y0, y1, y2, y3, y4, y5, y6, y7] T (0, 0)) := by
  have h0 : (w.setCell ⟨b, 0, none⟩ y0).heap[b]? = some (.cells #[y0, z1, z2, z3, z4, z5, z6, z7] T (0, 0)) := blk_set (o := 0) h y0
  generalize w.setCell ⟨b, 0, none⟩ y0 = w0 at h0 ⊢
  have h1 : (w0.setCell ⟨b, 1, none⟩ y1).heap[b]? = some (.cells #[y0, y1, z2, z3, z4, z5, z6, z7] T (0, 0)) := blk_set (o := 1) h0 y1
  generalize w0.setCell ⟨b, 1, none⟩ y1 = w1 at h1 ⊢
  have h2 : (w1.setCell ⟨b, 2, none⟩ y2).heap[b]? = some (.cells #[y0, y1, y2, z3, z4, z5, z6, z7] T (0, 0)) := blk_set (o := 2) h1 y2
  generalize w1.setCell ⟨b, 2, none⟩ y2 = w2 at h2 ⊢
  have h3 : (w2.setCell ⟨b, 3, none⟩ y3).heap[b]? = some (.cells #[y0, y1, y2, y3, z4, z5, z6, z7] T (0, 0)) := blk_set (o := 3) h2 y3
  generalize w2.setCell ⟨b, 3, none⟩ y3 = w3 at h3 ⊢
  have h4 : (w3.setCell ⟨b, 4, none⟩ y4).heap[b]? = some (.cells #[y0, y1, y2, y3, y4, z5, z6, z7] T (0, 0)) := blk_set (o := 4) h3 y4
  generalize w3.setCell ⟨b, 4, none⟩ y4 = w4 at h4 ⊢
  have h5 : (w4.setCell ⟨b, 5, none⟩ y5).heap[b]? = some (.cells #[y0, y1, y2, y3, y4, y5, z6, z7] T (0, 0)) := blk_set (o := 5) h4 y5
  generalize w4.setCell ⟨b, 5, none⟩ y5 = w5 at h5 ⊢
  have h6 : (w5.setCell ⟨b, 6, none⟩ y6).heap[b]? = some (.cells #[y0, y1, y2, y3, y4, y5, y6, z7] T (0, 0)) := blk_set (o := 6) h5 y6
  generalize w5.setCell ⟨b, 6, none⟩ y6 = w6 at h6 ⊢
  exact blk_set (o := 7) h6 y7
theorem far8 {w : World} {k b : Nat} (hne : k ≠ b) (y0 y1 y2 y3 y4 y5 y6 y7 : Value) : ((((((((w.setCell ⟨b, 0, none⟩ y0).setCell ⟨b, 1, none⟩ y1).setCell ⟨b, 2, none⟩ y2).setCell ⟨b, 3, none⟩ y3).setCell ⟨b, 4, none⟩ y4).setCell ⟨b, 5, none⟩ y5).setCell ⟨b, 6, none⟩ y6).setCell ⟨b, 7, none⟩ y7).heap[k]? = w.heap[k]? := by
  rw [blk_far (a := ⟨b, 7, none⟩) hne, blk_far (a := ⟨b, 6, none⟩) hne, blk_far (a := ⟨b, 5, none⟩) hne, blk_far (a := ⟨b, 4, none⟩) hne, blk_far (a := ⟨b, 3, none⟩) hne, blk_far (a := ⟨b, 2, none⟩) hne, blk_far (a := ⟨b, 1, none⟩) hne, blk_far (a := ⟨b, 0, none⟩) hne]
theorem turn8 {S : Nat → Prop} {w W : World} {b : Nat} (h : Turn S w W) (hb : w.heap.size ≤ b) (y0 y1 y2 y3 y4 y5 y6 y7 : Value) : Turn S w ((((((((W.setCell ⟨b, 0, none⟩ y0).setCell ⟨b, 1, none⟩ y1).setCell ⟨b, 2, none⟩ y2).setCell ⟨b, 3, none⟩ y3).setCell ⟨b, 4, none⟩ y4).setCell ⟨b, 5, none⟩ y5).setCell ⟨b, 6, none⟩ y6).setCell ⟨b, 7, none⟩ y7) := by
  have hs : ∀ (X : World), Turn S w X → ∀ (o : Nat) (v : Value), Turn S w (X.setCell ⟨b, o, none⟩ v) := fun X hX o v => hX.setCell (p := ⟨b, o, none⟩) (fun q => absurd q (by show ¬ b < _; omega)) v
  exact hs _ (hs _ (hs _ (hs _ (hs _ (hs _ (hs _ (hs _ h 0 y0) 1 y1) 2 y2) 3 y3) 4 y4) 5 y5) 6 y6) 7 y7
/-- What comes back stands in its box: the rest is as it was. -/
theorem Ch.out8 {T : TypeId} {W : World} {b r n g : Nat} {L : Nat → Int} (h : Ch T W b r n L) (hb : b ≠ g) (hr : r ≠ g) (y0 y1 y2 y3 y4 y5 y6 y7 : Value) : Ch T ((((((((W.setCell ⟨g, 0, none⟩ y0).setCell ⟨g, 1, none⟩ y1).setCell ⟨g, 2, none⟩ y2).setCell ⟨g, 3, none⟩ y3).setCell ⟨g, 4, none⟩ y4).setCell ⟨g, 5, none⟩ y5).setCell ⟨g, 6, none⟩ y6).setCell ⟨g, 7, none⟩ y7) b r n L := by
  obtain ⟨cur, h1, h2, h3⟩ := h.row
  exact ⟨(far8 hb y0 y1 y2 y3 y4 y5 y6 y7).trans h.str, ⟨cur, (far8 hr y0 y1 y2 y3 y4 y5 y6 y7).trans h1, h2, h3⟩, h.ne, h.few, h.wf⟩
theorem cells8 {w : World} {b : Nat} {T : TypeId} {y0 y1 y2 y3 y4 y5 y6 y7 : Value} (h : w.heap[b]? = some (.cells #[y0, y1, y2, y3, y4, y5, y6, y7] T (0, 0))) : w.cell? ⟨b, 0, none⟩ = some y0 ∧ w.cell? ⟨b, 1, none⟩ = some y1 ∧ w.cell? ⟨b, 2, none⟩ = some y2 ∧ w.cell? ⟨b, 3, none⟩ = some y3 ∧ w.cell? ⟨b, 4, none⟩ = some y4 ∧ w.cell? ⟨b, 5, none⟩ = some y5 ∧ w.cell? ⟨b, 6, none⟩ = some y6 ∧ w.cell? ⟨b, 7, none⟩ = some y7 :=
  ⟨by rw [blk_cell h]; rfl, by rw [blk_cell h]; rfl, by rw [blk_cell h]; rfl, by rw [blk_cell h]; rfl, by rw [blk_cell h]; rfl, by rw [blk_cell h]; rfl, by rw [blk_cell h]; rfl, by rw [blk_cell h]; rfl⟩
end Go.Proofs.Ytlglncnhhgofoaa

/-
  Works, rows of pairs and rows of steps that came in, opened.
-/
namespace Go.Proofs.Ytlglncnhhgofoaa
open Go.ChangeShapes Go.WideShapes Go.ChangeAt Go.RowKit

section
variable {H : Type} {enc : TypeId × Value → H} {W : World} {base : Nat} {spare : Nat → Bool} {held : Bool}

set_option maxRecDepth 100000 in
theorem nat_of_wf {n : Int} (h : (Lit.int .u64 n).wf = true) : ∃ m : Nat, n = (m : Int) ∧ m < 18446744073709551616 := by
  simp [Lit.wf, IntKind.min, IntKind.max, IntKind.signed, IntKind.bits] at h
  exact ⟨n.toNat, by omega, by omega⟩
set_option maxRecDepth 100000 in
/-- The four words of a set. -/
theorem open_bits {fuel : Nat} {v0 v1 v2 v3 : Value} {y : DataW H × List MemPlace} (h : DataW.trod enc Try.prog W base spare held fuel 47 [v0, v1, v2, v3] = some y) :
    ∃ x : Nat → Nat, (v0 = .int .u64 (x 0) ∧ v1 = .int .u64 (x 1) ∧ v2 = .int .u64 (x 2) ∧ v3 = .int .u64 (x 3)) ∧ ∀ k, x k < 18446744073709551616 := by
  have k1 : Try.prog.cellsOf 40 = 1 := by kernel_rfl
  obtain ⟨ys, m, _, _, hlen, hyl, hall⟩ := DataW.trod_array Try.underlying47 h
  rw [k1] at hall
  match ys, hyl with
  | [y0, y1, y2, y3], _ =>
    have t0 : DataW.trod enc Try.prog W base spare held m 40 [v0] = some y0 := by have q := hall 0 (by omega); simpa using q
    have t1 : DataW.trod enc Try.prog W base spare held m 40 [v1] = some y1 := by have q := hall 1 (by omega); simpa using q
    have t2 : DataW.trod enc Try.prog W base spare held m 40 [v2] = some y2 := by have q := hall 2 (by omega); simpa using q
    have t3 : DataW.trod enc Try.prog W base spare held m 40 [v3] = some y3 := by have q := hall 3 (by omega); simpa using q
    obtain ⟨n0, e0, _, w0⟩ := DataW.trod_int Try.underlying40 t0
    obtain ⟨n1, e1, _, w1⟩ := DataW.trod_int Try.underlying40 t1
    obtain ⟨n2, e2, _, w2⟩ := DataW.trod_int Try.underlying40 t2
    obtain ⟨n3, e3, _, w3⟩ := DataW.trod_int Try.underlying40 t3
    simp at e0 e1 e2 e3
    subst e0 e1 e2 e3
    obtain ⟨m0, rfl, l0⟩ := nat_of_wf w0
    obtain ⟨m1, rfl, l1⟩ := nat_of_wf w1
    obtain ⟨m2, rfl, l2⟩ := nat_of_wf w2
    obtain ⟨m3, rfl, l3⟩ := nat_of_wf w3
    exact ⟨fun k => match k with | 0 => m0 | 1 => m1 | 2 => m2 | _ => m3, ⟨rfl, rfl, rfl, rfl⟩, fun k => by
      match k with
      | 0 => exact l0
      | 1 => exact l1
      | 2 => exact l2
      | _ + 3 => exact l3⟩
set_option maxRecDepth 100000 in
/-- The cells of a work. -/
theorem open_wcells {fuel : Nat} {cs : List Value} {y : DataW H × List MemPlace} (h : DataW.trod enc Try.prog W base spare held fuel WT cs = some y) :
    ∃ (a b c d : Int) (x : Nat → Nat), cs = [.int .i64 a, .int .i64 b, .int .i64 c, .int .i64 d, .int .u64 (x 0), .int .u64 (x 1), .int .u64 (x 2), .int .u64 (x 3)] ∧ (I64 a ∧ I64 b ∧ I64 c ∧ I64 d) ∧ ∀ k, x k < 18446744073709551616 := by
  obtain ⟨xs, n, _, _, hl, hlen, hf⟩ := DataW.trod_struct Try.underlying49 h
  have hl8 : cs.length = 8 := hl.trans (by kernel_rfl)
  have hx5 : xs.length = 5 := hlen
  have k1 : Try.prog.cellsOf 2 = 1 := by kernel_rfl
  have k2 : Try.prog.cellsOf 47 = 4 := by kernel_rfl
  match cs, hl8, xs, hx5 with
  | [v0, v1, v2, v3, v4, v5, v6, v7], _, [y0, y1, y2, y3, y4], _ =>
    have t0 : DataW.trod enc Try.prog W base spare held n 2 [v0] = some y0 := by have q := hf 0 _ rfl; simpa [k1, k2] using q
    have t1 : DataW.trod enc Try.prog W base spare held n 2 [v1] = some y1 := by have q := hf 1 _ rfl; simpa [k1, k2] using q
    have t2 : DataW.trod enc Try.prog W base spare held n 2 [v2] = some y2 := by have q := hf 2 _ rfl; simpa [k1, k2] using q
    have t3 : DataW.trod enc Try.prog W base spare held n 2 [v3] = some y3 := by have q := hf 3 _ rfl; simpa [k1, k2] using q
    have t4 : DataW.trod enc Try.prog W base spare held n 47 [v4, v5, v6, v7] = some y4 := by have q := hf 4 _ rfl; simpa [k1, k2] using q
    obtain ⟨n0, e0, _, w0⟩ := DataW.trod_int Try.underlying2 t0
    obtain ⟨n1, e1, _, w1⟩ := DataW.trod_int Try.underlying2 t1
    obtain ⟨n2, e2, _, w2⟩ := DataW.trod_int Try.underlying2 t2
    obtain ⟨n3, e3, _, w3⟩ := DataW.trod_int Try.underlying2 t3
    obtain ⟨x, ⟨e4, e5, e6, e7⟩, hx⟩ := open_bits t4
    simp at e0 e1 e2 e3
    subst e0 e1 e2 e3 e4 e5 e6 e7
    exact ⟨n0, n1, n2, n3, x, rfl, ⟨i64_of_wf w0, i64_of_wf w1, i64_of_wf w2, i64_of_wf w3⟩, hx⟩
set_option maxRecDepth 100000 in
/-- A work by value. -/
theorem open_work {r : Reach} {b0 : Nat} {v : Value} {d : DataW H} {p : List MemPlace} (hv : Value.okWide Try.prog W r b0 WT v) (h : DataW.Trod enc Try.prog W base spare held WT v d p) :
    ∃ (a b c d : Int) (x : Nat → Nat), v = .agg #[.int .i64 a, .int .i64 b, .int .i64 c, .int .i64 d, .int .u64 (x 0), .int .u64 (x 1), .int .u64 (x 2), .int .u64 (x 3)] ∧ (I64 a ∧ I64 b ∧ I64 c ∧ I64 d) ∧ ∀ k, x k < 18446744073709551616 := by
  obtain ⟨cs, rfl, _⟩ := okWide_struct Try.underlying49 hv
  obtain ⟨fuel, hf⟩ := h
  obtain ⟨a, b, c, d, x, hx, h1, h2⟩ := open_wcells hf
  refine ⟨a, b, c, d, x, ?_, h1, h2⟩
  simp only [Value.cells] at hx
  congr 1
  apply Array.ext'
  exact hx
set_option maxRecDepth 100000 in
/-- Words are a set's. -/
theorem words_set (x : Nat → Nat) (hx : ∀ k, x k < 18446744073709551616) : ∃ p : Nat → Bool, wd p 0 = x 0 ∧ wd p 1 = x 1 ∧ wd p 2 = x 2 ∧ wd p 3 = x 3 :=
  ⟨_, wd_setOf (x 0) (x 1) (x 2) (x 3) (hx 0) (hx 1) (hx 2) (hx 3)⟩
end
end Go.Proofs.Ytlglncnhhgofoaa
