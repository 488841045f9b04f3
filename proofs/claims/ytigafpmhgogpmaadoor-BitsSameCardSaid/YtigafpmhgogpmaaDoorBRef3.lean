/-
  The walks over the document's own answers: what is in both sets, in the first one alone; the set of a row.
-/
import Derived.Test.YtigafpmhgogpmaaDoorBRef2
import Derived.Deep.RegionHeld3
namespace Go.Proofs.YtigafpmhgogpmaaDoor
open Go.RowKit

/-- What is left when the first n have been looked at. -/
def andC (p q : Nat → Bool) (n : Nat) (x : Nat) : Bool := p x && (decide (n ≤ x) || q x)
def minusC (p q : Nat → Bool) (n : Nat) (x : Nat) : Bool := p x && !(decide (x < n) && q x)

theorem hasP_nat {p : Nat → Bool} {n : Nat} (h : n < 256) : hasP p (n : Int) = p n := by
  unfold hasP; rw [decide_eq_true (⟨by omega, by omega⟩ : (0 : Int) ≤ n ∧ (n : Int) ≤ 255)]; simp

theorem andC_start (p q : Nat → Bool) (k : Nat) : wd (andC p q 0) k = wd p k := natOf_congr fun j _ => by simp [andC]
theorem minusC_start (p q : Nat → Bool) (k : Nat) : wd (minusC p q 0) k = wd p k := natOf_congr fun j _ => by simp [minusC]
theorem andC_end (p q : Nat → Bool) {k : Nat} (hk : k < 4) : wd (andC p q 256) k = wd (andP p q) k := wd_congr (fun x hx => by simp [andC, andP, show ¬ 256 ≤ x by omega]) hk
theorem minusC_end (p q : Nat → Bool) {k : Nat} (hk : k < 4) : wd (minusC p q 256) k = wd (minusP p q) k := wd_congr (fun x hx => by simp [minusC, minusP, hx]) hk
theorem andC_drop (p q : Nat → Bool) {n : Nat} (h : q n = false) (k : Nat) : wd (minusP (andC p q n) (oneP n)) k = wd (andC p q (n + 1)) k := natOf_congr fun j _ => by
  unfold andC minusP oneP
  rcases Nat.lt_trichotomy (64 * k + j) n with g | g | g
  · rw [decide_eq_false (show ¬ ((64 * k + j : Nat) : Int) = (n : Int) by omega)]; simp [show ¬ n ≤ 64 * k + j by omega, show ¬ n + 1 ≤ 64 * k + j by omega]
  · rw [g]; simp [h]
  · rw [decide_eq_false (show ¬ ((64 * k + j : Nat) : Int) = (n : Int) by omega)]; simp [show n ≤ 64 * k + j by omega, show n + 1 ≤ 64 * k + j by omega]
theorem andC_keep (p q : Nat → Bool) {n : Nat} (h : q n = true) (k : Nat) : wd (andC p q n) k = wd (andC p q (n + 1)) k := natOf_congr fun j _ => by
  unfold andC
  rcases Nat.lt_trichotomy (64 * k + j) n with g | g | g
  · simp [show ¬ n ≤ 64 * k + j by omega, show ¬ n + 1 ≤ 64 * k + j by omega]
  · rw [g]; simp [h]
  · simp [show n ≤ 64 * k + j by omega, show n + 1 ≤ 64 * k + j by omega]
theorem minusC_drop (p q : Nat → Bool) {n : Nat} (h : q n = true) (k : Nat) : wd (minusP (minusC p q n) (oneP n)) k = wd (minusC p q (n + 1)) k := natOf_congr fun j _ => by
  unfold minusC minusP oneP
  rcases Nat.lt_trichotomy (64 * k + j) n with g | g | g
  · rw [decide_eq_false (show ¬ ((64 * k + j : Nat) : Int) = (n : Int) by omega)]; simp [show 64 * k + j < n by omega, show 64 * k + j < n + 1 by omega]
  · rw [g]; simp [h]
  · rw [decide_eq_false (show ¬ ((64 * k + j : Nat) : Int) = (n : Int) by omega)]; simp [show ¬ 64 * k + j < n by omega, show ¬ 64 * k + j < n + 1 by omega]
theorem minusC_keep (p q : Nat → Bool) {n : Nat} (h : q n = false) (k : Nat) : wd (minusC p q n) k = wd (minusC p q (n + 1)) k := natOf_congr fun j _ => by
  unfold minusC
  rcases Nat.lt_trichotomy (64 * k + j) n with g | g | g
  · simp [show 64 * k + j < n by omega, show 64 * k + j < n + 1 by omega]
  · rw [g]; simp [h]
  · simp [show ¬ 64 * k + j < n by omega, show ¬ 64 * k + j < n + 1 by omega]

structure Loop3 (w wr : World) (x b : Nat → Nat) : Prop where
  x : Four wr w.heap.size (x 0) (x 1) (x 2) (x 3)
  y : Four wr (w.heap.size + 1) (b 0) (b 1) (b 2) (b 3)
  z : Four wr (w.heap.size + 1 + 1) 0 0 0 0
  below : Below w.heap.size w wr

set_option maxRecDepth 100000 in
set_option maxHeartbeats 2000000 in
theorem rand_any (p q : Nat → Bool) (w : World) :
    Calls Tryd.prog 25 #[.agg #[.int .u64 (wd p 0), .int .u64 (wd p 1), .int .u64 (wd p 2), .int .u64 (wd p 3)], .agg #[.int .u64 (wd q 0), .int .u64 (wd q 1), .int .u64 (wd q 2), .int .u64 (wd q 3)]] w fun e w' => e = .returned (.agg #[.int .u64 (wd (andP p q) 0), .int .u64 (wd (andP p q) 1), .int .u64 (wd (andP p q) 2), .int .u64 (wd (andP p q) 3)]) ∧ Below w.heap.size w w' := by
  have LAST := Lib.hid (And.intro (@andC_end p q 0 (by omega)) (And.intro (@andC_end p q 1 (by omega)) (And.intro (@andC_end p q 2 (by omega)) (@andC_end p q 3 (by omega)))))
  have FIRST := Lib.hid (andC_start p q)
  have H := Lib.hid (fun (n : Nat) (h : n < 256) w => (show Calls Tryd.prog 12 #[.agg #[.int .u64 (wd q 0), .int .u64 (wd q 1), .int .u64 (wd q 2), .int .u64 (wd q 3)], .int .i64 n] w fun e w' => e = .returned (.bool (q n)) ∧ Below w.heap.size w w' by have := rhas_any q n w; rw [hasP_nat h] at this; exact this))
  have WO := Lib.hid (fun (n : Nat) w => rwithout_any (andC p q n) n w)
  have KEEP := Lib.hid (fun (n : Nat) => @andC_keep p q n)
  have DROP := Lib.hid (fun (n : Nat) => @andC_drop p q n)
  generalize hr : wd (andP p q) = r at LAST ⊢
  clear hr
  generalize wd q = b at H ⊢
  generalize hp : wd p = a at FIRST ⊢
  clear hp
  generalize hc : (fun n => wd (andC p q n)) = c
  have hc' : ∀ n, wd (andC p q n) = c n := fun n => congrFun hc n
  clear hc
  simp only [hc'] at LAST FIRST WO KEEP DROP
  clear hc'
  go_enter Tryd.func25, Tryd.ntmps25
  go_wp2
  go_loopw [5] (fun i wr => ∃ k : Nat, k ≤ 256 ∧ i = .int .i64 k ∧ Hid (Loop3 w wr (c k) b)) (fun i _ => (256 - intOf i).toNat)
  case atStart =>
    refine ⟨0, by omega, rfl, ⟨?_, ?_, ?_, ?_⟩⟩
    · rw [FIRST.out, FIRST.out, FIRST.out, FIRST.out]; exact ((Four.new w _ _ _ _ _).alloc _).alloc _
    · simpa using (Four.new (w.alloc _) (b 0) (b 1) (b 2) (b 3) _).alloc _
    · simpa using Four.new ((w.alloc _).alloc _) 0 0 0 0 _
    · exact (((Below.refl _ _).alloc (Nat.le_refl _) _).alloc (by simp) _).alloc (by simp; omega) _
  case round =>
    obtain ⟨k, hk, rfl, HL⟩ := hrel
    have FX := Lib.hid HL.out.x
    have FY := Lib.hid HL.out.y
    have FZ := Lib.hid HL.out.z
    have HB := Lib.hid HL.out.below
    obtain ⟨y0, y1, y2, y3, _, _, _, _⟩ := FY.out
    clear FIRST HL
    by_cases hlt : k < 256
    · have C := Lib.hid (H.out k hlt)
      have D := Lib.hid (WO.out k)
      have KP := Lib.hid (KEEP.out k)
      have DR := Lib.hid (DROP.out k)
      clear H WO KEEP DROP LAST
      cases hq : q k with
      | true =>
        rw [hq] at C
        have e := Lib.hid (KP.out hq)
        clear hq KP DR D
        go_wp2_with (go_at_call 12; (refine (C.out _).mono ?_); rintro e w1 ⟨rfl, hw1⟩; have FX1 := Lib.hid (Four.next hw1 FX.out); have FY1 := Lib.hid (Four.next hw1 FY.out); have FZ1 := Lib.hid (Four.next hw1 FZ.out); have HB1 := Lib.hid (below_next hw1 HB.out (Nat.le_refl _)); clear hw1)
        go_roundw
        case rel => exact ⟨k + 1, by omega, by go_num, ⟨by rw [← e.out, ← e.out, ← e.out, ← e.out]; exact FX1.out, FY1.out, FZ1.out, HB1.out⟩⟩
        case measure => simp [intOf]; omega
      | false =>
        rw [hq] at C
        have e := Lib.hid (DR.out hq)
        clear hq KP DR
        generalize wd (minusP (andC p q k) (oneP k)) = v at D e
        go_wp2_with (first | (go_at_call 12; (refine (C.out _).mono ?_); rintro e w1 ⟨rfl, hw1⟩; have FX1 := Lib.hid (Four.next hw1 FX.out); have FY1 := Lib.hid (Four.next hw1 FY.out); have FZ1 := Lib.hid (Four.next hw1 FZ.out); have HB1 := Lib.hid (below_next hw1 HB.out (Nat.le_refl _)); obtain ⟨x0, x1, x2, x3, _, _, _, _⟩ := FX1.out; clear hw1) | (go_at_call 16; (refine (D.out _).mono ?_); rintro e w2 ⟨rfl, hw2⟩; have FX2 := Lib.hid (Four.next hw2 FX1.out); have FY2 := Lib.hid (Four.next hw2 FY1.out); have FZ2 := Lib.hid (Four.next hw2 FZ1.out); have HB2 := Lib.hid (below_next hw2 HB1.out (Nat.le_refl _)); obtain ⟨s0, s1, s2, s3, t0, t1, t2, t3⟩ := FX2.out; clear hw2))
        go_roundw
        case rel =>
          refine ⟨k + 1, by omega, by go_num, ⟨?_, FY2.out.far4 (by simp) (v 0) (v 1) (v 2) (v 3), FZ2.out.far4 (by omega) (v 0) (v 1) (v 2) (v 3), below_set4 HB2.out (by simp) (v 0) (v 1) (v 2) (v 3)⟩⟩
          rw [← e.out, ← e.out, ← e.out, ← e.out]
          exact FX2.out.set4 (v 0) (v 1) (v 2) (v 3)
        case measure => simp [intOf]; omega
    · obtain rfl : k = 256 := by omega
      obtain ⟨x0, x1, x2, x3, _, _, _, _⟩ := FX.out
      obtain ⟨z0, z1, z2, z3, v0, v1, v2, v3⟩ := FZ.out
      rw [LAST.out.1] at x0
      rw [LAST.out.2.1] at x1
      rw [LAST.out.2.2.1] at x2
      rw [LAST.out.2.2.2] at x3
      go_wp2
      refine bodyPost_ret (v := .agg #[.int .u64 (r 0), .int .u64 (r 1), .int .u64 (r 2), .int .u64 (r 3)]) ?_ rfl ⟨rfl, below_set4 HB.out (by omega) (r 0) (r 1) (r 2) (r 3)⟩
      obtain ⟨s0, s1, s2, s3⟩ := set4_results FZ.out (r 0) (r 1) (r 2) (r 3)
      simp [results, Tryd.results25, go_sem, s0, s1, s2, s3]
set_option maxRecDepth 100000 in
set_option maxHeartbeats 2000000 in
theorem rminus_any (p q : Nat → Bool) (w : World) :
    Calls Tryd.prog 27 #[.agg #[.int .u64 (wd p 0), .int .u64 (wd p 1), .int .u64 (wd p 2), .int .u64 (wd p 3)], .agg #[.int .u64 (wd q 0), .int .u64 (wd q 1), .int .u64 (wd q 2), .int .u64 (wd q 3)]] w fun e w' => e = .returned (.agg #[.int .u64 (wd (minusP p q) 0), .int .u64 (wd (minusP p q) 1), .int .u64 (wd (minusP p q) 2), .int .u64 (wd (minusP p q) 3)]) ∧ Below w.heap.size w w' := by
  have LAST := Lib.hid (And.intro (@minusC_end p q 0 (by omega)) (And.intro (@minusC_end p q 1 (by omega)) (And.intro (@minusC_end p q 2 (by omega)) (@minusC_end p q 3 (by omega)))))
  have FIRST := Lib.hid (minusC_start p q)
  have H := Lib.hid (fun (n : Nat) (h : n < 256) w => (show Calls Tryd.prog 12 #[.agg #[.int .u64 (wd q 0), .int .u64 (wd q 1), .int .u64 (wd q 2), .int .u64 (wd q 3)], .int .i64 n] w fun e w' => e = .returned (.bool (q n)) ∧ Below w.heap.size w w' by have := rhas_any q n w; rw [hasP_nat h] at this; exact this))
  have WO := Lib.hid (fun (n : Nat) w => rwithout_any (minusC p q n) n w)
  have KEEP := Lib.hid (fun (n : Nat) => @minusC_keep p q n)
  have DROP := Lib.hid (fun (n : Nat) => @minusC_drop p q n)
  generalize hr : wd (minusP p q) = r at LAST ⊢
  clear hr
  generalize wd q = b at H ⊢
  generalize hp : wd p = a at FIRST ⊢
  clear hp
  generalize hc : (fun n => wd (minusC p q n)) = c
  have hc' : ∀ n, wd (minusC p q n) = c n := fun n => congrFun hc n
  clear hc
  simp only [hc'] at LAST FIRST WO KEEP DROP
  clear hc'
  go_enter Tryd.func27, Tryd.ntmps27
  go_wp2
  go_loopw [5] (fun i wr => ∃ k : Nat, k ≤ 256 ∧ i = .int .i64 k ∧ Hid (Loop3 w wr (c k) b)) (fun i _ => (256 - intOf i).toNat)
  case atStart =>
    refine ⟨0, by omega, rfl, ⟨?_, ?_, ?_, ?_⟩⟩
    · rw [FIRST.out, FIRST.out, FIRST.out, FIRST.out]; exact ((Four.new w _ _ _ _ _).alloc _).alloc _
    · simpa using (Four.new (w.alloc _) (b 0) (b 1) (b 2) (b 3) _).alloc _
    · simpa using Four.new ((w.alloc _).alloc _) 0 0 0 0 _
    · exact (((Below.refl _ _).alloc (Nat.le_refl _) _).alloc (by simp) _).alloc (by simp; omega) _
  case round =>
    obtain ⟨k, hk, rfl, HL⟩ := hrel
    have FX := Lib.hid HL.out.x
    have FY := Lib.hid HL.out.y
    have FZ := Lib.hid HL.out.z
    have HB := Lib.hid HL.out.below
    obtain ⟨y0, y1, y2, y3, _, _, _, _⟩ := FY.out
    clear FIRST HL
    by_cases hlt : k < 256
    · have C := Lib.hid (H.out k hlt)
      have D := Lib.hid (WO.out k)
      have KP := Lib.hid (KEEP.out k)
      have DR := Lib.hid (DROP.out k)
      clear H WO KEEP DROP LAST
      cases hq : q k with
      | false =>
        rw [hq] at C
        have e := Lib.hid (KP.out hq)
        clear hq KP DR D
        go_wp2_with (go_at_call 12; (refine (C.out _).mono ?_); rintro e w1 ⟨rfl, hw1⟩; have FX1 := Lib.hid (Four.next hw1 FX.out); have FY1 := Lib.hid (Four.next hw1 FY.out); have FZ1 := Lib.hid (Four.next hw1 FZ.out); have HB1 := Lib.hid (below_next hw1 HB.out (Nat.le_refl _)); clear hw1)
        go_roundw
        case rel => exact ⟨k + 1, by omega, by go_num, ⟨by rw [← e.out, ← e.out, ← e.out, ← e.out]; exact FX1.out, FY1.out, FZ1.out, HB1.out⟩⟩
        case measure => simp [intOf]; omega
      | true =>
        rw [hq] at C
        have e := Lib.hid (DR.out hq)
        clear hq KP DR
        generalize wd (minusP (minusC p q k) (oneP k)) = v at D e
        go_wp2_with (first | (go_at_call 12; (refine (C.out _).mono ?_); rintro e w1 ⟨rfl, hw1⟩; have FX1 := Lib.hid (Four.next hw1 FX.out); have FY1 := Lib.hid (Four.next hw1 FY.out); have FZ1 := Lib.hid (Four.next hw1 FZ.out); have HB1 := Lib.hid (below_next hw1 HB.out (Nat.le_refl _)); obtain ⟨x0, x1, x2, x3, _, _, _, _⟩ := FX1.out; clear hw1) | (go_at_call 16; (refine (D.out _).mono ?_); rintro e w2 ⟨rfl, hw2⟩; have FX2 := Lib.hid (Four.next hw2 FX1.out); have FY2 := Lib.hid (Four.next hw2 FY1.out); have FZ2 := Lib.hid (Four.next hw2 FZ1.out); have HB2 := Lib.hid (below_next hw2 HB1.out (Nat.le_refl _)); obtain ⟨s0, s1, s2, s3, t0, t1, t2, t3⟩ := FX2.out; clear hw2))
        go_roundw
        case rel =>
          refine ⟨k + 1, by omega, by go_num, ⟨?_, FY2.out.far4 (by simp) (v 0) (v 1) (v 2) (v 3), FZ2.out.far4 (by omega) (v 0) (v 1) (v 2) (v 3), below_set4 HB2.out (by simp) (v 0) (v 1) (v 2) (v 3)⟩⟩
          rw [← e.out, ← e.out, ← e.out, ← e.out]
          exact FX2.out.set4 (v 0) (v 1) (v 2) (v 3)
        case measure => simp [intOf]; omega
    · obtain rfl : k = 256 := by omega
      obtain ⟨x0, x1, x2, x3, _, _, _, _⟩ := FX.out
      obtain ⟨z0, z1, z2, z3, v0, v1, v2, v3⟩ := FZ.out
      rw [LAST.out.1] at x0
      rw [LAST.out.2.1] at x1
      rw [LAST.out.2.2.1] at x2
      rw [LAST.out.2.2.2] at x3
      go_wp2
      refine bodyPost_ret (v := .agg #[.int .u64 (r 0), .int .u64 (r 1), .int .u64 (r 2), .int .u64 (r 3)]) ?_ rfl ⟨rfl, below_set4 HB.out (by omega) (r 0) (r 1) (r 2) (r 3)⟩
      obtain ⟨s0, s1, s2, s3⟩ := set4_results FZ.out (r 0) (r 1) (r 2) (r 3)
      simp [results, Tryd.results27, go_sem, s0, s1, s2, s3]

end Go.Proofs.YtigafpmhgogpmaaDoor
