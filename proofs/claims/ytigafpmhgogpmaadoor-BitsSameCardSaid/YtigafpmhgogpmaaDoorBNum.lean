/-
  Sets of numbers below 256 as four words of 64 bits: plain numbers, no program in this text.
-/
import Derived.WalkKit
import Derived.Laws.Bits64b
import Derived.Laws.BitsAllLaws
import Derived.Lib.TrailingZeros
namespace Go.Proofs.YtigafpmhgogpmaaDoor
open Go.RowKit

/-- The number whose n lowest bits are p's. -/
def natOf (p : Nat → Bool) : Nat → Nat
  | 0 => 0
  | n + 1 => natOf p n + if p n then 2 ^ n else 0

theorem natOf_lt (p : Nat → Bool) : ∀ n, natOf p n < 2 ^ n
  | 0 => by simp [natOf]
  | n + 1 => by have := natOf_lt p n; simp only [natOf, Nat.pow_succ]; split <;> omega

theorem natOf_bit (p : Nat → Bool) (j : Nat) : ∀ n, (natOf p n).testBit j = (decide (j < n) && p j)
  | 0 => by simp [natOf]
  | n + 1 => by
    have ih := natOf_bit p j n
    have hl := natOf_lt p n
    simp only [natOf]
    by_cases hp : p n = true
    · rw [if_pos hp, Nat.add_comm]
      rcases Nat.lt_trichotomy j n with h | h | h
      · rw [Nat.testBit_two_pow_add_gt h, ih]; simp [h, show j < n + 1 by omega]
      · subst h
        rw [Nat.testBit_two_pow_add_eq, ih]; simp [hp]
      · rw [Nat.testBit_lt_two_pow (i := j) (by
          have : 2 ^ (n + 1) ≤ 2 ^ j := Nat.pow_le_pow_right (by omega) h
          rw [Nat.pow_succ] at this; omega)]
        simp [show ¬ j < n + 1 by omega]
    · rw [if_neg hp, Nat.add_zero, ih]
      by_cases h : j = n
      · subst h; simp [hp]
      · simp [show (j < n + 1) = (j < n) by apply propext; omega]

theorem natOf_congr {p q : Nat → Bool} : ∀ {n}, (∀ j, j < n → p j = q j) → natOf p n = natOf q n
  | 0, _ => rfl
  | n + 1, h => by simp only [natOf]; rw [natOf_congr (fun j hj => h j (by omega)), h n (by omega)]

theorem natOf_self {x n : Nat} (h : x < 2 ^ n) : natOf x.testBit n = x := by
  apply Nat.eq_of_testBit_eq
  intro j
  rw [natOf_bit]
  by_cases hj : j < n
  · simp [hj]
  · have : 2 ^ n ≤ 2 ^ j := Nat.pow_le_pow_right (by omega) (by omega)
    simp [hj, Nat.testBit_lt_two_pow (x := x) (i := j) (by omega)]

/-- Word k of the set p. -/
def wd (p : Nat → Bool) (k : Nat) : Nat := natOf (fun j => p (64 * k + j)) 64

theorem wd_lt (p : Nat → Bool) (k : Nat) : wd p k < 18446744073709551616 := natOf_lt _ 64
theorem wd_lt' (p : Nat → Bool) (k : Nat) : wd p k < 2 ^ 64 := natOf_lt _ 64
theorem wd_bit (p : Nat → Bool) (k : Nat) {j : Nat} (h : j < 64) : (wd p k).testBit j = p (64 * k + j) := by
  unfold wd; rw [natOf_bit]; simp [h]
theorem wd_congr {p q : Nat → Bool} (h : ∀ i, i < 256 → p i = q i) {k : Nat} (hk : k < 4) : wd p k = wd q k :=
  natOf_congr fun j hj => h _ (by omega)

/-- The set that four words make. -/
def setOf (x0 x1 x2 x3 : Nat) (i : Nat) : Bool := if i < 64 then x0.testBit i else if i < 128 then x1.testBit (i - 64) else if i < 192 then x2.testBit (i - 128) else x3.testBit (i - 192)
theorem wd_setOf (x0 x1 x2 x3 : Nat) (h0 : x0 < 18446744073709551616) (h1 : x1 < 18446744073709551616) (h2 : x2 < 18446744073709551616) (h3 : x3 < 18446744073709551616) :
    wd (setOf x0 x1 x2 x3) 0 = x0 ∧ wd (setOf x0 x1 x2 x3) 1 = x1 ∧ wd (setOf x0 x1 x2 x3) 2 = x2 ∧ wd (setOf x0 x1 x2 x3) 3 = x3 := by
  refine ⟨?_, ?_, ?_, ?_⟩ <;> unfold wd
  · refine Eq.trans (natOf_congr fun j hj => ?_) (natOf_self (n := 64) h0)
    unfold setOf; rw [if_pos (by omega)]; simp
  · refine Eq.trans (natOf_congr fun j hj => ?_) (natOf_self (n := 64) h1)
    unfold setOf; rw [if_neg (by omega), if_pos (by omega)]; rw [show 64 * 1 + j - 64 = j by omega]
  · refine Eq.trans (natOf_congr fun j hj => ?_) (natOf_self (n := 64) h2)
    unfold setOf; rw [if_neg (by omega), if_neg (by omega), if_pos (by omega)]; rw [show 64 * 2 + j - 128 = j by omega]
  · refine Eq.trans (natOf_congr fun j hj => ?_) (natOf_self (n := 64) h3)
    unfold setOf; rw [if_neg (by omega), if_neg (by omega), if_neg (by omega)]; rw [show 64 * 3 + j - 192 = j by omega]

def orP (p q : Nat → Bool) (i : Nat) : Bool := p i || q i
def andP (p q : Nat → Bool) (i : Nat) : Bool := p i && q i
def minusP (p q : Nat → Bool) (i : Nat) : Bool := p i && !q i
def oneP (v : Int) (i : Nat) : Bool := decide ((i : Int) = v)
def noneP (_ : Nat) : Bool := false
def hasP (p : Nat → Bool) (v : Int) : Bool := decide (0 ≤ v ∧ v ≤ 255) && p v.toNat

theorem two64 : (18446744073709551616 : Nat) = 2 ^ 64 := by decide

theorem wd_ext {x : Nat} {p : Nat → Bool} {k : Nat} (hx : x < 18446744073709551616) (h : ∀ j, j < 64 → x.testBit j = p (64 * k + j)) : x = wd p k := by
  rw [← natOf_self (n := 64) hx]
  exact natOf_congr fun j hj => h j hj

theorem wd_or (p q : Nat → Bool) (k : Nat) : wd p k ||| wd q k = wd (orP p q) k :=
  wd_ext (Nat.or_lt_two_pow (n := 64) (wd_lt' p k) (wd_lt' q k)) fun j hj => by rw [Nat.testBit_or, wd_bit p k hj, wd_bit q k hj]; rfl
theorem wd_and (p q : Nat → Bool) (k : Nat) : wd p k &&& wd q k = wd (andP p q) k :=
  wd_ext (Nat.lt_of_le_of_lt Nat.and_le_left (wd_lt p k)) fun j hj => by rw [Nat.testBit_and, wd_bit p k hj, wd_bit q k hj]; rfl
theorem wd_minus (p q : Nat → Bool) (k : Nat) : wd p k &&& (18446744073709551615 - wd q k) = wd (minusP p q) k :=
  wd_ext (Nat.lt_of_le_of_lt Nat.and_le_left (wd_lt p k)) fun j hj => by
    have hq := wd_lt q k
    have e : 18446744073709551615 - wd q k = 2 ^ 64 - (wd q k + 1) := by rw [show (2 : Nat) ^ 64 = 18446744073709551616 by decide]; omega
    rw [Nat.testBit_and, wd_bit p k hj, e, Nat.testBit_two_pow_sub_succ (wd_lt' q k), wd_bit q k hj]
    simp [hj, minusP]

theorem wd_none (k : Nat) : wd noneP k = 0 := (wd_ext (p := noneP) (k := k) (by omega) (fun j _ => by simp [noneP])).symm

/-- One number alone. -/
theorem wd_one_at {k j : Nat} (hj : j < 64) : wd (oneP ((64 * k + j : Nat) : Int)) k = 2 ^ j :=
  (wd_ext (Nat.pow_lt_pow_right (a := 2) (by omega) hj) fun i hi => by
    rw [Nat.testBit_two_pow]; unfold oneP
    by_cases h : j = i
    · subst h; simp
    · rw [decide_eq_false h, eq_comm, decide_eq_false_iff_not]; omega).symm
theorem wd_one_far {v : Int} {k : Nat} (h : ∀ j : Nat, j < 64 → ((64 * k + j : Nat) : Int) ≠ v) : wd (oneP v) k = 0 :=
  (wd_ext (by omega) fun j hj => by unfold oneP; rw [decide_eq_false (h j hj)]; simp).symm

theorem natOf_put (p : Nat → Bool) (j : Nat) : ∀ n, natOf (fun i => p i || decide (i = j)) n = natOf p n + if j < n ∧ p j = false then 2 ^ j else 0
  | 0 => by simp [natOf]
  | n + 1 => by
    simp only [natOf]; rw [natOf_put p j n]
    by_cases h : n = j
    · subst h
      by_cases hp : p n = true
      · simp [hp]
      · simp [hp]
    · by_cases hl : j < n
      · have hl' : j < n + 1 := by omega
        simp only [hl, hl', true_and, decide_eq_false h, Bool.or_false]; omega
      · have hl' : ¬ j < n + 1 := by omega
        simp only [hl, hl', false_and, if_false, decide_eq_false h, Bool.or_false]; omega
theorem natOf_del (p : Nat → Bool) (j : Nat) : ∀ n, natOf (fun i => p i && !decide (i = j)) n + (if j < n ∧ p j = true then 2 ^ j else 0) = natOf p n
  | 0 => by simp [natOf]
  | n + 1 => by
    simp only [natOf]
    have ih := natOf_del p j n
    by_cases h : n = j
    · subst h
      by_cases hp : p n = true
      · simp [hp] at ih ⊢; omega
      · simp [hp] at ih ⊢; omega
    · by_cases hl : j < n
      · have hl' : j < n + 1 := by omega
        simp only [hl, hl', true_and, decide_eq_false h, Bool.not_false, Bool.and_true] at ih ⊢; omega
      · have hl' : ¬ j < n + 1 := by omega
        simp only [hl, hl', false_and, if_false, decide_eq_false h, Bool.not_false, Bool.and_true] at ih ⊢; omega

theorem wd_put {p : Nat → Bool} {k j : Nat} (hj : j < 64) (hp : p (64 * k + j) = false) : wd p k + 2 ^ j = wd (orP p (oneP ((64 * k + j : Nat) : Int))) k := by
  have h := natOf_put (fun i => p (64 * k + i)) j 64
  rw [if_pos ⟨hj, hp⟩] at h
  unfold wd; rw [← h]
  exact natOf_congr fun i _ => by
    unfold orP oneP
    rw [show decide (((64 * k + i : Nat) : Int) = ((64 * k + j : Nat) : Int)) = decide (i = j) from decide_eq_decide.2 (by omega)]
theorem wd_del {p : Nat → Bool} {k j : Nat} (hj : j < 64) (hp : p (64 * k + j) = true) : wd p k = wd (minusP p (oneP ((64 * k + j : Nat) : Int))) k + 2 ^ j := by
  have h := natOf_del (fun i => p (64 * k + i)) j 64
  rw [if_pos ⟨hj, hp⟩] at h
  unfold wd; rw [← h]
  congr 1
  exact natOf_congr fun i _ => by
    unfold minusP oneP
    rw [show decide (((64 * k + i : Nat) : Int) = ((64 * k + j : Nat) : Int)) = decide (i = j) from decide_eq_decide.2 (by omega)]

theorem wd_or_far {p : Nat → Bool} {v : Int} {k : Nat} (h : ∀ j : Nat, j < 64 → ((64 * k + j : Nat) : Int) ≠ v) : wd (orP p (oneP v)) k = wd p k :=
  natOf_congr fun j hj => by unfold orP oneP; rw [decide_eq_false (h j hj), Bool.or_false]
theorem wd_minus_far {p : Nat → Bool} {v : Int} {k : Nat} (h : ∀ j : Nat, j < 64 → ((64 * k + j : Nat) : Int) ≠ v) : wd (minusP p (oneP v)) k = wd p k :=
  natOf_congr fun j hj => by unfold minusP oneP; rw [decide_eq_false (h j hj), Bool.not_false, Bool.and_true]

theorem wd_ne {p q : Nat → Bool} {k j : Nat} (hj : j < 64) (h : p (64 * k + j) ≠ q (64 * k + j)) : wd p k ≠ wd q k := fun e => h (by rw [← wd_bit p k hj, ← wd_bit q k hj, e])

/-- One bit, read by shifting and masking. -/
theorem bit_read (x j : Nat) : x / 2 ^ j % 2 = if x.testBit j then 1 else 0 := by
  rw [Nat.testBit_eq_decide_div_mod_eq]
  have : x / 2 ^ j % 2 < 2 := Nat.mod_lt _ (by omega)
  by_cases h : x / 2 ^ j % 2 = 1 <;> simp [h]
  omega

end Go.Proofs.YtigafpmhgogpmaaDoor
