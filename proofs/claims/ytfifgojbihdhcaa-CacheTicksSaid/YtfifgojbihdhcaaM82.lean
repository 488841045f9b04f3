/- Texts of this claim, put together: BNum, BPop, BMem, BWalk1, BWalk2, BWalk3, BEq, BWalk4, BWalk5, BRef1, BRef2, BRef3, BRef4, BList. -/
import Derived.Test.YtfifgojbihdhcaaChecked
import Derived.Test.YtfifgojbihdhcaaM81
import Derived.WalkKit
import Derived.Laws.Bits64b
import Derived.Laws.BitsAllLaws
import Derived.WalkSpells
import Derived.WalkLawsBesides
import Derived.Laws.Externs
import Derived.Lib.Hide
import Derived.Below
import Derived.Deep.QuietTactic
import Derived.BigQuiet
import Derived.Laws.Bits128
import Derived.Deep.RegionHeld3
import Derived.Lib.TrailingZeros
set_option linter.unusedVariables false
set_option linter.unusedSimpArgs false

/-
  Sets of numbers below 256 as four words of 64 bits: plain numbers, no program in this text.
-/
namespace Go.Proofs.Ytfifgojbihdhcaa
open Go.RowKit

/-- The number whose n lowest bits are p's. -/
def natOf (p : Nat → Bool) : Nat → Nat
  | 0 => 0
  | n + 1 => natOf p n + if p n then 2 ^ n else 0

theorem natOf_lt (p : Nat → Bool) : ∀ n, natOf p n < 2 ^ n
  | 0 => by simp [natOf]
  | n + 1 => by have := natOf_lt p n; simp only [natOf, Nat.pow_succ]; split <;> omega

theorem natOf_bit (p : Nat → Bool) (j : Nat) : ∀ n, (natOf p n).testBit j = (decide (j < n) && p j)
  | 0 => by simp [natOf]
  | n + 1 => by
    have ih := natOf_bit p j n
    have hl := natOf_lt p n
    simp only [natOf]
    by_cases hp : p n = true
    · rw [if_pos hp, Nat.add_comm]
      rcases Nat.lt_trichotomy j n with h | h | h
      · rw [Nat.testBit_two_pow_add_gt h, ih]; simp [h, show j < n + 1 by omega]
      · subst h
        rw [Nat.testBit_two_pow_add_eq, ih]; simp [hp]
      · rw [Nat.testBit_lt_two_pow (i := j) (by
          have : 2 ^ (n + 1) ≤ 2 ^ j := Nat.pow_le_pow_right (by omega) h
          rw [Nat.pow_succ] at this; omega)]
        simp [show ¬ j < n + 1 by omega]
    · rw [if_neg hp, Nat.add_zero, ih]
      by_cases h : j = n
      · subst h; simp [hp]
      · simp [show (j < n + 1) = (j < n) by apply propext; omega]

theorem natOf_congr {p q : Nat → Bool} : ∀ {n}, (∀ j, j < n → p j = q j) → natOf p n = natOf q n
  | 0, _ => rfl
  | n + 1, h => by simp only [natOf]; rw [natOf_congr (fun j hj => h j (by omega)), h n (by omega)]

theorem natOf_self {x n : Nat} (h : x < 2 ^ n) : natOf x.testBit n = x := by
  apply Nat.eq_of_testBit_eq
  intro j
  rw [natOf_bit]
  by_cases hj : j < n
  · simp [hj]
  · have : 2 ^ n ≤ 2 ^ j := Nat.pow_le_pow_right (by omega) (by omega)
    simp [hj, Nat.testBit_lt_two_pow (x := x) (i := j) (by omega)]

/-- Word k of the set p. -/
def wd (p : Nat → Bool) (k : Nat) : Nat := natOf (fun j => p (64 * k + j)) 64

theorem wd_lt (p : Nat → Bool) (k : Nat) : wd p k < 18446744073709551616 := natOf_lt _ 64
theorem wd_lt' (p : Nat → Bool) (k : Nat) : wd p k < 2 ^ 64 := natOf_lt _ 64
theorem wd_bit (p : Nat → Bool) (k : Nat) {j : Nat} (h : j < 64) : (wd p k).testBit j = p (64 * k + j) := by
  unfold wd; rw [natOf_bit]; simp [h]
theorem wd_congr {p q : Nat → Bool} (h : ∀ i, i < 256 → p i = q i) {k : Nat} (hk : k < 4) : wd p k = wd q k :=
  natOf_congr fun j hj => h _ (by omega)

/-- The set that four words make. -/
def setOf (x0 x1 x2 x3 : Nat) (i : Nat) : Bool := if i < 64 then x0.testBit i else if i < 128 then x1.testBit (i - 64) else if i < 192 then x2.testBit (i - 128) else x3.testBit (i - 192)
theorem wd_setOf (x0 x1 x2 x3 : Nat) (h0 : x0 < 18446744073709551616) (h1 : x1 < 18446744073709551616) (h2 : x2 < 18446744073709551616) (h3 : x3 < 18446744073709551616) :
    wd (setOf x0 x1 x2 x3) 0 = x0 ∧ wd (setOf x0 x1 x2 x3) 1 = x1 ∧ wd (setOf x0 x1 x2 x3) 2 = x2 ∧ wd (setOf x0 x1 x2 x3) 3 = x3 := by
  refine ⟨?_, ?_, ?_, ?_⟩ <;> unfold wd
  · refine Eq.trans (natOf_congr fun j hj => ?_) (natOf_self (n := 64) h0)
    unfold setOf; rw [if_pos (by omega)]; simp
  · refine Eq.trans (natOf_congr fun j hj => ?_) (natOf_self (n := 64) h1)
    unfold setOf; rw [if_neg (by omega), if_pos (by omega)]; rw [show 64 * 1 + j - 64 = j by omega]
  · refine Eq.trans (natOf_congr fun j hj => ?_) (natOf_self (n := 64) h2)
    unfold setOf; rw [if_neg (by omega), if_neg (by omega), if_pos (by omega)]; rw [show 64 * 2 + j - 128 = j by omega]
  · refine Eq.trans (natOf_congr fun j hj => ?_) (natOf_self (n := 64) h3)
    unfold setOf; rw [if_neg (by omega), if_neg (by omega), if_neg (by omega)]; rw [show 64 * 3 + j - 192 = j by omega]

def orP (p q : Nat → Bool) (i : Nat) : Bool := p i || q i
def andP (p q : Nat → Bool) (i : Nat) : Bool := p i && q i
def minusP (p q : Nat → Bool) (i : Nat) : Bool := p i && !q i
def oneP (v : Int) (i : Nat) : Bool := decide ((i : Int) = v)
def noneP (_ : Nat) : Bool := false
def hasP (p : Nat → Bool) (v : Int) : Bool := decide (0 ≤ v ∧ v ≤ 255) && p v.toNat

theorem two64 : (18446744073709551616 : Nat) = 2 ^ 64 := by decide

theorem wd_ext {x : Nat} {p : Nat → Bool} {k : Nat} (hx : x < 18446744073709551616) (h : ∀ j, j < 64 → x.testBit j = p (64 * k + j)) : x = wd p k := by
  rw [← natOf_self (n := 64) hx]
  exact natOf_congr fun j hj => h j hj

theorem wd_or (p q : Nat → Bool) (k : Nat) : wd p k ||| wd q k = wd (orP p q) k :=
  wd_ext (Nat.or_lt_two_pow (n := 64) (wd_lt' p k) (wd_lt' q k)) fun j hj => by rw [Nat.testBit_or, wd_bit p k hj, wd_bit q k hj]; rfl
theorem wd_and (p q : Nat → Bool) (k : Nat) : wd p k &&& wd q k = wd (andP p q) k :=
  wd_ext (Nat.lt_of_le_of_lt Nat.and_le_left (wd_lt p k)) fun j hj => by rw [Nat.testBit_and, wd_bit p k hj, wd_bit q k hj]; rfl
theorem wd_minus (p q : Nat → Bool) (k : Nat) : wd p k &&& (18446744073709551615 - wd q k) = wd (minusP p q) k :=
  wd_ext (Nat.lt_of_le_of_lt Nat.and_le_left (wd_lt p k)) fun j hj => by
    have hq := wd_lt q k
    have e : 18446744073709551615 - wd q k = 2 ^ 64 - (wd q k + 1) := by rw [show (2 : Nat) ^ 64 = 18446744073709551616 by decide]; omega
    rw [Nat.testBit_and, wd_bit p k hj, e, Nat.testBit_two_pow_sub_succ (wd_lt' q k), wd_bit q k hj]
    simp [hj, minusP]

theorem wd_none (k : Nat) : wd noneP k = 0 := (wd_ext (p := noneP) (k := k) (by omega) (fun j _ => by simp [noneP])).symm

/-- One number alone. -/
theorem wd_one_at {k j : Nat} (hj : j < 64) : wd (oneP ((64 * k + j : Nat) : Int)) k = 2 ^ j :=
  (wd_ext (Nat.pow_lt_pow_right (a := 2) (by omega) hj) fun i hi => by
    rw [Nat.testBit_two_pow]; unfold oneP
    by_cases h : j = i
    · subst h; simp
    · rw [decide_eq_false h, eq_comm, decide_eq_false_iff_not]; omega).symm
theorem wd_one_far {v : Int} {k : Nat} (h : ∀ j : Nat, j < 64 → ((64 * k + j : Nat) : Int) ≠ v) : wd (oneP v) k = 0 :=
  (wd_ext (by omega) fun j hj => by unfold oneP; rw [decide_eq_false (h j hj)]; simp).symm

theorem natOf_put (p : Nat → Bool) (j : Nat) : ∀ n, natOf (fun i => p i || decide (i = j)) n = natOf p n + if j < n ∧ p j = false then 2 ^ j else 0
  | 0 => by simp [natOf]
  | n + 1 => by
    simp only [natOf]; rw [natOf_put p j n]
    by_cases h : n = j
    · subst h
      by_cases hp : p n = true
      · simp [hp]
      · simp [hp]
    · by_cases hl : j < n
      · have hl' : j < n + 1 := by omega
        simp only [hl, hl', true_and, decide_eq_false h, Bool.or_false]; omega
      · have hl' : ¬ j < n + 1 := by omega
        simp only [hl, hl', false_and, if_false, decide_eq_false h, Bool.or_false]; omega
theorem natOf_del (p : Nat → Bool) (j : Nat) : ∀ n, natOf (fun i => p i && !decide (i = j)) n + (if j < n ∧ p j = true then 2 ^ j else 0) = natOf p n
  | 0 => by simp [natOf]
  | n + 1 => by
    simp only [natOf]
    have ih := natOf_del p j n
    by_cases h : n = j
    · subst h
      by_cases hp : p n = true
      · simp [hp] at ih ⊢; omega
      · simp [hp] at ih ⊢; omega
    · by_cases hl : j < n
      · have hl' : j < n + 1 := by omega
        simp only [hl, hl', true_and, decide_eq_false h, Bool.not_false, Bool.and_true] at ih ⊢; omega
      · have hl' : ¬ j < n + 1 := by omega
        simp only [hl, hl', false_and, if_false, decide_eq_false h, Bool.not_false, Bool.and_true] at ih ⊢; omega

theorem wd_put {p : Nat → Bool} {k j : Nat} (hj : j < 64) (hp : p (64 * k + j) = false) : wd p k + 2 ^ j = wd (orP p (oneP ((64 * k + j : Nat) : Int))) k := by
  have h := natOf_put (fun i => p (64 * k + i)) j 64
  rw [if_pos ⟨hj, hp⟩] at h
  unfold wd; rw [← h]
  exact natOf_congr fun i _ => by
    unfold orP oneP
    rw [show decide (((64 * k + i : Nat) : Int) = ((64 * k + j : Nat) : Int)) = decide (i = j) from decide_eq_decide.2 (by omega)]
theorem wd_del {p : Nat → Bool} {k j : Nat} (hj : j < 64) (hp : p (64 * k + j) = true) : wd p k = wd (minusP p (oneP ((64 * k + j : Nat) : Int))) k + 2 ^ j := by
  have h := natOf_del (fun i => p (64 * k + i)) j 64
  rw [if_pos ⟨hj, hp⟩] at h
  unfold wd; rw [← h]
  congr 1
  exact natOf_congr fun i _ => by
    unfold minusP oneP
    rw [show decide (((64 * k + i : Nat) : Int) = ((64 * k + j : Nat) : Int)) = decide (i = j) from decide_eq_decide.2 (by omega)]

theorem wd_or_far {p : Nat → Bool} {v : Int} {k : Nat} (h : ∀ j : Nat, j < 64 → ((64 * k + j : Nat) : Int) ≠ v) : wd (orP p (oneP v)) k = wd p k :=
  natOf_congr fun j hj => by unfold orP oneP; rw [decide_eq_false (h j hj), Bool.or_false]
theorem wd_minus_far {p : Nat → Bool} {v : Int} {k : Nat} (h : ∀ j : Nat, j < 64 → ((64 * k + j : Nat) : Int) ≠ v) : wd (minusP p (oneP v)) k = wd p k :=
  natOf_congr fun j hj => by unfold minusP oneP; rw [decide_eq_false (h j hj), Bool.not_false, Bool.and_true]

theorem wd_ne {p q : Nat → Bool} {k j : Nat} (hj : j < 64) (h : p (64 * k + j) ≠ q (64 * k + j)) : wd p k ≠ wd q k := fun e => h (by rw [← wd_bit p k hj, ← wd_bit q k hj, e])

/-- One bit, read by shifting and masking. -/
theorem bit_read (x j : Nat) : x / 2 ^ j % 2 = if x.testBit j then 1 else 0 := by
  rw [Nat.testBit_eq_decide_div_mod_eq]
  have : x / 2 ^ j % 2 < 2 := Nat.mod_lt _ (by omega)
  by_cases h : x / 2 ^ j % 2 = 1 <;> simp [h]
  omega

end Go.Proofs.Ytfifgojbihdhcaa

/-
  How many bits of a word are 1, as the masks and shifts of the library's text reckon it: plain numbers, no program in this text.
-/
namespace Go.Proofs.Ytfifgojbihdhcaa

/-- How many of p's first n are true. -/
def cntN (p : Nat → Bool) : Nat → Nat
  | 0 => 0
  | n + 1 => cntN p n + if p n then 1 else 0
theorem cntN_le (p : Nat → Bool) : ∀ n, cntN p n ≤ n
  | 0 => Nat.le_refl _
  | n + 1 => by have := cntN_le p n; simp only [cntN]; split <;> omega
theorem cntN_congr {p q : Nat → Bool} : ∀ {n}, (∀ j, j < n → p j = q j) → cntN p n = cntN q n
  | 0, _ => rfl
  | n + 1, h => by simp only [cntN]; rw [cntN_congr (fun j hj => h j (by omega)), h n (by omega)]
theorem cntN_add (p : Nat → Bool) (m : Nat) : ∀ n, cntN p (m + n) = cntN p m + cntN (fun j => p (m + j)) n
  | 0 => rfl
  | n + 1 => by
    have := cntN_add p m n
    rw [← Nat.add_assoc]
    simp only [cntN]; omega

def M (d : Nat) : Nat → Nat
  | 0 => 0
  | n + 1 => 256 * M d n + d
theorem M_succ (d n : Nat) : M d (n + 1) = 256 * M d n + d := rfl
def sA (x n : Nat) : Nat := (x / 2 &&& M 0x55 n) + (x &&& M 0x55 n)
def sB (x n : Nat) : Nat := (x / 4 &&& M 0x33 n) + (x &&& M 0x33 n)
def sC (x n : Nat) : Nat := (x / 16 + x) &&& M 0x0f n
def pops (x : Nat) : Nat → Nat
  | 0 => 0
  | n + 1 => 256 * pops (x / 256) n + cntN x.testBit 8

theorem and_parts (a b c d : Nat) (hb : b < 256) (hd : d < 256) : (256 * a + b) &&& (256 * c + d) = 256 * (a &&& c) + (b &&& d) := by
  have h1 := Nat.and_div_two_pow (a := 256 * a + b) (b := 256 * c + d) (n := 8)
  have h2 := Nat.and_mod_two_pow (a := 256 * a + b) (b := 256 * c + d) (n := 8)
  have e1 : (256 * a + b) / 2 ^ 8 = a := by rw [show (2 : Nat) ^ 8 = 256 by decide]; omega
  have e2 : (256 * c + d) / 2 ^ 8 = c := by rw [show (2 : Nat) ^ 8 = 256 by decide]; omega
  have e3 : (256 * a + b) % 2 ^ 8 = b := by rw [show (2 : Nat) ^ 8 = 256 by decide]; omega
  have e4 : (256 * c + d) % 2 ^ 8 = d := by rw [show (2 : Nat) ^ 8 = 256 by decide]; omega
  rw [e1, e2] at h1
  rw [e3, e4] at h2
  rw [show (2 : Nat) ^ 8 = 256 by decide] at h1 h2
  generalize a &&& c = u at *
  generalize b &&& d = v at *
  generalize (256 * a + b) &&& (256 * c + d) = z at *
  omega

def bA (d : Nat) : Nat := (d / 2 &&& 0x55) + (d &&& 0x55)
def bB (d : Nat) : Nat := (d / 4 &&& 0x33) + (d &&& 0x33)
theorem bA_far : ∀ r, r < 2 → ∀ d, d < 256 → (128 * r + d / 2) &&& 0x55 = (d / 2 &&& 0x55) := by decide +kernel
theorem bB_far : ∀ r, r < 4 → ∀ d, d < 256 → (64 * r + d / 4) &&& 0x33 = (d / 4 &&& 0x33) := by decide +kernel
theorem bA_lt : ∀ d, d < 256 → bA d < 256 := by decide +kernel
theorem bB_lt : ∀ d, d < 256 → bB (bA d) < 256 ∧ bB (bA d) % 16 ≤ 4 := by decide +kernel
theorem bC_all : ∀ d, d < 256 → ∀ r, r < 5 → (16 * r + bB (bA d) / 16 + bB (bA d)) < 256 ∧ (16 * r + bB (bA d) / 16 + bB (bA d)) &&& 0x0f = cntN d.testBit 8 := by decide +kernel

theorem sA_step (y d n : Nat) (hd : d < 256) : sA (256 * y + d) (n + 1) = 256 * sA y n + bA d := by
  have e : (256 * y + d) / 2 = 256 * (y / 2) + (128 * (y % 2) + d / 2) := by omega
  have f := bA_far (y % 2) (by omega) d hd
  unfold sA bA
  rw [M_succ, e, and_parts _ _ _ _ (by omega) (by omega), and_parts _ _ _ _ hd (by omega), f]
  omega
theorem sB_step (y d n : Nat) (hd : d < 256) : sB (256 * y + d) (n + 1) = 256 * sB y n + bB d := by
  have e : (256 * y + d) / 4 = 256 * (y / 4) + (64 * (y % 4) + d / 4) := by omega
  have f := bB_far (y % 4) (by omega) d hd
  unfold sB bB
  rw [M_succ, e, and_parts _ _ _ _ (by omega) (by omega), and_parts _ _ _ _ hd (by omega), f]
  omega
theorem sC_step (y d n : Nat) (h : 16 * (y % 16) + d / 16 + d < 256) : sC (256 * y + d) (n + 1) = 256 * sC y n + ((16 * (y % 16) + d / 16 + d) &&& 0x0f) := by
  have e : (256 * y + d) / 16 + (256 * y + d) = 256 * (y / 16 + y) + (16 * (y % 16) + d / 16 + d) := by omega
  unfold sC
  rw [M_succ, e, and_parts _ _ _ _ h (by omega)]

theorem low_bits (x : Nat) : cntN x.testBit 8 = cntN (x % 256).testBit 8 :=
  cntN_congr fun j hj => by rw [show (256 : Nat) = 2 ^ 8 by decide, Nat.testBit_mod_two_pow]; simp [hj]

theorem steps : ∀ n x, sC (sB (sA x n) n) n = pops x n ∧ sB (sA x n) n % 16 ≤ 4
  | 0, x => by simp [sC, sB, M, pops]
  | n + 1, x => by
    obtain ⟨h1, h2⟩ := steps n (x / 256)
    have hx : x = 256 * (x / 256) + x % 256 := by omega
    have hd : x % 256 < 256 := Nat.mod_lt _ (by omega)
    have a := bA_lt _ hd
    obtain ⟨b1, b2⟩ := bB_lt _ hd
    obtain ⟨c1, c2⟩ := bC_all _ hd _ (show sB (sA (x / 256) n) n % 16 < 5 by omega)
    have eA : sA x (n + 1) = 256 * sA (x / 256) n + bA (x % 256) := by
      rw [← sA_step _ _ _ hd, ← hx]
    rw [eA, sB_step _ _ _ a, sC_step _ _ _ c1, h1, c2]
    refine ⟨?_, by omega⟩
    show _ = 256 * pops (x / 256) n + cntN x.testBit 8
    rw [low_bits x]

theorem high_bits (x n : Nat) : cntN x.testBit (8 + n) = cntN x.testBit 8 + cntN (x / 256).testBit n := by
  rw [cntN_add]
  congr 1
  exact cntN_congr fun j _ => by rw [show (256 : Nat) = 2 ^ 8 by decide, Nat.testBit_div_two_pow, Nat.add_comm]

theorem fold64 (x : Nat) : cntN x.testBit 64 < 128 ∧ ∃ b0 b1 b2 b3 b4 b5 b6 b7 : Nat, pops x 8 = b0 + 256 * (b1 + 256 * (b2 + 256 * (b3 + 256 * (b4 + 256 * (b5 + 256 * (b6 + 256 * b7)))))) ∧ b0 ≤ 8 ∧ b1 ≤ 8 ∧ b2 ≤ 8 ∧ b3 ≤ 8 ∧ b4 ≤ 8 ∧ b5 ≤ 8 ∧ b6 ≤ 8 ∧ b7 ≤ 8 ∧ cntN x.testBit 64 = b0 + b1 + b2 + b3 + b4 + b5 + b6 + b7 := by
  have l := fun y : Nat => cntN_le y.testBit 8
  refine ⟨by have := cntN_le x.testBit 64; omega, _, _, _, _, _, _, _, _, ?_, l x, l (x / 256), l (x / 256 / 256), l (x / 256 / 256 / 256), l (x / 256 / 256 / 256 / 256), l (x / 256 / 256 / 256 / 256 / 256), l (x / 256 / 256 / 256 / 256 / 256 / 256), l (x / 256 / 256 / 256 / 256 / 256 / 256 / 256), ?_⟩
  · simp only [pops]; omega
  · rw [high_bits x 56, high_bits _ 48, high_bits _ 40, high_bits _ 32, high_bits _ 24, high_bits _ 16, high_bits _ 8]; omega

theorem div_part {A B c : Nat} (h : A < c) : (A + c * B) / c = B := by
  rw [Nat.add_mul_div_left _ _ (by omega), Nat.div_eq_of_lt h, Nat.zero_add]

theorem lin1 (b0 b1 b2 b3 b4 b5 b6 b7 : Nat) : (b0 + 256 * (b1 + 256 * (b2 + 256 * (b3 + 256 * (b4 + 256 * (b5 + 256 * (b6 + 256 * b7))))))) + (b1 + 256 * (b2 + 256 * (b3 + 256 * (b4 + 256 * (b5 + 256 * (b6 + 256 * b7)))))) = ((b0 + b1) + 256 * (b1 + b2)) + 65536 * ((b2 + b3) + 256 * (b3 + b4) + 65536 * ((b4 + b5) + 256 * (b5 + b6) + 65536 * ((b6 + b7) + 256 * b7))) := by omega
theorem lin2 (b0 b1 b2 b3 b4 b5 b6 b7 : Nat) : ((b0 + b1) + 256 * (b1 + b2)) + 65536 * ((b2 + b3) + 256 * (b3 + b4) + 65536 * ((b4 + b5) + 256 * (b5 + b6) + 65536 * ((b6 + b7) + 256 * b7))) + ((b2 + b3) + 256 * (b3 + b4) + 65536 * ((b4 + b5) + 256 * (b5 + b6) + 65536 * ((b6 + b7) + 256 * b7))) = ((b0 + b1 + b2 + b3) + 256 * (b1 + b2 + b3 + b4) + 65536 * ((b2 + b3 + b4 + b5) + 256 * (b3 + b4 + b5 + b6))) + 4294967296 * ((b4 + b5 + b6 + b7) + 256 * (b5 + b6 + b7) + 65536 * ((b6 + b7) + 256 * b7)) := by omega
theorem lin3 (b0 b1 b2 b3 b4 b5 b6 b7 : Nat) : ((b0 + b1 + b2 + b3) + 256 * (b1 + b2 + b3 + b4) + 65536 * ((b2 + b3 + b4 + b5) + 256 * (b3 + b4 + b5 + b6))) + 4294967296 * ((b4 + b5 + b6 + b7) + 256 * (b5 + b6 + b7) + 65536 * ((b6 + b7) + 256 * b7)) + ((b4 + b5 + b6 + b7) + 256 * (b5 + b6 + b7) + 65536 * ((b6 + b7) + 256 * b7)) = (b0 + b1 + b2 + b3 + b4 + b5 + b6 + b7) + 128 * (2 * ((b1 + b2 + b3 + b4 + b5 + b6 + b7) + 256 * (b2 + b3 + b4 + b5 + b6 + b7) + 65536 * (b3 + b4 + b5 + b6 + b7) + 16777216 * ((b4 + b5 + b6 + b7) + 256 * (b5 + b6 + b7) + 65536 * ((b6 + b7) + 256 * b7)))) := by omega

/-- The last steps: the eight bytes are added up. -/
theorem sum_bytes (y b0 b1 b2 b3 b4 b5 b6 b7 : Nat) (e : y = b0 + 256 * (b1 + 256 * (b2 + 256 * (b3 + 256 * (b4 + 256 * (b5 + 256 * (b6 + 256 * b7)))))))
    (h0 : b0 ≤ 8) (h1 : b1 ≤ 8) (h2 : b2 ≤ 8) (h3 : b3 ≤ 8) (h4 : b4 ≤ 8) (h5 : b5 ≤ 8) (h6 : b6 ≤ 8) (h7 : b7 ≤ 8) :
    ∃ y1 y2 y3, y1 = y + y / 256 ∧ y2 = y1 + y1 / 65536 ∧ y3 = y2 + y2 / 4294967296 ∧ y < 18446744073709551616 ∧ y1 < 18446744073709551616 ∧ y2 < 18446744073709551616 ∧ y3 < 9223372036854775808 ∧ y3 % 128 = b0 + b1 + b2 + b3 + b4 + b5 + b6 + b7 := by
  have e1 : y / 256 = b1 + 256 * (b2 + 256 * (b3 + 256 * (b4 + 256 * (b5 + 256 * (b6 + 256 * b7))))) := by rw [e]; exact div_part (by omega)
  obtain ⟨y1, hy1⟩ : ∃ y1, y1 = y + y / 256 := ⟨_, rfl⟩
  have f1 : y1 = ((b0 + b1) + 256 * (b1 + b2)) + 65536 * ((b2 + b3) + 256 * (b3 + b4) + 65536 * ((b4 + b5) + 256 * (b5 + b6) + 65536 * ((b6 + b7) + 256 * b7))) := by rw [hy1, e1, e]; exact lin1 ..
  have g1 : y1 / 65536 = (b2 + b3) + 256 * (b3 + b4) + 65536 * ((b4 + b5) + 256 * (b5 + b6) + 65536 * ((b6 + b7) + 256 * b7)) := by rw [f1]; exact div_part (by omega)
  obtain ⟨y2, hy2⟩ : ∃ y2, y2 = y1 + y1 / 65536 := ⟨_, rfl⟩
  have f2 : y2 = ((b0 + b1 + b2 + b3) + 256 * (b1 + b2 + b3 + b4) + 65536 * ((b2 + b3 + b4 + b5) + 256 * (b3 + b4 + b5 + b6))) + 4294967296 * ((b4 + b5 + b6 + b7) + 256 * (b5 + b6 + b7) + 65536 * ((b6 + b7) + 256 * b7)) := by rw [hy2, g1, f1]; exact lin2 ..
  have g2 : y2 / 4294967296 = (b4 + b5 + b6 + b7) + 256 * (b5 + b6 + b7) + 65536 * ((b6 + b7) + 256 * b7) := by rw [f2]; exact div_part (by omega)
  obtain ⟨y3, hy3⟩ : ∃ y3, y3 = y2 + y2 / 4294967296 := ⟨_, rfl⟩
  have f3 : y3 = (b0 + b1 + b2 + b3 + b4 + b5 + b6 + b7) + 128 * (2 * ((b1 + b2 + b3 + b4 + b5 + b6 + b7) + 256 * (b2 + b3 + b4 + b5 + b6 + b7) + 65536 * (b3 + b4 + b5 + b6 + b7) + 16777216 * ((b4 + b5 + b6 + b7) + 256 * (b5 + b6 + b7) + 65536 * ((b6 + b7) + 256 * b7)))) := by rw [hy3, g2, f2]; exact lin3 ..
  have k0 : y < 18446744073709551616 := by rw [e]; clear e e1 hy1 f1 g1 hy2 f2 g2 hy3 f3; omega
  have k1 : y1 < 18446744073709551616 := by rw [f1]; clear e e1 hy1 f1 g1 hy2 f2 g2 hy3 f3; omega
  have k2 : y2 < 18446744073709551616 := by rw [f2]; clear e e1 hy1 f1 g1 hy2 f2 g2 hy3 f3; omega
  have k3 : y3 < 9223372036854775808 := by rw [f3]; clear e e1 hy1 f1 g1 hy2 f2 g2 hy3 f3; omega
  have km : y3 % 128 = b0 + b1 + b2 + b3 + b4 + b5 + b6 + b7 := by rw [f3, Nat.add_mul_mod_self_left, Nat.mod_eq_of_lt (by clear e e1 hy1 f1 g1 hy2 f2 g2 hy3 f3 k0 k1 k2 k3; omega)]
  exact ⟨y1, y2, y3, hy1, hy2, hy3, k0, k1, k2, k3, km⟩

theorem M55 : M 0x55 8 = 6148914691236517205 := by decide +kernel
theorem M33 : M 0x33 8 = 3689348814741910323 := by decide +kernel
theorem M0f : M 0x0f 8 = 1085102592571150095 := by decide +kernel

/-- All the steps, with what they need to be: none of them passes 64 bits. -/
theorem pop_steps (x : Nat) : ∃ a b c d e f : Nat,
    (x / 2 &&& 6148914691236517205) + (x &&& 6148914691236517205) = a ∧ a < 18446744073709551616 ∧
    (a / 4 &&& 3689348814741910323) + (a &&& 3689348814741910323) = b ∧ b < 18446744073709551616 ∧ b / 16 + b < 18446744073709551616 ∧
    (b / 16 + b) &&& 1085102592571150095 = c ∧ c + c / 256 = d ∧ d + d / 65536 = e ∧ e + e / 4294967296 = f ∧
    c < 18446744073709551616 ∧ d < 18446744073709551616 ∧ e < 18446744073709551616 ∧ f < 9223372036854775808 ∧ f % 128 = cntN x.testBit 64 := by
  obtain ⟨h1, _⟩ := steps 8 x
  obtain ⟨_, b0, b1, b2, b3, b4, b5, b6, b7, hp, l0, l1, l2, l3, l4, l5, l6, l7, hs⟩ := fold64 x
  obtain ⟨y1, y2, y3, e1, e2, e3, k0, k1, k2, k3, hm⟩ := sum_bytes _ b0 b1 b2 b3 b4 b5 b6 b7 hp l0 l1 l2 l3 l4 l5 l6 l7
  have q1 : ∀ z : Nat, (z &&& 6148914691236517205) ≤ 6148914691236517205 := fun z => Nat.and_le_right
  have q2 : ∀ z : Nat, (z &&& 3689348814741910323) ≤ 3689348814741910323 := fun z => Nat.and_le_right
  have r1 := q1 (x / 2); have r2 := q1 x
  refine ⟨sA x 8, sB (sA x 8) 8, pops x 8, y1, y2, y3, by unfold sA; rw [M55], ?_, by unfold sB; rw [M33], ?_, ?_, by rw [← h1]; unfold sC; rw [M0f], e1.symm, e2.symm, e3.symm, k0, k1, k2, k3, by rw [hm, hs]⟩
  · unfold sA; rw [M55]; generalize x / 2 &&& 6148914691236517205 = u at *; generalize x &&& 6148914691236517205 = v at *; omega
  · have r3 := q2 (sA x 8 / 4); have r4 := q2 (sA x 8)
    unfold sB; rw [M33]; generalize sA x 8 / 4 &&& 3689348814741910323 = u at *; generalize sA x 8 &&& 3689348814741910323 = v at *; omega
  · have r3 := q2 (sA x 8 / 4); have r4 := q2 (sA x 8)
    unfold sB; rw [M33]; generalize sA x 8 / 4 &&& 3689348814741910323 = u at *; generalize sA x 8 &&& 3689348814741910323 = v at *; omega

end Go.Proofs.Ytfifgojbihdhcaa

/-
  What stands in memory, carried through calls, new blocks and stores; blocks of four words.
-/
namespace Go.Proofs.Ytfifgojbihdhcaa
open Go.RowKit

theorem bcell {W w1 : World} (hb : Below W.heap.size W w1) : (∀ b o, b < W.heap.size → w1.cell? ⟨b, o, none⟩ = W.cell? ⟨b, o, none⟩) ∧ (∀ b o, b < W.heap.size → w1.frozen? ⟨b, o, none⟩ = W.frozen? ⟨b, o, none⟩) :=
  ⟨fun b o h => hb.cell (p := ⟨b, o, none⟩) h, fun b o h => hb.frozen (p := ⟨b, o, none⟩) h⟩

/-- A cell that was there reads as it did. -/
theorem l_kept_cell {w w' : World} (hb : Below w.heap.size w w') {b o : Nat} {v : Value} (h : w.cell? ⟨b, o, none⟩ = some v) : w'.cell? ⟨b, o, none⟩ = some v := by
  rw [hb.cell (p := ⟨b, o, none⟩) (block_of_cell h)]; exact h
theorem kept_frozen {w w' : World} (hb : Below w.heap.size w w') {b o : Nat} {v : Value} (h : w.cell? ⟨b, o, none⟩ = some v) (hf : w.frozen? ⟨b, o, none⟩ = false) : w'.frozen? ⟨b, o, none⟩ = false := by
  rw [hb.frozen (p := ⟨b, o, none⟩) (block_of_cell h)]; exact hf

/-- A block of four words, none of them frozen. -/
structure Four (w : World) (b : Nat) (x0 x1 x2 x3 : Nat) : Prop where
  c0 : w.cell? ⟨b, 0, none⟩ = some (.int .u64 x0)
  c1 : w.cell? ⟨b, 1, none⟩ = some (.int .u64 x1)
  c2 : w.cell? ⟨b, 2, none⟩ = some (.int .u64 x2)
  c3 : w.cell? ⟨b, 3, none⟩ = some (.int .u64 x3)
  f0 : w.frozen? ⟨b, 0, none⟩ = false
  f1 : w.frozen? ⟨b, 1, none⟩ = false
  f2 : w.frozen? ⟨b, 2, none⟩ = false
  f3 : w.frozen? ⟨b, 3, none⟩ = false

theorem Four.kept {w w' : World} {b x0 x1 x2 x3 : Nat} (h : Four w b x0 x1 x2 x3) (hb : Below w.heap.size w w') : Four w' b x0 x1 x2 x3 :=
  ⟨l_kept_cell hb h.c0, l_kept_cell hb h.c1, l_kept_cell hb h.c2, l_kept_cell hb h.c3, kept_frozen hb h.c0 h.f0, kept_frozen hb h.c1 h.f1, kept_frozen hb h.c2 h.f2, kept_frozen hb h.c3 h.f3⟩
theorem Four.lt {w : World} {b x0 x1 x2 x3 : Nat} (h : Four w b x0 x1 x2 x3) : b < w.heap.size := block_of_cell h.c0
theorem Four.alloc {w : World} {b x0 x1 x2 x3 : Nat} (h : Four w b x0 x1 x2 x3) (o : Obj) : Four (w.alloc o) b x0 x1 x2 x3 := h.kept ((Below.refl _ _).alloc (Nat.le_refl _) o)
theorem Four.new (w : World) (x0 x1 x2 x3 : Nat) (T : TypeId) : Four (w.alloc (.cells #[.int .u64 x0, .int .u64 x1, .int .u64 x2, .int .u64 x3] T)) w.heap.size x0 x1 x2 x3 :=
  ⟨by simp, by simp, by simp, by simp, by simp, by simp, by simp, by simp⟩
theorem Four.far {w : World} {b x0 x1 x2 x3 : Nat} (h : Four w b x0 x1 x2 x3) {p : Addr} (hp : b ≠ p.block) (v : Value) : Four (w.setCell p v) b x0 x1 x2 x3 := by
  have e : ∀ o, (⟨b, o, none⟩ : Addr) ≠ p := fun o e => hp (by rw [← e])
  refine ⟨?_, ?_, ?_, ?_, ?_, ?_, ?_, ?_⟩
  · rw [World.cell?_setCell_other _ _ _ _ (fun e2 => e 0 e2.symm)]; exact h.c0
  · rw [World.cell?_setCell_other _ _ _ _ (fun e2 => e 1 e2.symm)]; exact h.c1
  · rw [World.cell?_setCell_other _ _ _ _ (fun e2 => e 2 e2.symm)]; exact h.c2
  · rw [World.cell?_setCell_other _ _ _ _ (fun e2 => e 3 e2.symm)]; exact h.c3
  · simp; exact h.f0
  · simp; exact h.f1
  · simp; exact h.f2
  · simp; exact h.f3
theorem Four.set0 {w : World} {b x0 x1 x2 x3 : Nat} (h : Four w b x0 x1 x2 x3) (v : Nat) : Four (w.setCell ⟨b, 0, none⟩ (.int .u64 v)) b v x1 x2 x3 := by
  refine ⟨World.cell?_setCell_same _ _ _ h.c0, ?_, ?_, ?_, ?_, ?_, ?_, ?_⟩
  · rw [World.cell?_setCell_other _ _ _ _ (by simp)]; exact h.c1
  · rw [World.cell?_setCell_other _ _ _ _ (by simp)]; exact h.c2
  · rw [World.cell?_setCell_other _ _ _ _ (by simp)]; exact h.c3
  · simp; exact h.f0
  · simp; exact h.f1
  · simp; exact h.f2
  · simp; exact h.f3
theorem Four.set1 {w : World} {b x0 x1 x2 x3 : Nat} (h : Four w b x0 x1 x2 x3) (v : Nat) : Four (w.setCell ⟨b, 1, none⟩ (.int .u64 v)) b x0 v x2 x3 := by
  refine ⟨?_, World.cell?_setCell_same _ _ _ h.c1, ?_, ?_, ?_, ?_, ?_, ?_⟩
  · rw [World.cell?_setCell_other _ _ _ _ (by simp)]; exact h.c0
  · rw [World.cell?_setCell_other _ _ _ _ (by simp)]; exact h.c2
  · rw [World.cell?_setCell_other _ _ _ _ (by simp)]; exact h.c3
  · simp; exact h.f0
  · simp; exact h.f1
  · simp; exact h.f2
  · simp; exact h.f3
theorem Four.set2 {w : World} {b x0 x1 x2 x3 : Nat} (h : Four w b x0 x1 x2 x3) (v : Nat) : Four (w.setCell ⟨b, 2, none⟩ (.int .u64 v)) b x0 x1 v x3 := by
  refine ⟨?_, ?_, World.cell?_setCell_same _ _ _ h.c2, ?_, ?_, ?_, ?_, ?_⟩
  · rw [World.cell?_setCell_other _ _ _ _ (by simp)]; exact h.c0
  · rw [World.cell?_setCell_other _ _ _ _ (by simp)]; exact h.c1
  · rw [World.cell?_setCell_other _ _ _ _ (by simp)]; exact h.c3
  · simp; exact h.f0
  · simp; exact h.f1
  · simp; exact h.f2
  · simp; exact h.f3
theorem Four.set3 {w : World} {b x0 x1 x2 x3 : Nat} (h : Four w b x0 x1 x2 x3) (v : Nat) : Four (w.setCell ⟨b, 3, none⟩ (.int .u64 v)) b x0 x1 x2 v := by
  refine ⟨?_, ?_, ?_, World.cell?_setCell_same _ _ _ h.c3, ?_, ?_, ?_, ?_⟩
  · rw [World.cell?_setCell_other _ _ _ _ (by simp)]; exact h.c0
  · rw [World.cell?_setCell_other _ _ _ _ (by simp)]; exact h.c1
  · rw [World.cell?_setCell_other _ _ _ _ (by simp)]; exact h.c2
  · simp; exact h.f0
  · simp; exact h.f1
  · simp; exact h.f2
  · simp; exact h.f3

/-- A set is stored whole. -/
def set4 (w : World) (b x0 x1 x2 x3 : Nat) : World := (((w.setCell ⟨b, 0, none⟩ (.int .u64 x0)).setCell ⟨b, 1, none⟩ (.int .u64 x1)).setCell ⟨b, 2, none⟩ (.int .u64 x2)).setCell ⟨b, 3, none⟩ (.int .u64 x3)
theorem Four.set4 {w : World} {b y0 y1 y2 y3 : Nat} (h : Four w b y0 y1 y2 y3) (x0 x1 x2 x3 : Nat) : Four (set4 w b x0 x1 x2 x3) b x0 x1 x2 x3 := (((h.set0 x0).set1 x1).set2 x2).set3 x3
theorem Four.far4 {w : World} {b d y0 y1 y2 y3 : Nat} (h : Four w b y0 y1 y2 y3) (hne : b ≠ d) (x0 x1 x2 x3 : Nat) : Four (Go.Proofs.Ytfifgojbihdhcaa.set4 w d x0 x1 x2 x3) b y0 y1 y2 y3 :=
  (((h.far (p := ⟨d, 0, none⟩) hne _).far (p := ⟨d, 1, none⟩) hne _).far (p := ⟨d, 2, none⟩) hne _).far (p := ⟨d, 3, none⟩) hne _
theorem below_set4 {B : Nat} {W w : World} {d : Nat} (h : Below B W w) (hd : B ≤ d) (x0 x1 x2 x3 : Nat) : Below B W (set4 w d x0 x1 x2 x3) :=
  (((h.setCell (p := ⟨d, 0, none⟩) hd _).setCell (p := ⟨d, 1, none⟩) hd _).setCell (p := ⟨d, 2, none⟩) hd _).setCell (p := ⟨d, 3, none⟩) hd _
theorem set4_size (w : World) (b x0 x1 x2 x3 : Nat) : (set4 w b x0 x1 x2 x3).heap.size = w.heap.size := by simp [set4]

theorem cell_same {w w1 : World} (e : w1.heap = w.heap) (a : Addr) : w1.cell? a = w.cell? a := by unfold World.cell?; rw [e]
theorem frozen_same {w w1 : World} (e : w1.heap = w.heap) (a : Addr) : w1.frozen? a = w.frozen? a := by unfold World.frozen?; rw [e]
/-- The same, where the walk has drawn in between. -/
theorem Four.next {w w1 w2 : World} {b x0 x1 x2 x3 : Nat} (hb : Below w1.heap.size w1 w2) (h : Four w b x0 x1 x2 x3) (e : w1.heap = w.heap := by rfl) : Four w2 b x0 x1 x2 x3 := by
  refine Four.kept ?_ hb
  exact ⟨by rw [cell_same e]; exact h.c0, by rw [cell_same e]; exact h.c1, by rw [cell_same e]; exact h.c2, by rw [cell_same e]; exact h.c3, by rw [frozen_same e]; exact h.f0, by rw [frozen_same e]; exact h.f1, by rw [frozen_same e]; exact h.f2, by rw [frozen_same e]; exact h.f3⟩
theorem below_next {B : Nat} {W w w1 w2 : World} (hb : Below w1.heap.size w1 w2) (h : Below B W w) (hB : B ≤ W.heap.size) (e : w1.heap = w.heap := by rfl) (e1 : w1.os = w.os := by rfl) (e2 : w1.tape = w.tape := by rfl) (e3 : w1.output = w.output := by rfl) : Below B W w2 := by
  have hs : w1.heap.size = w.heap.size := by rw [e]
  have h1 : Below B W w1 := ⟨e1.trans h.os, e2.trans h.tape, e3.trans h.output, by rw [hs]; exact h.size, fun k hk => by rw [e]; exact h.block k hk⟩
  exact h1.trans (hb.mono (by rw [hs]; exact Nat.le_trans hB h.size))

/-- A slice of integers that came in. -/
def IsRow (k : IntKind) (w : World) (a : Option Addr) (len cap : Nat) (zs : List Int) : Prop :=
  (a = none ∧ len = 0 ∧ cap = 0 ∧ zs = []) ∨
  ∃ x, a = some x ∧ len ≤ cap ∧ cap ≤ maxLen ∧ zs.length = cap ∧ (∀ i, i < zs.length → w.cell? (x.add i) = some (.int k (zs.getD i 0))) ∧ ∀ n ∈ zs, (Lit.int k n).wf = true

/-- A row of ints that lies below block B. -/
def Reads (w : World) (B : Nat) (a : Option Addr) (zs : List Int) : Prop :=
  zs = [] ∨ ∃ b off, a = some ⟨b, off, none⟩ ∧ b < B ∧ ∀ k, k < zs.length → w.cell? ⟨b, off + k, none⟩ = some (.int .i64 (zs.getD k 0))

theorem Reads.below {w w' : World} {B : Nat} {a : Option Addr} {zs : List Int} (h : Reads w B a zs) (hb : Below B w w') : Reads w' B a zs := by
  rcases h with h | ⟨b, off, h1, h2, h3⟩
  · exact .inl h
  · exact .inr ⟨b, off, h1, h2, fun k hk => by rw [hb.cell (p := ⟨b, off + k, none⟩) h2]; exact h3 k hk⟩
theorem Reads.up {w : World} {B B' : Nat} {ao : Option Addr} {zs : List Int} (h : Reads w B ao zs) (hB : B ≤ B') : Reads w B' ao zs := by
  rcases h with h | ⟨b, off, h1, h2, h3⟩
  · exact .inl h
  · exact .inr ⟨b, off, h1, by omega, h3⟩
theorem Reads.later {w w' : World} {B : Nat} {ao : Option Addr} {zs : List Int} (h : Reads w B ao zs) (hB : B ≤ w.heap.size) (hb : Below B w w') : Reads w' w'.heap.size ao zs :=
  (h.below hb).up (Nat.le_trans hB hb.size)

theorem getD_take (zs : List Int) (n k : Nat) (h : k < n) : (zs.take n).getD k 0 = zs.getD k 0 := by
  simp only [List.getD_eq_getElem?_getD, List.getElem?_take, if_pos h]
theorem Reads.take {w : World} {B : Nat} {ao : Option Addr} {zs : List Int} (h : Reads w B ao zs) (n : Nat) : Reads w B ao (zs.take n) := by
  rcases h with h | ⟨b, off, h1, h2, h3⟩
  · left; rw [h]; simp
  · right
    refine ⟨b, off, h1, h2, fun k hk => ?_⟩
    rw [List.length_take] at hk
    rw [getD_take _ _ _ (by omega)]
    exact h3 k (by omega)

theorem isrow_reads {w : World} {a : Option Addr} {len cap : Nat} {z : List Int} (h : IsRow .i64 w a len cap z) :
    Reads w w.heap.size a (z.take len) ∧ (z.take len).length = len ∧ (len : Int) ≤ 9223372036854775807 ∧ len ≤ cap ∧ (cap : Int) ≤ 9223372036854775807 ∧ ∀ x ∈ z.take len, (Lit.int .i64 x).wf = true := by
  rcases h with ⟨rfl, rfl, rfl, rfl⟩ | ⟨x, rfl, h1, h2, h3, h4, h5⟩
  · exact ⟨.inl rfl, rfl, by omega, by omega, by omega, by simp⟩
  · have hl : (z.take len).length = len := by rw [List.length_take]; omega
    refine ⟨?_, hl, by unfold maxLen at h2; omega, h1, by unfold maxLen at h2; omega, fun y hy => h5 y (List.mem_of_mem_take hy)⟩
    rcases Nat.eq_zero_or_pos len with e | e
    · left; rw [e]; simp
    · right
      have h0 := h4 0 (by omega)
      rcases x with ⟨b, off, spot⟩
      have hs : spot = none := by
        cases spot with
        | none => rfl
        | some s => simp [World.cell?, Addr.add] at h0; split at h0 <;> simp at h0
      subst hs
      refine ⟨b, off, rfl, block_of_cell h0, fun k hk => ?_⟩
      rw [getD_take _ _ _ (by omega)]
      have e : (⟨b, off, none⟩ : Addr).add k = ⟨b, off + k, none⟩ := by
        unfold Addr.add; split <;> simp_all
      rw [← e]
      exact h4 k (by omega)

theorem Calls.under {P : Program} {f : FuncId} {args : Array Value} {B : Nat} {W w : World} {R : Ending → Prop} (hb : Below B W w) (hB : B ≤ W.heap.size)
    (h : Calls P f args w fun e w' => R e ∧ Below w.heap.size w w') : Calls P f args w fun e w' => R e ∧ Below B W w' :=
  h.mono fun _ _ ⟨h1, h2⟩ => ⟨h1, hb.trans (h2.mono (Nat.le_trans hB hb.size))⟩

end Go.Proofs.Ytfifgojbihdhcaa

/-
  The walks over one number's set, and over the count and the lowest bit of a word.
-/
namespace Go.Proofs.Ytfifgojbihdhcaa
open Go.RowKit
set_option linter.unusedSimpArgs false

theorem u64_nat (n : Nat) (h : n < 18446744073709551616) : IntKind.u64.wrap (n : Int) = n := IntWalk.u64_in _ (by omega)
theorem pow_wrap {j : Nat} (hj : j < 64) : IntKind.u64.wrap ((2 : Int) ^ j) = ((2 ^ j : Nat) : Int) := by
  have h : (2 : Nat) ^ j < 18446744073709551616 := Nat.pow_lt_pow_right (a := 2) (m := j) (n := 64) (by omega) hj
  rw [show (2 : Int) ^ j = ((2 ^ j : Nat) : Int) by simp]
  exact u64_nat _ h

theorem one_words {k j : Nat} (hk : k < 4) (hj : j < 64) (k' : Nat) : wd (oneP ((64 * k + j : Nat) : Int)) k' = if k' = k then 2 ^ j else 0 := by
  by_cases h : k' = k
  · subst h; rw [if_pos rfl]; exact wd_one_at hj
  · rw [if_neg h]; exact wd_one_far fun i hi => by omega
theorem one_out {v : Int} (h : v < 0 ∨ 255 < v) {k : Nat} (hk : k < 4) : wd (oneP v) k = 0 := wd_one_far fun i hi => by omega

set_option maxHeartbeats 1000000 in
theorem only_0 (i : Int) (h0 : 0 ≤ i) (h1 : i / 64 = 0) (j : Nat) (hj : j < 64) (h2 : i % 64 = j) (w : World) :
    Calls Try.prog 44 #[.int .i64 i] w fun e w' => e = .returned (.agg #[.int .u64 (wd (oneP i) 0), .int .u64 (wd (oneP i) 1), .int .u64 (wd (oneP i) 2), .int .u64 (wd (oneP i) 3)]) ∧ Below w.heap.size w w' := by
  have hi : i = ((64 * 0 + j : Nat) : Int) := by omega
  have e0 := one_words (k := 0) (j := j) (by omega) hj 0
  have e1 := one_words (k := 0) (j := j) (by omega) hj 1
  have e2 := one_words (k := 0) (j := j) (by omega) hj 2
  have e3 := one_words (k := 0) (j := j) (by omega) hj 3
  rw [← hi] at e0 e1 e2 e3
  have pw := pow_wrap hj
  rw [e0, e1, e2, e3]
  clear e0 e1 e2 e3 hi
  simp only [reduceIte, Nat.reduceEqDiff, Nat.succ_ne_self, Nat.one_ne_zero, Nat.zero_ne_one]
  generalize (2 : Nat) ^ j = z at pw
  go_enter Try.func44, Try.ntmps44
  go_wp2
  exact bodyPost_ret (by simp [results, Try.results44, go_sem]) rfl ⟨rfl, ((Below.refl _ _).alloc (Nat.le_refl _) _).alloc (by simp) _⟩
set_option maxHeartbeats 1000000 in
theorem only_1 (i : Int) (h0 : 0 ≤ i) (h1 : i / 64 = 1) (j : Nat) (hj : j < 64) (h2 : i % 64 = j) (w : World) :
    Calls Try.prog 44 #[.int .i64 i] w fun e w' => e = .returned (.agg #[.int .u64 (wd (oneP i) 0), .int .u64 (wd (oneP i) 1), .int .u64 (wd (oneP i) 2), .int .u64 (wd (oneP i) 3)]) ∧ Below w.heap.size w w' := by
  have hi : i = ((64 * 1 + j : Nat) : Int) := by omega
  have e0 := one_words (k := 1) (j := j) (by omega) hj 0
  have e1 := one_words (k := 1) (j := j) (by omega) hj 1
  have e2 := one_words (k := 1) (j := j) (by omega) hj 2
  have e3 := one_words (k := 1) (j := j) (by omega) hj 3
  rw [← hi] at e0 e1 e2 e3
  have pw := pow_wrap hj
  rw [e0, e1, e2, e3]
  clear e0 e1 e2 e3 hi
  simp only [reduceIte, Nat.reduceEqDiff, Nat.succ_ne_self, Nat.one_ne_zero, Nat.zero_ne_one]
  generalize (2 : Nat) ^ j = z at pw
  go_enter Try.func44, Try.ntmps44
  go_wp2
  exact bodyPost_ret (by simp [results, Try.results44, go_sem]) rfl ⟨rfl, ((Below.refl _ _).alloc (Nat.le_refl _) _).alloc (by simp) _⟩
set_option maxHeartbeats 1000000 in
theorem only_2 (i : Int) (h0 : 0 ≤ i) (h1 : i / 64 = 2) (j : Nat) (hj : j < 64) (h2 : i % 64 = j) (w : World) :
    Calls Try.prog 44 #[.int .i64 i] w fun e w' => e = .returned (.agg #[.int .u64 (wd (oneP i) 0), .int .u64 (wd (oneP i) 1), .int .u64 (wd (oneP i) 2), .int .u64 (wd (oneP i) 3)]) ∧ Below w.heap.size w w' := by
  have hi : i = ((64 * 2 + j : Nat) : Int) := by omega
  have e0 := one_words (k := 2) (j := j) (by omega) hj 0
  have e1 := one_words (k := 2) (j := j) (by omega) hj 1
  have e2 := one_words (k := 2) (j := j) (by omega) hj 2
  have e3 := one_words (k := 2) (j := j) (by omega) hj 3
  rw [← hi] at e0 e1 e2 e3
  have pw := pow_wrap hj
  rw [e0, e1, e2, e3]
  clear e0 e1 e2 e3 hi
  simp only [reduceIte, Nat.reduceEqDiff, Nat.succ_ne_self, Nat.one_ne_zero, Nat.zero_ne_one]
  generalize (2 : Nat) ^ j = z at pw
  go_enter Try.func44, Try.ntmps44
  go_wp2
  exact bodyPost_ret (by simp [results, Try.results44, go_sem]) rfl ⟨rfl, ((Below.refl _ _).alloc (Nat.le_refl _) _).alloc (by simp) _⟩
set_option maxHeartbeats 1000000 in
theorem only_3 (i : Int) (h0 : 0 ≤ i) (h1 : i / 64 = 3) (j : Nat) (hj : j < 64) (h2 : i % 64 = j) (w : World) :
    Calls Try.prog 44 #[.int .i64 i] w fun e w' => e = .returned (.agg #[.int .u64 (wd (oneP i) 0), .int .u64 (wd (oneP i) 1), .int .u64 (wd (oneP i) 2), .int .u64 (wd (oneP i) 3)]) ∧ Below w.heap.size w w' := by
  have hi : i = ((64 * 3 + j : Nat) : Int) := by omega
  have e0 := one_words (k := 3) (j := j) (by omega) hj 0
  have e1 := one_words (k := 3) (j := j) (by omega) hj 1
  have e2 := one_words (k := 3) (j := j) (by omega) hj 2
  have e3 := one_words (k := 3) (j := j) (by omega) hj 3
  rw [← hi] at e0 e1 e2 e3
  have pw := pow_wrap hj
  rw [e0, e1, e2, e3]
  clear e0 e1 e2 e3 hi
  simp only [reduceIte, Nat.reduceEqDiff, Nat.succ_ne_self, Nat.one_ne_zero, Nat.zero_ne_one]
  generalize (2 : Nat) ^ j = z at pw
  go_enter Try.func44, Try.ntmps44
  go_wp2
  exact bodyPost_ret (by simp [results, Try.results44, go_sem]) rfl ⟨rfl, ((Below.refl _ _).alloc (Nat.le_refl _) _).alloc (by simp) _⟩

set_option maxHeartbeats 1000000 in
theorem only_low (i : Int) (h : i < 0) (w : World) :
    Calls Try.prog 44 #[.int .i64 i] w fun e w' => e = .returned (.agg #[.int .u64 (wd (oneP i) 0), .int .u64 (wd (oneP i) 1), .int .u64 (wd (oneP i) 2), .int .u64 (wd (oneP i) 3)]) ∧ Below w.heap.size w w' := by
  rw [one_out (.inl h) (k := 0) (by omega), one_out (.inl h) (k := 1) (by omega), one_out (.inl h) (k := 2) (by omega), one_out (.inl h) (k := 3) (by omega)]
  go_enter Try.func44, Try.ntmps44
  go_wp2
  exact bodyPost_ret (by simp [results, Try.results44, go_sem]) rfl ⟨rfl, ((Below.refl _ _).alloc (Nat.le_refl _) _).alloc (by simp) _⟩
set_option maxHeartbeats 1000000 in
theorem only_high (i : Int) (h : 256 ≤ i) (hu : i ≤ 9223372036854775807) (w : World) :
    Calls Try.prog 44 #[.int .i64 i] w fun e w' => e = .returned (.agg #[.int .u64 (wd (oneP i) 0), .int .u64 (wd (oneP i) 1), .int .u64 (wd (oneP i) 2), .int .u64 (wd (oneP i) 3)]) ∧ Below w.heap.size w w' := by
  have ho : i < 0 ∨ 255 < i := .inr (by omega)
  rw [one_out ho (k := 0) (by omega), one_out ho (k := 1) (by omega), one_out ho (k := 2) (by omega), one_out ho (k := 3) (by omega)]
  have h0 : 0 ≤ i := by omega
  have h1 : 4 ≤ i / 64 := by omega
  clear ho h
  go_enter Try.func44, Try.ntmps44
  go_wp2
  exact bodyPost_ret (by simp [results, Try.results44, go_sem]) rfl ⟨rfl, ((Below.refl _ _).alloc (Nat.le_refl _) _).alloc (by simp) _⟩

theorem only_any (i : Int) (hu : i ≤ 9223372036854775807) (w : World) :
    Calls Try.prog 44 #[.int .i64 i] w fun e w' => e = .returned (.agg #[.int .u64 (wd (oneP i) 0), .int .u64 (wd (oneP i) 1), .int .u64 (wd (oneP i) 2), .int .u64 (wd (oneP i) 3)]) ∧ Below w.heap.size w w' := by
  rcases (show i < 0 ∨ 256 ≤ i ∨ (0 ≤ i ∧ i ≤ 255) by omega) with h | h | ⟨h0, h1⟩
  · exact only_low i h w
  · exact only_high i h hu w
  · obtain ⟨j, hj⟩ : ∃ j : Nat, i % 64 = j := ⟨(i % 64).toNat, by omega⟩
    rcases (show i / 64 = 0 ∨ i / 64 = 1 ∨ i / 64 = 2 ∨ i / 64 = 3 by omega) with g | g | g | g
    · exact only_0 i h0 g j (by omega) hj w
    · exact only_1 i h0 g j (by omega) hj w
    · exact only_2 i h0 g j (by omega) hj w
    · exact only_3 i h0 g j (by omega) hj w

theorem and_nat (a b : Nat) (ha : a < 18446744073709551616) (hb : b < 18446744073709551616) : bits .and .u64 (a : Int) (b : Int) = ((a &&& b : Nat) : Int) := bits_and_u64_nat a b ha hb

end Go.Proofs.Ytfifgojbihdhcaa

/-
  The walks over what is in both sets, and in the first one alone.
-/
namespace Go.Proofs.Ytfifgojbihdhcaa
open Go.RowKit

theorem or_nat (a b : Nat) (ha : a < 18446744073709551616) (hb : b < 18446744073709551616) : bits .or .u64 (a : Int) (b : Int) = ((a ||| b : Nat) : Int) := bits_or_u64_nat a b ha hb
theorem andnot_nat (a b : Nat) (ha : a < 18446744073709551616) (hb : b < 18446744073709551616) : bits .andNot .u64 (a : Int) (b : Int) = ((a &&& (18446744073709551615 - b) : Nat) : Int) := u64_andNot_nat a b ha hb

theorem w_and (p q : Nat → Bool) (k : Nat) : bits .and .u64 (wd p k : Int) (wd q k : Int) = (wd (andP p q) k : Int) := by rw [and_nat _ _ (wd_lt p k) (wd_lt q k), wd_and]
theorem w_or (p q : Nat → Bool) (k : Nat) : bits .or .u64 (wd p k : Int) (wd q k : Int) = (wd (orP p q) k : Int) := by rw [or_nat _ _ (wd_lt p k) (wd_lt q k), wd_or]
theorem w_minus (p q : Nat → Bool) (k : Nat) : bits .andNot .u64 (wd p k : Int) (wd q k : Int) = (wd (minusP p q) k : Int) := by rw [andnot_nat _ _ (wd_lt p k) (wd_lt q k), wd_minus]

/-- Four words, of which the first k are done. -/
def mix (k : Nat) (r a : Nat → Nat) (j : Nat) : Nat := if j < k then r j else a j

structure Loop4 (w wr : World) (k : Nat) (r a b : Nat → Nat) : Prop where
  x : Four wr w.heap.size (mix k r a 0) (mix k r a 1) (mix k r a 2) (mix k r a 3)
  y : Four wr (w.heap.size + 1) (b 0) (b 1) (b 2) (b 3)
  z : Four wr (w.heap.size + 1 + 1) 0 0 0 0
  below : Below w.heap.size w wr

theorem Four.of_drew {w : World} {b x0 x1 x2 x3 : Nat} (h : Four w b x0 x1 x2 x3) : Four w.drew b x0 x1 x2 x3 := ⟨h.c0, h.c1, h.c2, h.c3, h.f0, h.f1, h.f2, h.f3⟩

set_option maxHeartbeats 2000000 in
theorem minus_any (p q : Nat → Bool) (w : World) :
    Calls Try.prog 46 #[.agg #[.int .u64 (wd p 0), .int .u64 (wd p 1), .int .u64 (wd p 2), .int .u64 (wd p 3)], .agg #[.int .u64 (wd q 0), .int .u64 (wd q 1), .int .u64 (wd q 2), .int .u64 (wd q 3)]] w fun e w' => e = .returned (.agg #[.int .u64 (wd (minusP p q) 0), .int .u64 (wd (minusP p q) 1), .int .u64 (wd (minusP p q) 2), .int .u64 (wd (minusP p q) 3)]) ∧ Below w.heap.size w w' := by
  have e0 := Lib.hid (w_minus p q 0)
  have e1 := Lib.hid (w_minus p q 1)
  have e2 := Lib.hid (w_minus p q 2)
  have e3 := Lib.hid (w_minus p q 3)
  generalize wd (minusP p q) = r at e0 e1 e2 e3 ⊢
  generalize wd p = a at e0 e1 e2 e3 ⊢
  generalize wd q = b at e0 e1 e2 e3 ⊢
  go_enter Try.func46, Try.ntmps46
  go_wp2
  go_loopw [6] (fun i wr => ∃ k : Nat, k ≤ 4 ∧ i = .int .i64 k ∧ Loop4 w wr k r a b) (fun i _ => (4 - intOf i).toNat)
  case atStart =>
    exact ⟨0, by omega, rfl, ⟨((Four.new w _ _ _ _ _).alloc _).alloc _, by simpa using (Four.new (w.alloc _) (b 0) (b 1) (b 2) (b 3) _).alloc _, by simpa using Four.new ((w.alloc _).alloc _) 0 0 0 0 _, (((Below.refl _ _).alloc (Nat.le_refl _) _).alloc (by simp) _).alloc (by simp; omega) _⟩⟩
  case round =>
    obtain ⟨k, hk, rfl, hx, hy, hz, hb⟩ := hrel
    have HY := Lib.hid hy
    have HZ := Lib.hid hz
    have HB := Lib.hid hb
    have HX := Lib.hid hx
    clear hb hz
    rcases (show k = 0 ∨ k = 1 ∨ k = 2 ∨ k = 3 ∨ k = 4 by omega) with rfl | rfl | rfl | rfl | rfl
    rotate_left 4
    · clear HY hy
      simp only [mix, Nat.reduceLT, reduceIte] at hx
      obtain ⟨x0, x1, x2, x3, g0, g1, g2, g3⟩ := hx
      obtain ⟨z0, z1, z2, z3, v0, v1, v2, v3⟩ := HZ.out
      go_wp2
      refine bodyPost_ret (v := .agg #[.int .u64 (r 0), .int .u64 (r 1), .int .u64 (r 2), .int .u64 (r 3)]) ?_ rfl ⟨rfl, below_set4 HB.out (by omega) (r 0) (r 1) (r 2) (r 3)⟩
      obtain ⟨s0, s1, s2, s3, _, _, _, _⟩ := HZ.out.set4 (r 0) (r 1) (r 2) (r 3)
      unfold set4 at s0 s1 s2 s3
      simp [results, Try.results46, go_sem, s0, s1, s2, s3]
    all_goals
      simp only [mix, Nat.lt_irrefl, Nat.reduceLT, Nat.not_lt_zero, reduceIte] at hx
      obtain ⟨x0, x1, x2, x3, g0, g1, g2, g3⟩ := hx
      obtain ⟨y0, y1, y2, y3, _, _, _, _⟩ := hy
    · have e := e0.out
      go_wp2
      go_region
      all_goals
        clear e
        go_wp2
        go_roundw
        case rel => exact ⟨1, by omega, rfl, ⟨(HX.out.set0 (r 0)).of_drew, (HY.out.far (p := ⟨w.heap.size, 0, none⟩) (by simp) _).of_drew, (HZ.out.far (p := ⟨w.heap.size, 0, none⟩) (by simp; omega) _).of_drew, (HB.out.setCell (p := ⟨w.heap.size, 0, none⟩) (Nat.le_refl _) _).drew⟩⟩
        case measure => simp [intOf]
    · have e := e1.out
      go_wp2
      go_region
      all_goals
        clear e
        go_wp2
        go_roundw
        case rel => exact ⟨2, by omega, rfl, ⟨(HX.out.set1 (r 1)).of_drew, (HY.out.far (p := ⟨w.heap.size, 1, none⟩) (by simp) _).of_drew, (HZ.out.far (p := ⟨w.heap.size, 1, none⟩) (by simp; omega) _).of_drew, (HB.out.setCell (p := ⟨w.heap.size, 1, none⟩) (Nat.le_refl _) _).drew⟩⟩
        case measure => simp [intOf]
    · have e := e2.out
      go_wp2
      go_region
      all_goals
        clear e
        go_wp2
        go_roundw
        case rel => exact ⟨3, by omega, rfl, ⟨(HX.out.set2 (r 2)).of_drew, (HY.out.far (p := ⟨w.heap.size, 2, none⟩) (by simp) _).of_drew, (HZ.out.far (p := ⟨w.heap.size, 2, none⟩) (by simp; omega) _).of_drew, (HB.out.setCell (p := ⟨w.heap.size, 2, none⟩) (Nat.le_refl _) _).drew⟩⟩
        case measure => simp [intOf]
    · have e := e3.out
      go_wp2
      go_region
      all_goals
        clear e
        go_wp2
        go_roundw
        case rel => exact ⟨4, by omega, rfl, ⟨(HX.out.set3 (r 3)).of_drew, (HY.out.far (p := ⟨w.heap.size, 3, none⟩) (by simp) _).of_drew, (HZ.out.far (p := ⟨w.heap.size, 3, none⟩) (by simp; omega) _).of_drew, (HB.out.setCell (p := ⟨w.heap.size, 3, none⟩) (Nat.le_refl _) _).drew⟩⟩
        case measure => simp [intOf]

end Go.Proofs.Ytfifgojbihdhcaa

/-
  The walks over what is in one of some sets.
-/
namespace Go.Proofs.Ytfifgojbihdhcaa
open Go.RowKit

/-- Sets that stand one behind the other. -/
def Sets (w : World) (B : Nat) (a : Option Addr) (l : List (Nat → Bool)) : Prop :=
  l = [] ∨ ∃ b off, a = some ⟨b, off, none⟩ ∧ b < B ∧ ∀ k, k < l.length → w.cell? ⟨b, off + k * 4, none⟩ = some (.int .u64 (wd (l.getD k noneP) 0)) ∧ w.cell? ⟨b, off + k * 4 + 1, none⟩ = some (.int .u64 (wd (l.getD k noneP) 1)) ∧ w.cell? ⟨b, off + k * 4 + 2, none⟩ = some (.int .u64 (wd (l.getD k noneP) 2)) ∧ w.cell? ⟨b, off + k * 4 + 3, none⟩ = some (.int .u64 (wd (l.getD k noneP) 3))

theorem Sets.below {w w' : World} {B : Nat} {a : Option Addr} {l : List (Nat → Bool)} (h : Sets w B a l) (hb : Below B w w') : Sets w' B a l := by
  rcases h with h | ⟨b, off, h1, h2, h3⟩
  · exact .inl h
  · exact .inr ⟨b, off, h1, h2, fun k hk => by rw [hb.cell (p := ⟨b, off + k * 4, none⟩) h2, hb.cell (p := ⟨b, off + k * 4 + 1, none⟩) h2, hb.cell (p := ⟨b, off + k * 4 + 2, none⟩) h2, hb.cell (p := ⟨b, off + k * 4 + 3, none⟩) h2]; exact h3 k hk⟩

/-- All that is in one of the first n. -/
def orN (l : List (Nat → Bool)) : Nat → Nat → Bool
  | 0 => noneP
  | n + 1 => orP (orN l n) (l.getD n noneP)

set_option maxHeartbeats 2000000 in
theorem or_any (l : List (Nat → Bool)) (hl : (l.length : Int) ≤ 1000000) (cap : Nat) (ao : Option Addr) (w : World) (hs : Sets w w.heap.size ao l) :
    Calls Try.prog 43 #[.slice ao l.length cap] w fun e w' => e = .returned (.agg #[.int .u64 (wd (orN l l.length) 0), .int .u64 (wd (orN l l.length) 1), .int .u64 (wd (orN l l.length) 2), .int .u64 (wd (orN l l.length) 3)]) ∧ Below w.heap.size w w' := by
  have HS := Lib.hid hs
  clear hs
  go_enter Try.func43, Try.ntmps43
  go_wp2
  go_loopw [9] (fun i wr => ∃ k : Nat, k ≤ l.length ∧ i = .int .i64 k ∧ Four wr (w.heap.size + 1) (wd (orN l k) 0) (wd (orN l k) 1) (wd (orN l k) 2) (wd (orN l k) 3) ∧ Four wr w.heap.size 0 0 0 0 ∧ Below w.heap.size w wr) (fun i _ => (l.length - intOf i).toNat)
  case atStart =>
    refine ⟨0, by omega, rfl, ?_, ?_, ((Below.refl _ _).alloc (Nat.le_refl _) _).alloc (by simp) _⟩
    · have := Four.new (w.alloc (.cells #[.int .u64 0, .int .u64 0, .int .u64 0, .int .u64 0] 37)) 0 0 0 0 37
      simpa [orN, wd_none] using this
    · exact (Four.new w 0 0 0 0 _).alloc _
  case round =>
    obtain ⟨k, hk, rfl, hx, hz, hb⟩ := hrel
    have HX := Lib.hid hx
    have HZ := Lib.hid hz
    have HB := Lib.hid hb
    clear hx hb
    by_cases hlt : k < l.length
    · obtain ⟨b, off, rfl, hbb, hc⟩ : ∃ b off, ao = some ⟨b, off, none⟩ ∧ b < w.heap.size ∧ ∀ k, k < l.length → wr.cell? ⟨b, off + k * 4, none⟩ = some (.int .u64 (wd (l.getD k noneP) 0)) ∧ wr.cell? ⟨b, off + k * 4 + 1, none⟩ = some (.int .u64 (wd (l.getD k noneP) 1)) ∧ wr.cell? ⟨b, off + k * 4 + 2, none⟩ = some (.int .u64 (wd (l.getD k noneP) 2)) ∧ wr.cell? ⟨b, off + k * 4 + 3, none⟩ = some (.int .u64 (wd (l.getD k noneP) 3)) := by
        rcases HS.out.below HB.out with h | h
        · rw [h] at hlt; exact absurd hlt (Nat.not_lt_zero _)
        · exact h
      obtain ⟨c0, c1, c2, c3⟩ := hc k hlt
      have hsz : w.heap.size + 1 < wr.heap.size := HX.out.lt
      have e0 := Lib.hid (w_or (orN l k) (l.getD k noneP) 0)
      have e1 := Lib.hid (w_or (orN l k) (l.getD k noneP) 1)
      have e2 := Lib.hid (w_or (orN l k) (l.getD k noneP) 2)
      have e3 := Lib.hid (w_or (orN l k) (l.getD k noneP) 3)
      have HR : Hid (wd (orP (orN l k) (l.getD k noneP)) = wd (orN l (k + 1))) := by show _ = _; rfl
      clear hc hz
      generalize wd (orP (orN l k) (l.getD k noneP)) = r at e0 e1 e2 e3 HR
      generalize wd (l.getD k noneP) = q at e0 e1 e2 e3 c0 c1 c2 c3
      generalize wd (orN l k) = a at e0 e1 e2 e3 HX
      go_wp2
      go_loopw [13] (fun i wi => ∃ j : Nat, j ≤ 4 ∧ i = .int .i64 j ∧ Four wi (w.heap.size + 1) (mix j r a 0) (mix j r a 1) (mix j r a 2) (mix j r a 3) ∧ Four wi wr.heap.size (q 0) (q 1) (q 2) (q 3) ∧ Four wi w.heap.size 0 0 0 0 ∧ Below w.heap.size w wi) (fun i _ => (4 - intOf i).toNat)
      case atStart =>
        exact ⟨0, by omega, rfl, HX.out.alloc _, Four.new _ _ _ _ _ _, HZ.out.alloc _, HB.out.alloc HB.out.size _⟩
      case round =>
        obtain ⟨j, hj, rfl, hx, hy, hz, hb⟩ := hrel
        have HX := Lib.hid hx
        have HY := Lib.hid hy
        have HZ := Lib.hid hz
        have HB := Lib.hid hb
        clear hz hb
        rcases (show j = 0 ∨ j = 1 ∨ j = 2 ∨ j = 3 ∨ j = 4 by omega) with rfl | rfl | rfl | rfl | rfl
        rotate_left 4
        · clear HY hy hx
          go_wp2
          go_roundw
          case rel => exact ⟨k + 1, by omega, by go_num, by rw [← HR.out]; exact HX.out, HZ.out, HB.out⟩
          case measure => simp [intOf]; omega
        all_goals
          simp only [mix, Nat.lt_irrefl, Nat.reduceLT, Nat.not_lt_zero, reduceIte] at hx
          obtain ⟨x0, x1, x2, x3, g0, g1, g2, g3⟩ := hx
          obtain ⟨y0, y1, y2, y3, _, _, _, _⟩ := hy
        · have e := e0.out
          go_wp2
          go_region
          all_goals
            clear e
            go_wp2
            go_roundw
            case rel => exact ⟨1, by omega, rfl, (HX.out.set0 (r 0)).of_drew, (HY.out.far (p := ⟨w.heap.size + 1, 0, none⟩) (by simp; omega) _).of_drew, (HZ.out.far (p := ⟨w.heap.size + 1, 0, none⟩) (by simp) _).of_drew, (HB.out.setCell (p := ⟨w.heap.size + 1, 0, none⟩) (by simp) _).drew⟩
            case measure => simp [intOf]
        · have e := e1.out
          go_wp2
          go_region
          all_goals
            clear e
            go_wp2
            go_roundw
            case rel => exact ⟨2, by omega, rfl, (HX.out.set1 (r 1)).of_drew, (HY.out.far (p := ⟨w.heap.size + 1, 1, none⟩) (by simp; omega) _).of_drew, (HZ.out.far (p := ⟨w.heap.size + 1, 1, none⟩) (by simp) _).of_drew, (HB.out.setCell (p := ⟨w.heap.size + 1, 1, none⟩) (by simp) _).drew⟩
            case measure => simp [intOf]
        · have e := e2.out
          go_wp2
          go_region
          all_goals
            clear e
            go_wp2
            go_roundw
            case rel => exact ⟨3, by omega, rfl, (HX.out.set2 (r 2)).of_drew, (HY.out.far (p := ⟨w.heap.size + 1, 2, none⟩) (by simp; omega) _).of_drew, (HZ.out.far (p := ⟨w.heap.size + 1, 2, none⟩) (by simp) _).of_drew, (HB.out.setCell (p := ⟨w.heap.size + 1, 2, none⟩) (by simp) _).drew⟩
            case measure => simp [intOf]
        · have e := e3.out
          go_wp2
          go_region
          all_goals
            clear e
            go_wp2
            go_roundw
            case rel => exact ⟨4, by omega, rfl, (HX.out.set3 (r 3)).of_drew, (HY.out.far (p := ⟨w.heap.size + 1, 3, none⟩) (by simp; omega) _).of_drew, (HZ.out.far (p := ⟨w.heap.size + 1, 3, none⟩) (by simp) _).of_drew, (HB.out.setCell (p := ⟨w.heap.size + 1, 3, none⟩) (by simp) _).drew⟩
            case measure => simp [intOf]
    · obtain rfl : k = l.length := by omega
      obtain ⟨x0, x1, x2, x3, _, _, _, _⟩ := HX.out
      obtain ⟨z0, z1, z2, z3, v0, v1, v2, v3⟩ := hz
      go_wp2
      refine bodyPost_ret (v := .agg #[.int .u64 (wd (orN l l.length) 0), .int .u64 (wd (orN l l.length) 1), .int .u64 (wd (orN l l.length) 2), .int .u64 (wd (orN l l.length) 3)]) ?_ rfl ⟨rfl, below_set4 HB.out (by omega) (wd (orN l l.length) 0) (wd (orN l l.length) 1) (wd (orN l l.length) 2) (wd (orN l l.length) 3)⟩
      obtain ⟨s0, s1, s2, s3, _, _, _, _⟩ := HZ.out.set4 (wd (orN l l.length) 0) (wd (orN l l.length) 1) (wd (orN l l.length) 2) (wd (orN l l.length) 3)
      unfold set4 at s0 s1 s2 s3
      simp [results, Try.results43, go_sem, s0, s1, s2, s3]

end Go.Proofs.Ytfifgojbihdhcaa

/-
  Two sets held against each other: word by word.
-/
namespace Go.Proofs.Ytfifgojbihdhcaa
open Go Go.RowKit
set_option linter.unusedSimpArgs false

/-- Are four words the same as four others? -/
def eq4 (x0 x1 x2 x3 y0 y1 y2 y3 : Nat) : Bool := x0 == y0 && x1 == y1 && x2 == y2 && x3 == y3
theorem eq4_self (x0 x1 x2 x3 : Nat) : eq4 x0 x1 x2 x3 x0 x1 x2 x3 = true := by simp [eq4]

set_option maxHeartbeats 1000000 in
theorem set_eq_d (d : Nat) (x0 x1 x2 x3 y0 y1 y2 y3 : Nat) (w : World) :
    (Op.equalIn (d + 1 + 1) 37 (.agg #[.int .u64 x0, .int .u64 x1, .int .u64 x2, .int .u64 x3]) (.agg #[.int .u64 y0, .int .u64 y1, .int .u64 y2, .int .u64 y3])).run Try.prog w = .ok (eq4 x0 x1 x2 x3 y0 y1 y2 y3) w := by
  unfold eq4
  have e : ∀ (a b : Nat) (w : World), (Op.equalIn (d + 1) 35 (.int .u64 a) (.int .u64 b)).run Try.prog w = .ok (a == b) w := fun a b w => by
    rw [run_equalIn_int w d 35 .u64 .u64 a b Try.underlying35]
    congr 1
    rw [Bool.eq_iff_iff]; simp; omega
  have hp : ∀ (xs : Array Value) (i : Nat) (w : World) (v : Value), xs[i]? = some v → (part 35 xs i).run Try.prog w = .ok v w := by
    intro xs i w v h
    simp [part, Sem.run_bind, Try.isAgg35, go_sem, h]
  have hs : ∀ w, (sizeOf 35).run Try.prog w = .ok 1 w := fun w => by simp [Try.sizeOf35, go_sem]
  rw [Op.equalIn]
  simp only [Sem.run_bind, run_underlying Try.underlying37, Result.andThen_ok, hs]
  simp only [Std.Legacy.Range.forIn_eq_forIn_range', Std.Legacy.Range.size, List.range']
  have px0 : ∀ w, (part 35 #[.int .u64 x0, .int .u64 x1, .int .u64 x2, .int .u64 x3] (0 * 1)).run Try.prog w = .ok (.int .u64 x0) w := fun w => hp _ _ _ _ rfl
  have px1 : ∀ w, (part 35 #[.int .u64 x0, .int .u64 x1, .int .u64 x2, .int .u64 x3] ((0 + 1) * 1)).run Try.prog w = .ok (.int .u64 x1) w := fun w => hp _ _ _ _ rfl
  have px2 : ∀ w, (part 35 #[.int .u64 x0, .int .u64 x1, .int .u64 x2, .int .u64 x3] ((0 + 1 + 1) * 1)).run Try.prog w = .ok (.int .u64 x2) w := fun w => hp _ _ _ _ rfl
  have px3 : ∀ w, (part 35 #[.int .u64 x0, .int .u64 x1, .int .u64 x2, .int .u64 x3] ((0 + 1 + 1 + 1) * 1)).run Try.prog w = .ok (.int .u64 x3) w := fun w => hp _ _ _ _ rfl
  have py0 : ∀ w, (part 35 #[.int .u64 y0, .int .u64 y1, .int .u64 y2, .int .u64 y3] (0 * 1)).run Try.prog w = .ok (.int .u64 y0) w := fun w => hp _ _ _ _ rfl
  have py1 : ∀ w, (part 35 #[.int .u64 y0, .int .u64 y1, .int .u64 y2, .int .u64 y3] ((0 + 1) * 1)).run Try.prog w = .ok (.int .u64 y1) w := fun w => hp _ _ _ _ rfl
  have py2 : ∀ w, (part 35 #[.int .u64 y0, .int .u64 y1, .int .u64 y2, .int .u64 y3] ((0 + 1 + 1) * 1)).run Try.prog w = .ok (.int .u64 y2) w := fun w => hp _ _ _ _ rfl
  have py3 : ∀ w, (part 35 #[.int .u64 y0, .int .u64 y1, .int .u64 y2, .int .u64 y3] ((0 + 1 + 1 + 1) * 1)).run Try.prog w = .ok (.int .u64 y3) w := fun w => hp _ _ _ _ rfl
  clear hp hs
  simp only [List.forIn_cons, List.forIn_nil, Sem.run_bind, px0, px1, px2, px3, py0, py1, py2, py3, Result.andThen_ok, e]
  cases h0 : x0 == y0 <;> simp only [Bool.not_false, Bool.not_true, Bool.false_eq_true, if_true, if_false, Sem.run_pure, Sem.run_bind, Result.andThen_ok, Bool.true_and, Bool.false_and, Bool.and_true, Bool.and_false, px1, px2, px3, py1, py2, py3, e]
  cases h1 : x1 == y1 <;> simp only [Bool.not_false, Bool.not_true, Bool.false_eq_true, if_true, if_false, Sem.run_pure, Sem.run_bind, Result.andThen_ok, Bool.true_and, Bool.false_and, Bool.and_true, Bool.and_false, px1, px2, px3, py1, py2, py3, e]
  cases h2 : x2 == y2 <;> simp only [Bool.not_false, Bool.not_true, Bool.false_eq_true, if_true, if_false, Sem.run_pure, Sem.run_bind, Result.andThen_ok, Bool.true_and, Bool.false_and, Bool.and_true, Bool.and_false, px1, px2, px3, py1, py2, py3, e]
  cases h3 : x3 == y3 <;> simp only [Bool.not_false, Bool.not_true, Bool.false_eq_true, if_true, if_false, Sem.run_pure, Sem.run_bind, Result.andThen_ok, Bool.true_and, Bool.false_and, Bool.and_true, Bool.and_false, px1, px2, px3, py1, py2, py3, e]

theorem set_eq (x0 x1 x2 x3 y0 y1 y2 y3 : Nat) (w : World) :
    (Op.equalIn 10000 37 (.agg #[.int .u64 x0, .int .u64 x1, .int .u64 x2, .int .u64 x3]) (.agg #[.int .u64 y0, .int .u64 y1, .int .u64 y2, .int .u64 y3])).run Try.prog w = .ok (eq4 x0 x1 x2 x3 y0 y1 y2 y3) w :=
  set_eq_d 9998 x0 x1 x2 x3 y0 y1 y2 y3 w

end Go.Proofs.Ytfifgojbihdhcaa

/-
  The walks over one number put in, taken out, looked for.
-/
namespace Go.Proofs.Ytfifgojbihdhcaa
open Go.RowKit
attribute [local go_sem] set_eq

theorem orN_two (p q : Nat → Bool) (k : Nat) (hk : k < 4) : wd (orN [p, q] 2) k = wd (orP p q) k := wd_congr (fun i _ => by simp [orN, orP, noneP]) hk

theorem or_two (p q : Nat → Bool) (b : Nat) (w : World) (hb : b < w.heap.size)
    (h0 : w.cell? ⟨b, 0, none⟩ = some (.int .u64 (wd p 0))) (h1 : w.cell? ⟨b, 1, none⟩ = some (.int .u64 (wd p 1))) (h2 : w.cell? ⟨b, 2, none⟩ = some (.int .u64 (wd p 2))) (h3 : w.cell? ⟨b, 3, none⟩ = some (.int .u64 (wd p 3)))
    (h4 : w.cell? ⟨b, 4, none⟩ = some (.int .u64 (wd q 0))) (h5 : w.cell? ⟨b, 5, none⟩ = some (.int .u64 (wd q 1))) (h6 : w.cell? ⟨b, 6, none⟩ = some (.int .u64 (wd q 2))) (h7 : w.cell? ⟨b, 7, none⟩ = some (.int .u64 (wd q 3))) :
    Calls Try.prog 43 #[.slice (some ⟨b, 0, none⟩) 2 2] w fun e w' => e = .returned (.agg #[.int .u64 (wd (orP p q) 0), .int .u64 (wd (orP p q) 1), .int .u64 (wd (orP p q) 2), .int .u64 (wd (orP p q) 3)]) ∧ Below w.heap.size w w' := by
  have h := or_any [p, q] (by simp) 2 (some ⟨b, 0, none⟩) w (.inr ⟨b, 0, rfl, hb, fun k hk => by
    rcases (show k = 0 ∨ k = 1 by simp at hk; omega) with rfl | rfl
    · exact ⟨h0, h1, h2, h3⟩
    · exact ⟨h4, h5, h6, h7⟩⟩)
  rw [show ([p, q] : List (Nat → Bool)).length = 2 from rfl, orN_two p q 0 (by omega), orN_two p q 1 (by omega), orN_two p q 2 (by omega), orN_two p q 3 (by omega)] at h
  exact h

set_option maxHeartbeats 2000000 in
theorem with_any (p : Nat → Bool) (i : Int) (hu : i ≤ 9223372036854775807) (w : World) :
    Calls Try.prog 35 #[.agg #[.int .u64 (wd p 0), .int .u64 (wd p 1), .int .u64 (wd p 2), .int .u64 (wd p 3)], .int .i64 i] w fun e w' => e = .returned (.agg #[.int .u64 (wd (orP p (oneP i)) 0), .int .u64 (wd (orP p (oneP i)) 1), .int .u64 (wd (orP p (oneP i)) 2), .int .u64 (wd (orP p (oneP i)) 3)]) ∧ Below w.heap.size w w' := by
  have O := Lib.hid (fun w => only_any i hu w)
  have C := Lib.hid (fun b w h => or_two p (oneP i) b w h)
  clear hu
  generalize wd (orP p (oneP i)) = r at C ⊢
  generalize wd (oneP i) = o at O C
  generalize wd p = a at C ⊢
  go_enter Try.func35, Try.ntmps35
  go_wp2
  refine gen_world (fun w' => Four w' w.heap.size (a 0) (a 1) (a 2) (a 3) ∧ Four w' (w.heap.size + 1) 0 0 0 0 ∧ Below w.heap.size w w') ⟨(Four.new w _ _ _ _ _).alloc _, by simpa using Four.new (w.alloc _) 0 0 0 0 _, ((Below.refl _ _).alloc (Nat.le_refl _) _).alloc (by simp) _⟩ ?_
  intro W1 ⟨fa, fz, hb⟩
  have FA := Lib.hid fa
  have FZ := Lib.hid fz
  have HB := Lib.hid hb
  obtain ⟨a0, a1, a2, a3, _, _, _, _⟩ := fa
  clear fz hb
  go_region_with (first | (go_at_call 44; (refine (O.out _).mono ?_); rintro e w1 ⟨rfl, hw1⟩; obtain ⟨b0, b1, b2, b3, _, _, _, _⟩ := Four.next hw1 FA.out; have FZ1 := Lib.hid (Four.next hw1 FZ.out); have HB1 := Lib.hid (below_next hw1 HB.out (Nat.le_refl _)); clear hw1) | (go_at_call 43; (refine (C.out _ _ (by simp) (by simp) (by simp) (by simp) (by simp) (by simp) (by simp) (by simp) (by simp)).mono ?_); rintro e w2 ⟨rfl, hw2⟩; have FZ2 := Lib.hid (Four.next hw2 (FZ1.out.alloc _)); have HB2 := Lib.hid (below_next hw2 (HB1.out.alloc HB1.out.size _) (Nat.le_refl _)); obtain ⟨z0, z1, z2, z3, v0, v1, v2, v3⟩ := FZ2.out; clear hw2))
  all_goals
    go_wp2
    refine bodyPost_ret (v := .agg #[.int .u64 (r 0), .int .u64 (r 1), .int .u64 (r 2), .int .u64 (r 3)]) ?_ rfl ⟨rfl, below_set4 HB2.out (by simp) (r 0) (r 1) (r 2) (r 3)⟩
    obtain ⟨s0, s1, s2, s3, _, _, _, _⟩ := FZ2.out.set4 (r 0) (r 1) (r 2) (r 3)
    unfold set4 at s0 s1 s2 s3
    simp [results, Try.results35, go_sem, s0, s1, s2, s3]

set_option maxHeartbeats 2000000 in
theorem without_any (p : Nat → Bool) (i : Int) (hu : i ≤ 9223372036854775807) (w : World) :
    Calls Try.prog 45 #[.agg #[.int .u64 (wd p 0), .int .u64 (wd p 1), .int .u64 (wd p 2), .int .u64 (wd p 3)], .int .i64 i] w fun e w' => e = .returned (.agg #[.int .u64 (wd (minusP p (oneP i)) 0), .int .u64 (wd (minusP p (oneP i)) 1), .int .u64 (wd (minusP p (oneP i)) 2), .int .u64 (wd (minusP p (oneP i)) 3)]) ∧ Below w.heap.size w w' := by
  have O := Lib.hid (fun w => only_any i hu w)
  have C := Lib.hid (fun w => minus_any p (oneP i) w)
  clear hu
  generalize wd (minusP p (oneP i)) = r at C ⊢
  generalize wd (oneP i) = o at O C
  generalize wd p = a at C ⊢
  go_enter Try.func45, Try.ntmps45
  go_wp2
  refine gen_world (fun w' => Four w' w.heap.size (a 0) (a 1) (a 2) (a 3) ∧ Four w' (w.heap.size + 1) 0 0 0 0 ∧ Below w.heap.size w w') ⟨(Four.new w _ _ _ _ _).alloc _, by simpa using Four.new (w.alloc _) 0 0 0 0 _, ((Below.refl _ _).alloc (Nat.le_refl _) _).alloc (by simp) _⟩ ?_
  intro W1 ⟨fa, fz, hb⟩
  have FA := Lib.hid fa
  have FZ := Lib.hid fz
  have HB := Lib.hid hb
  obtain ⟨a0, a1, a2, a3, _, _, _, _⟩ := fa
  clear fz hb
  go_region_with (first | (go_at_call 44; (refine (O.out _).mono ?_); rintro e w1 ⟨rfl, hw1⟩; obtain ⟨b0, b1, b2, b3, _, _, _, _⟩ := Four.next hw1 FA.out; have FZ1 := Lib.hid (Four.next hw1 FZ.out); have HB1 := Lib.hid (below_next hw1 HB.out (Nat.le_refl _)); clear hw1) | (go_at_call 46; (refine (C.out _).mono ?_); rintro e w2 ⟨rfl, hw2⟩; have FZ2 := Lib.hid (Four.next hw2 FZ1.out); have HB2 := Lib.hid (below_next hw2 HB1.out (Nat.le_refl _)); obtain ⟨z0, z1, z2, z3, v0, v1, v2, v3⟩ := FZ2.out; clear hw2))
  all_goals
    go_wp2
    refine bodyPost_ret (v := .agg #[.int .u64 (r 0), .int .u64 (r 1), .int .u64 (r 2), .int .u64 (r 3)]) ?_ rfl ⟨rfl, below_set4 HB2.out (by simp) (r 0) (r 1) (r 2) (r 3)⟩
    obtain ⟨s0, s1, s2, s3, _, _, _, _⟩ := FZ2.out.set4 (r 0) (r 1) (r 2) (r 3)
    unfold set4 at s0 s1 s2 s3
    simp [results, Try.results45, go_sem, s0, s1, s2, s3]

/-- What is looked for: the words with and without it. -/
theorem has_no {p : Nat → Bool} {i : Int} (h : hasP p i = false) {k : Nat} (hk : k < 4) : wd (minusP p (oneP i)) k = wd p k :=
  wd_congr (fun x hx => by
    unfold minusP oneP
    by_cases e : (x : Int) = i
    · subst e
      have : p x = false := by simpa [hasP, show (x : Int) ≤ 255 by omega] using h
      simp [this]
    · simp [e]) hk
theorem has_yes {p : Nat → Bool} {i : Int} (h : hasP p i = true) : ∃ k j : Nat, k < 4 ∧ j < 64 ∧ i = ((64 * k + j : Nat) : Int) ∧ wd p k = wd (minusP p (oneP i)) k + 2 ^ j ∧ ∀ k', k' ≠ k → wd (minusP p (oneP i)) k' = wd p k' := by
  unfold hasP at h
  rw [Bool.and_eq_true, decide_eq_true_eq] at h
  obtain ⟨⟨h0, h1⟩, h2⟩ := h
  have e : i = ((64 * (i.toNat / 64) + i.toNat % 64 : Nat) : Int) := by omega
  refine ⟨i.toNat / 64, i.toNat % 64, by omega, Nat.mod_lt _ (by omega), e, ?_, fun k' hk => wd_minus_far fun j hj => by omega⟩
  have h3 : p (64 * (i.toNat / 64) + i.toNat % 64) = true := by rw [show 64 * (i.toNat / 64) + i.toNat % 64 = i.toNat by omega]; exact h2
  have := wd_del (p := p) (k := i.toNat / 64) (j := i.toNat % 64) (Nat.mod_lt _ (by omega)) h3
  rw [← e] at this
  exact this

set_option maxHeartbeats 2000000 in
theorem has_core (x0 x1 x2 x3 y0 y1 y2 y3 : Nat) (i : Int) (w : World)
    (C : Hid (∀ w, Calls Try.prog 45 #[.agg #[.int .u64 x0, .int .u64 x1, .int .u64 x2, .int .u64 x3], .int .i64 i] w fun e w' => e = .returned (.agg #[.int .u64 y0, .int .u64 y1, .int .u64 y2, .int .u64 y3]) ∧ Below w.heap.size w w'))
    (same : Bool) (hsame : eq4 x0 x1 x2 x3 y0 y1 y2 y3 = same) :
    Calls Try.prog 41 #[.agg #[.int .u64 x0, .int .u64 x1, .int .u64 x2, .int .u64 x3], .int .i64 i] w fun e w' => e = .returned (.bool (!same)) ∧ Below w.heap.size w w' := by
  go_enter Try.func41, Try.ntmps41
  go_wp2
  refine gen_world (fun w' => Four w' w.heap.size x0 x1 x2 x3 ∧ Below w.heap.size w w') ⟨Four.new w _ _ _ _ _, (Below.refl _ _).alloc (Nat.le_refl _) _⟩ ?_
  intro W1 ⟨fa, hb⟩
  have FA := Lib.hid fa
  have HB := Lib.hid hb
  obtain ⟨a0, a1, a2, a3, _, _, _, _⟩ := fa
  clear hb
  go_region_with (go_at_call 45; (refine (C.out _).mono ?_); rintro e w1 ⟨rfl, hw1⟩; obtain ⟨b0, b1, b2, b3, _, _, _, _⟩ := Four.next hw1 FA.out; have HB1 := Lib.hid (below_next hw1 HB.out (Nat.le_refl _)); clear hw1)
  all_goals
    go_wp2
    go_ret
    exact ⟨rfl, HB1.out⟩

theorem has_any (p : Nat → Bool) (i : Int) (hu : i ≤ 9223372036854775807) (w : World) :
    Calls Try.prog 41 #[.agg #[.int .u64 (wd p 0), .int .u64 (wd p 1), .int .u64 (wd p 2), .int .u64 (wd p 3)], .int .i64 i] w fun e w' => e = .returned (.bool (hasP p i)) ∧ Below w.heap.size w w' := by
  have C := Lib.hid (fun w => without_any p i hu w)
  cases h : hasP p i with
  | false =>
    have e := @has_no p i h
    exact has_core _ _ _ _ _ _ _ _ i w C true (by rw [e (k := 0) (by omega), e (k := 1) (by omega), e (k := 2) (by omega), e (k := 3) (by omega)]; exact eq4_self ..)
  | true =>
    obtain ⟨k, j, hk, hj, _, hne, _⟩ := has_yes h
    have hp : 0 < 2 ^ j := Nat.two_pow_pos j
    refine has_core _ _ _ _ _ _ _ _ i w C false ?_
    have hd : ∀ k', k' = k → (wd p k' == wd (minusP p (oneP i)) k') = false := fun k' e => by subst e; rw [beq_eq_false_iff_ne]; omega
    unfold eq4
    rcases (show k = 0 ∨ k = 1 ∨ k = 2 ∨ k = 3 by omega) with e | e | e | e
    · rw [hd 0 e.symm]; simp
    · rw [hd 1 e.symm]; simp
    · rw [hd 2 e.symm]; simp
    · rw [hd 3 e.symm]; simp

end Go.Proofs.Ytfifgojbihdhcaa

/-
  The walks over the set of a row, and over how many are in a set.
-/
namespace Go.Proofs.Ytfifgojbihdhcaa
open Go.RowKit

/-- All of the first n of a row. -/
def ofN (l : List Int) : Nat → Nat → Bool
  | 0 => noneP
  | n + 1 => orP (ofN l n) (oneP (l.getD n 0))

theorem index_0 (x0 x1 x2 x3 : Nat) (w : World) : (Instr.index 37 (.agg #[.int .u64 x0, .int .u64 x1, .int .u64 x2, .int .u64 x3]) (.int .i64 0)).run Try.prog w = .ok (.int .u64 x0) w := by kernel_rfl
theorem index_1 (x0 x1 x2 x3 : Nat) (w : World) : (Instr.index 37 (.agg #[.int .u64 x0, .int .u64 x1, .int .u64 x2, .int .u64 x3]) (.int .i64 1)).run Try.prog w = .ok (.int .u64 x1) w := by kernel_rfl
theorem index_2 (x0 x1 x2 x3 : Nat) (w : World) : (Instr.index 37 (.agg #[.int .u64 x0, .int .u64 x1, .int .u64 x2, .int .u64 x3]) (.int .i64 2)).run Try.prog w = .ok (.int .u64 x2) w := by kernel_rfl
theorem index_3 (x0 x1 x2 x3 : Nat) (w : World) : (Instr.index 37 (.agg #[.int .u64 x0, .int .u64 x1, .int .u64 x2, .int .u64 x3]) (.int .i64 3)).run Try.prog w = .ok (.int .u64 x3) w := by kernel_rfl

/-- How many are in the first k words. -/
def cntW (p : Nat → Bool) : Nat → Nat
  | 0 => 0
  | k + 1 => cntW p k + cntN (wd p k).testBit 64
theorem cntW_eq (p : Nat → Bool) : ∀ k, cntW p k = cntN p (64 * k)
  | 0 => rfl
  | k + 1 => by
    rw [show 64 * (k + 1) = 64 * k + 64 by omega, cntN_add, ← cntW_eq p k]
    show cntW p k + _ = _
    congr 1
    exact cntN_congr fun j hj => wd_bit p k hj

end Go.Proofs.Ytfifgojbihdhcaa

/-
  The walks over the document's own answers: one number looked for, put in, taken out.
-/
namespace Go.Proofs.Ytfifgojbihdhcaa
open Go.RowKit

theorem bit_and (x j : Nat) (h : x < 18446744073709551616) : bits .and .u64 ((x : Int) / 2 ^ j) 1 = ((x / 2 ^ j % 2 : Nat) : Int) := by
  have h1 : x / 2 ^ j ≤ x := Nat.div_le_self _ _
  have e : (x : Int) / 2 ^ j = ((x / 2 ^ j : Nat) : Int) := by simp
  rw [e]
  have := bits_and_u64_nat (x / 2 ^ j) 1 (by omega) (by omega)
  rw [nat_mask1] at this
  exact this

theorem hasP_at {p : Nat → Bool} {i : Int} {k j : Nat} (h0 : 0 ≤ i) (h1 : i ≤ 255) (hk : i / 64 = k) (hj : i % 64 = j) : hasP p i = (wd p k).testBit j := by
  have hj' : j < 64 := by omega
  rw [wd_bit p k hj']
  unfold hasP
  rw [decide_eq_true (⟨h0, h1⟩ : 0 ≤ i ∧ i ≤ 255), Bool.true_and]
  congr 1; omega

set_option maxHeartbeats 1000000 in
theorem rhas_0 (x0 x1 x2 x3 : Nat) (i : Int) (h0 : 0 ≤ i) (h255 : i ≤ 255) (h1 : i / 64 = 0) (j : Nat) (hj : j < 64) (h2 : i % 64 = j) (hx : x0 < 18446744073709551616) (w : World) :
    Calls Try.prog 25 #[.agg #[.int .u64 x0, .int .u64 x1, .int .u64 x2, .int .u64 x3], .int .i64 i] w fun e w' => e = .returned (.bool (x0.testBit j)) ∧ Below w.heap.size w w' := by
  have hb := bit_and x0 j hx
  rw [bit_read] at hb
  clear hx
  cases hp : x0.testBit j with
  | true =>
    rw [hp] at hb
    simp only [if_true] at hb
    clear hp
    go_enter Try.func25, Try.ntmps25
    go_wp2
    go_ret
    exact ⟨rfl, (Below.refl _ _).alloc (Nat.le_refl _) _⟩
  | false =>
    rw [hp] at hb
    simp only [Bool.false_eq_true, if_false] at hb
    clear hp
    go_enter Try.func25, Try.ntmps25
    go_wp2
    go_ret
    exact ⟨rfl, (Below.refl _ _).alloc (Nat.le_refl _) _⟩
set_option maxHeartbeats 1000000 in
theorem rhas_1 (x0 x1 x2 x3 : Nat) (i : Int) (h0 : 0 ≤ i) (h255 : i ≤ 255) (h1 : i / 64 = 1) (j : Nat) (hj : j < 64) (h2 : i % 64 = j) (hx : x1 < 18446744073709551616) (w : World) :
    Calls Try.prog 25 #[.agg #[.int .u64 x0, .int .u64 x1, .int .u64 x2, .int .u64 x3], .int .i64 i] w fun e w' => e = .returned (.bool (x1.testBit j)) ∧ Below w.heap.size w w' := by
  have hb := bit_and x1 j hx
  rw [bit_read] at hb
  clear hx
  cases hp : x1.testBit j with
  | true =>
    rw [hp] at hb
    simp only [if_true] at hb
    clear hp
    go_enter Try.func25, Try.ntmps25
    go_wp2
    go_ret
    exact ⟨rfl, (Below.refl _ _).alloc (Nat.le_refl _) _⟩
  | false =>
    rw [hp] at hb
    simp only [Bool.false_eq_true, if_false] at hb
    clear hp
    go_enter Try.func25, Try.ntmps25
    go_wp2
    go_ret
    exact ⟨rfl, (Below.refl _ _).alloc (Nat.le_refl _) _⟩
set_option maxHeartbeats 1000000 in
theorem rhas_2 (x0 x1 x2 x3 : Nat) (i : Int) (h0 : 0 ≤ i) (h255 : i ≤ 255) (h1 : i / 64 = 2) (j : Nat) (hj : j < 64) (h2 : i % 64 = j) (hx : x2 < 18446744073709551616) (w : World) :
    Calls Try.prog 25 #[.agg #[.int .u64 x0, .int .u64 x1, .int .u64 x2, .int .u64 x3], .int .i64 i] w fun e w' => e = .returned (.bool (x2.testBit j)) ∧ Below w.heap.size w w' := by
  have hb := bit_and x2 j hx
  rw [bit_read] at hb
  clear hx
  cases hp : x2.testBit j with
  | true =>
    rw [hp] at hb
    simp only [if_true] at hb
    clear hp
    go_enter Try.func25, Try.ntmps25
    go_wp2
    go_ret
    exact ⟨rfl, (Below.refl _ _).alloc (Nat.le_refl _) _⟩
  | false =>
    rw [hp] at hb
    simp only [Bool.false_eq_true, if_false] at hb
    clear hp
    go_enter Try.func25, Try.ntmps25
    go_wp2
    go_ret
    exact ⟨rfl, (Below.refl _ _).alloc (Nat.le_refl _) _⟩
set_option maxHeartbeats 1000000 in
theorem rhas_3 (x0 x1 x2 x3 : Nat) (i : Int) (h0 : 0 ≤ i) (h255 : i ≤ 255) (h1 : i / 64 = 3) (j : Nat) (hj : j < 64) (h2 : i % 64 = j) (hx : x3 < 18446744073709551616) (w : World) :
    Calls Try.prog 25 #[.agg #[.int .u64 x0, .int .u64 x1, .int .u64 x2, .int .u64 x3], .int .i64 i] w fun e w' => e = .returned (.bool (x3.testBit j)) ∧ Below w.heap.size w w' := by
  have hb := bit_and x3 j hx
  rw [bit_read] at hb
  clear hx
  cases hp : x3.testBit j with
  | true =>
    rw [hp] at hb
    simp only [if_true] at hb
    clear hp
    go_enter Try.func25, Try.ntmps25
    go_wp2
    go_ret
    exact ⟨rfl, (Below.refl _ _).alloc (Nat.le_refl _) _⟩
  | false =>
    rw [hp] at hb
    simp only [Bool.false_eq_true, if_false] at hb
    clear hp
    go_enter Try.func25, Try.ntmps25
    go_wp2
    go_ret
    exact ⟨rfl, (Below.refl _ _).alloc (Nat.le_refl _) _⟩

set_option maxHeartbeats 1000000 in
theorem rhas_low (x0 x1 x2 x3 : Nat) (i : Int) (h0 : i < 0) (w : World) :
    Calls Try.prog 25 #[.agg #[.int .u64 x0, .int .u64 x1, .int .u64 x2, .int .u64 x3], .int .i64 i] w fun e w' => e = .returned (.bool false) ∧ Below w.heap.size w w' := by
  go_enter Try.func25, Try.ntmps25
  go_wp2
  go_ret
  exact ⟨rfl, (Below.refl _ _).alloc (Nat.le_refl _) _⟩
set_option maxHeartbeats 1000000 in
theorem rhas_high (x0 x1 x2 x3 : Nat) (i : Int) (h0 : 0 ≤ i) (h : 255 < i) (w : World) :
    Calls Try.prog 25 #[.agg #[.int .u64 x0, .int .u64 x1, .int .u64 x2, .int .u64 x3], .int .i64 i] w fun e w' => e = .returned (.bool false) ∧ Below w.heap.size w w' := by
  go_enter Try.func25, Try.ntmps25
  go_wp2
  go_ret
  exact ⟨rfl, (Below.refl _ _).alloc (Nat.le_refl _) _⟩

theorem hasP_out {p : Nat → Bool} {i : Int} (h : i < 0 ∨ 255 < i) : hasP p i = false := by
  unfold hasP; rw [decide_eq_false (by omega)]; rfl

theorem rhas_any (p : Nat → Bool) (i : Int) (w : World) :
    Calls Try.prog 25 #[.agg #[.int .u64 (wd p 0), .int .u64 (wd p 1), .int .u64 (wd p 2), .int .u64 (wd p 3)], .int .i64 i] w fun e w' => e = .returned (.bool (hasP p i)) ∧ Below w.heap.size w w' := by
  rcases (show i < 0 ∨ (0 ≤ i ∧ 255 < i) ∨ (0 ≤ i ∧ i ≤ 255) by omega) with h | ⟨h0, h⟩ | ⟨h0, h1⟩
  · rw [hasP_out (.inl h)]; exact rhas_low _ _ _ _ i h w
  · rw [hasP_out (.inr h)]; exact rhas_high _ _ _ _ i h0 h w
  · obtain ⟨j, hj⟩ : ∃ j : Nat, i % 64 = j := ⟨(i % 64).toNat, by omega⟩
    have hj' : j < 64 := by omega
    rcases (show i / 64 = 0 ∨ i / 64 = 1 ∨ i / 64 = 2 ∨ i / 64 = 3 by omega) with g | g | g | g
    · rw [hasP_at (k := 0) h0 h1 g hj]; exact rhas_0 _ _ _ _ i h0 h1 g j hj' hj (wd_lt p 0) w
    · rw [hasP_at (k := 1) h0 h1 g hj]; exact rhas_1 _ _ _ _ i h0 h1 g j hj' hj (wd_lt p 1) w
    · rw [hasP_at (k := 2) h0 h1 g hj]; exact rhas_2 _ _ _ _ i h0 h1 g j hj' hj (wd_lt p 2) w
    · rw [hasP_at (k := 3) h0 h1 g hj]; exact rhas_3 _ _ _ _ i h0 h1 g j hj' hj (wd_lt p 3) w

end Go.Proofs.Ytfifgojbihdhcaa

/-
  The walks over the document's own answers: one number put in, taken out.
-/
namespace Go.Proofs.Ytfifgojbihdhcaa
open Go.RowKit

theorem set4_results {w : World} {b y0 y1 y2 y3 : Nat} (h : Four w b y0 y1 y2 y3) (x0 x1 x2 x3 : Nat) :
    ((((w.setCell ⟨b, 0, none⟩ (.int .u64 x0)).setCell ⟨b, 1, none⟩ (.int .u64 x1)).setCell ⟨b, 2, none⟩ (.int .u64 x2)).setCell ⟨b, 3, none⟩ (.int .u64 x3)).cell? ⟨b, 0, none⟩ = some (.int .u64 x0) ∧
    ((((w.setCell ⟨b, 0, none⟩ (.int .u64 x0)).setCell ⟨b, 1, none⟩ (.int .u64 x1)).setCell ⟨b, 2, none⟩ (.int .u64 x2)).setCell ⟨b, 3, none⟩ (.int .u64 x3)).cell? ⟨b, 1, none⟩ = some (.int .u64 x1) ∧
    ((((w.setCell ⟨b, 0, none⟩ (.int .u64 x0)).setCell ⟨b, 1, none⟩ (.int .u64 x1)).setCell ⟨b, 2, none⟩ (.int .u64 x2)).setCell ⟨b, 3, none⟩ (.int .u64 x3)).cell? ⟨b, 2, none⟩ = some (.int .u64 x2) ∧
    ((((w.setCell ⟨b, 0, none⟩ (.int .u64 x0)).setCell ⟨b, 1, none⟩ (.int .u64 x1)).setCell ⟨b, 2, none⟩ (.int .u64 x2)).setCell ⟨b, 3, none⟩ (.int .u64 x3)).cell? ⟨b, 3, none⟩ = some (.int .u64 x3) := by
  obtain ⟨s0, s1, s2, s3, _, _, _, _⟩ := h.set4 x0 x1 x2 x3
  unfold set4 at s0 s1 s2 s3
  exact ⟨s0, s1, s2, s3⟩

set_option maxHeartbeats 2000000 in
theorem rwith_low (x0 x1 x2 x3 : Nat) (i : Int) (h : i < 0) (w : World)
    (C : Hid (∀ w, Calls Try.prog 25 #[.agg #[.int .u64 x0, .int .u64 x1, .int .u64 x2, .int .u64 x3], .int .i64 i] w fun e w' => e = .returned (.bool false) ∧ Below w.heap.size w w')) :
    Calls Try.prog 33 #[.agg #[.int .u64 x0, .int .u64 x1, .int .u64 x2, .int .u64 x3], .int .i64 i] w fun e w' => e = .returned (.agg #[.int .u64 x0, .int .u64 x1, .int .u64 x2, .int .u64 x3]) ∧ Below w.heap.size w w' := by
  have FA := Lib.hid ((Four.new w x0 x1 x2 x3 37).alloc (.cells #[.int .u64 0, .int .u64 0, .int .u64 0, .int .u64 0] 37))
  have FZ := Four.new (w.alloc (.cells #[.int .u64 x0, .int .u64 x1, .int .u64 x2, .int .u64 x3] 37)) 0 0 0 0 37
  rw [World.size_alloc] at FZ
  have FZ := Lib.hid FZ
  have HB := Lib.hid (((Below.refl w.heap.size w).alloc (Nat.le_refl _) (.cells #[.int .u64 x0, .int .u64 x1, .int .u64 x2, .int .u64 x3] 37)).alloc (by simp) (.cells #[.int .u64 0, .int .u64 0, .int .u64 0, .int .u64 0] 37))
  go_enter Try.func33, Try.ntmps33
  go_wp2_with (go_at_call 25; (refine (C.out _).mono ?_); rintro e w1 ⟨rfl, hw1⟩; have FA1 := Lib.hid (FA.out.kept hw1); have FZ1 := Lib.hid (FZ.out.kept hw1); have HB1 := Lib.hid (below_next hw1 HB.out (Nat.le_refl _)); obtain ⟨a0, a1, a2, a3, c0, c1, c2, c3⟩ := FA1.out; obtain ⟨z0, z1, z2, z3, v0, v1, v2, v3⟩ := FZ1.out; clear hw1)
  refine bodyPost_ret (v := .agg #[.int .u64 x0, .int .u64 x1, .int .u64 x2, .int .u64 x3]) ?_ rfl ⟨rfl, below_set4 HB1.out (by simp) x0 x1 x2 x3⟩
  obtain ⟨s0, s1, s2, s3⟩ := set4_results FZ1.out x0 x1 x2 x3
  simp [results, Try.results33, go_sem, s0, s1, s2, s3]

set_option maxHeartbeats 2000000 in
theorem rwith_high (x0 x1 x2 x3 : Nat) (i : Int) (h0 : 0 ≤ i) (h : 255 < i) (w : World)
    (C : Hid (∀ w, Calls Try.prog 25 #[.agg #[.int .u64 x0, .int .u64 x1, .int .u64 x2, .int .u64 x3], .int .i64 i] w fun e w' => e = .returned (.bool false) ∧ Below w.heap.size w w')) :
    Calls Try.prog 33 #[.agg #[.int .u64 x0, .int .u64 x1, .int .u64 x2, .int .u64 x3], .int .i64 i] w fun e w' => e = .returned (.agg #[.int .u64 x0, .int .u64 x1, .int .u64 x2, .int .u64 x3]) ∧ Below w.heap.size w w' := by
  have FA := Lib.hid ((Four.new w x0 x1 x2 x3 37).alloc (.cells #[.int .u64 0, .int .u64 0, .int .u64 0, .int .u64 0] 37))
  have FZ := Four.new (w.alloc (.cells #[.int .u64 x0, .int .u64 x1, .int .u64 x2, .int .u64 x3] 37)) 0 0 0 0 37
  rw [World.size_alloc] at FZ
  have FZ := Lib.hid FZ
  have HB := Lib.hid (((Below.refl w.heap.size w).alloc (Nat.le_refl _) (.cells #[.int .u64 x0, .int .u64 x1, .int .u64 x2, .int .u64 x3] 37)).alloc (by simp) (.cells #[.int .u64 0, .int .u64 0, .int .u64 0, .int .u64 0] 37))
  go_enter Try.func33, Try.ntmps33
  go_wp2_with (go_at_call 25; (refine (C.out _).mono ?_); rintro e w1 ⟨rfl, hw1⟩; have FA1 := Lib.hid (FA.out.kept hw1); have FZ1 := Lib.hid (FZ.out.kept hw1); have HB1 := Lib.hid (below_next hw1 HB.out (Nat.le_refl _)); obtain ⟨a0, a1, a2, a3, c0, c1, c2, c3⟩ := FA1.out; obtain ⟨z0, z1, z2, z3, v0, v1, v2, v3⟩ := FZ1.out; clear hw1)
  refine bodyPost_ret (v := .agg #[.int .u64 x0, .int .u64 x1, .int .u64 x2, .int .u64 x3]) ?_ rfl ⟨rfl, below_set4 HB1.out (by simp) x0 x1 x2 x3⟩
  obtain ⟨s0, s1, s2, s3⟩ := set4_results FZ1.out x0 x1 x2 x3
  simp [results, Try.results33, go_sem, s0, s1, s2, s3]

set_option maxHeartbeats 2000000 in
theorem rwith_same (x0 x1 x2 x3 : Nat) (i : Int) (h0 : 0 ≤ i) (h : i ≤ 255) (w : World)
    (C : Hid (∀ w, Calls Try.prog 25 #[.agg #[.int .u64 x0, .int .u64 x1, .int .u64 x2, .int .u64 x3], .int .i64 i] w fun e w' => e = .returned (.bool true) ∧ Below w.heap.size w w')) :
    Calls Try.prog 33 #[.agg #[.int .u64 x0, .int .u64 x1, .int .u64 x2, .int .u64 x3], .int .i64 i] w fun e w' => e = .returned (.agg #[.int .u64 x0, .int .u64 x1, .int .u64 x2, .int .u64 x3]) ∧ Below w.heap.size w w' := by
  have FA := Lib.hid ((Four.new w x0 x1 x2 x3 37).alloc (.cells #[.int .u64 0, .int .u64 0, .int .u64 0, .int .u64 0] 37))
  have FZ := Four.new (w.alloc (.cells #[.int .u64 x0, .int .u64 x1, .int .u64 x2, .int .u64 x3] 37)) 0 0 0 0 37
  rw [World.size_alloc] at FZ
  have FZ := Lib.hid FZ
  have HB := Lib.hid (((Below.refl w.heap.size w).alloc (Nat.le_refl _) (.cells #[.int .u64 x0, .int .u64 x1, .int .u64 x2, .int .u64 x3] 37)).alloc (by simp) (.cells #[.int .u64 0, .int .u64 0, .int .u64 0, .int .u64 0] 37))
  go_enter Try.func33, Try.ntmps33
  go_wp2_with (go_at_call 25; (refine (C.out _).mono ?_); rintro e w1 ⟨rfl, hw1⟩; have FA1 := Lib.hid (FA.out.kept hw1); have FZ1 := Lib.hid (FZ.out.kept hw1); have HB1 := Lib.hid (below_next hw1 HB.out (Nat.le_refl _)); obtain ⟨a0, a1, a2, a3, c0, c1, c2, c3⟩ := FA1.out; obtain ⟨z0, z1, z2, z3, v0, v1, v2, v3⟩ := FZ1.out; clear hw1)
  refine bodyPost_ret (v := .agg #[.int .u64 x0, .int .u64 x1, .int .u64 x2, .int .u64 x3]) ?_ rfl ⟨rfl, below_set4 HB1.out (by simp) x0 x1 x2 x3⟩
  obtain ⟨s0, s1, s2, s3⟩ := set4_results FZ1.out x0 x1 x2 x3
  simp [results, Try.results33, go_sem, s0, s1, s2, s3]

set_option maxHeartbeats 2000000 in
theorem rwith_0 (x0 x1 x2 x3 : Nat) (i : Int) (_h0 : 0 ≤ i) (_h255 : i ≤ 255) (h1 : i / 64 = 0) (j : Nat) (hj : j < 64) (h2 : i % 64 = j) (y : Nat) (hy : x0 + 2 ^ j = y) (hl : y < 18446744073709551616) (w : World)
    (C : Hid (∀ w, Calls Try.prog 25 #[.agg #[.int .u64 x0, .int .u64 x1, .int .u64 x2, .int .u64 x3], .int .i64 i] w fun e w' => e = .returned (.bool false) ∧ Below w.heap.size w w')) :
    Calls Try.prog 33 #[.agg #[.int .u64 x0, .int .u64 x1, .int .u64 x2, .int .u64 x3], .int .i64 i] w fun e w' => e = .returned (.agg #[.int .u64 y, .int .u64 x1, .int .u64 x2, .int .u64 x3]) ∧ Below w.heap.size w w' := by
  have FA := Lib.hid ((Four.new w x0 x1 x2 x3 37).alloc (.cells #[.int .u64 0, .int .u64 0, .int .u64 0, .int .u64 0] 37))
  have FZ := Four.new (w.alloc (.cells #[.int .u64 x0, .int .u64 x1, .int .u64 x2, .int .u64 x3] 37)) 0 0 0 0 37
  rw [World.size_alloc] at FZ
  have FZ := Lib.hid FZ
  have HB := Lib.hid (((Below.refl w.heap.size w).alloc (Nat.le_refl _) (.cells #[.int .u64 x0, .int .u64 x1, .int .u64 x2, .int .u64 x3] 37)).alloc (by simp) (.cells #[.int .u64 0, .int .u64 0, .int .u64 0, .int .u64 0] 37))
  have hs : IntKind.u64.wrap ((x0 : Int) + ((2 ^ j : Nat) : Int)) = (y : Int) := by rw [← Int.natCast_add, hy]; exact u64_nat y hl
  have pw := pow_wrap hj
  clear hl hy
  generalize (2 : Nat) ^ j = z at pw hs
  go_enter Try.func33, Try.ntmps33
  go_wp2_with (go_at_call 25; (refine (C.out _).mono ?_); rintro e w1 ⟨rfl, hw1⟩; have FA1 := Lib.hid (FA.out.kept hw1); have FZ1 := Lib.hid (FZ.out.kept hw1); have HB1 := Lib.hid (below_next hw1 HB.out (Nat.le_refl _)); obtain ⟨a0, a1, a2, a3, c0, c1, c2, c3⟩ := FA1.out; obtain ⟨z0, z1, z2, z3, v0, v1, v2, v3⟩ := FZ1.out; clear hw1)
  refine bodyPost_ret (v := .agg #[.int .u64 y, .int .u64 x1, .int .u64 x2, .int .u64 x3]) ?_ rfl ⟨rfl, below_set4 (HB1.out.setCell (p := ⟨w.heap.size, 0, none⟩) (Nat.le_refl _) _) (by simp) y x1 x2 x3⟩
  obtain ⟨s0, s1, s2, s3⟩ := set4_results (FZ1.out.far (p := ⟨w.heap.size, 0, none⟩) (by simp) (.int .u64 y)) y x1 x2 x3
  simp [results, Try.results33, go_sem, s0, s1, s2, s3]

set_option maxHeartbeats 2000000 in
theorem rwith_1 (x0 x1 x2 x3 : Nat) (i : Int) (_h0 : 0 ≤ i) (_h255 : i ≤ 255) (h1 : i / 64 = 1) (j : Nat) (hj : j < 64) (h2 : i % 64 = j) (y : Nat) (hy : x1 + 2 ^ j = y) (hl : y < 18446744073709551616) (w : World)
    (C : Hid (∀ w, Calls Try.prog 25 #[.agg #[.int .u64 x0, .int .u64 x1, .int .u64 x2, .int .u64 x3], .int .i64 i] w fun e w' => e = .returned (.bool false) ∧ Below w.heap.size w w')) :
    Calls Try.prog 33 #[.agg #[.int .u64 x0, .int .u64 x1, .int .u64 x2, .int .u64 x3], .int .i64 i] w fun e w' => e = .returned (.agg #[.int .u64 x0, .int .u64 y, .int .u64 x2, .int .u64 x3]) ∧ Below w.heap.size w w' := by
  have FA := Lib.hid ((Four.new w x0 x1 x2 x3 37).alloc (.cells #[.int .u64 0, .int .u64 0, .int .u64 0, .int .u64 0] 37))
  have FZ := Four.new (w.alloc (.cells #[.int .u64 x0, .int .u64 x1, .int .u64 x2, .int .u64 x3] 37)) 0 0 0 0 37
  rw [World.size_alloc] at FZ
  have FZ := Lib.hid FZ
  have HB := Lib.hid (((Below.refl w.heap.size w).alloc (Nat.le_refl _) (.cells #[.int .u64 x0, .int .u64 x1, .int .u64 x2, .int .u64 x3] 37)).alloc (by simp) (.cells #[.int .u64 0, .int .u64 0, .int .u64 0, .int .u64 0] 37))
  have hs : IntKind.u64.wrap ((x1 : Int) + ((2 ^ j : Nat) : Int)) = (y : Int) := by rw [← Int.natCast_add, hy]; exact u64_nat y hl
  have pw := pow_wrap hj
  clear hl hy
  generalize (2 : Nat) ^ j = z at pw hs
  go_enter Try.func33, Try.ntmps33
  go_wp2_with (go_at_call 25; (refine (C.out _).mono ?_); rintro e w1 ⟨rfl, hw1⟩; have FA1 := Lib.hid (FA.out.kept hw1); have FZ1 := Lib.hid (FZ.out.kept hw1); have HB1 := Lib.hid (below_next hw1 HB.out (Nat.le_refl _)); obtain ⟨a0, a1, a2, a3, c0, c1, c2, c3⟩ := FA1.out; obtain ⟨z0, z1, z2, z3, v0, v1, v2, v3⟩ := FZ1.out; clear hw1)
  refine bodyPost_ret (v := .agg #[.int .u64 x0, .int .u64 y, .int .u64 x2, .int .u64 x3]) ?_ rfl ⟨rfl, below_set4 (HB1.out.setCell (p := ⟨w.heap.size, 1, none⟩) (Nat.le_refl _) _) (by simp) x0 y x2 x3⟩
  obtain ⟨s0, s1, s2, s3⟩ := set4_results (FZ1.out.far (p := ⟨w.heap.size, 1, none⟩) (by simp) (.int .u64 y)) x0 y x2 x3
  simp [results, Try.results33, go_sem, s0, s1, s2, s3]

set_option maxHeartbeats 2000000 in
theorem rwith_2 (x0 x1 x2 x3 : Nat) (i : Int) (_h0 : 0 ≤ i) (_h255 : i ≤ 255) (h1 : i / 64 = 2) (j : Nat) (hj : j < 64) (h2 : i % 64 = j) (y : Nat) (hy : x2 + 2 ^ j = y) (hl : y < 18446744073709551616) (w : World)
    (C : Hid (∀ w, Calls Try.prog 25 #[.agg #[.int .u64 x0, .int .u64 x1, .int .u64 x2, .int .u64 x3], .int .i64 i] w fun e w' => e = .returned (.bool false) ∧ Below w.heap.size w w')) :
    Calls Try.prog 33 #[.agg #[.int .u64 x0, .int .u64 x1, .int .u64 x2, .int .u64 x3], .int .i64 i] w fun e w' => e = .returned (.agg #[.int .u64 x0, .int .u64 x1, .int .u64 y, .int .u64 x3]) ∧ Below w.heap.size w w' := by
  have FA := Lib.hid ((Four.new w x0 x1 x2 x3 37).alloc (.cells #[.int .u64 0, .int .u64 0, .int .u64 0, .int .u64 0] 37))
  have FZ := Four.new (w.alloc (.cells #[.int .u64 x0, .int .u64 x1, .int .u64 x2, .int .u64 x3] 37)) 0 0 0 0 37
  rw [World.size_alloc] at FZ
  have FZ := Lib.hid FZ
  have HB := Lib.hid (((Below.refl w.heap.size w).alloc (Nat.le_refl _) (.cells #[.int .u64 x0, .int .u64 x1, .int .u64 x2, .int .u64 x3] 37)).alloc (by simp) (.cells #[.int .u64 0, .int .u64 0, .int .u64 0, .int .u64 0] 37))
  have hs : IntKind.u64.wrap ((x2 : Int) + ((2 ^ j : Nat) : Int)) = (y : Int) := by rw [← Int.natCast_add, hy]; exact u64_nat y hl
  have pw := pow_wrap hj
  clear hl hy
  generalize (2 : Nat) ^ j = z at pw hs
  go_enter Try.func33, Try.ntmps33
  go_wp2_with (go_at_call 25; (refine (C.out _).mono ?_); rintro e w1 ⟨rfl, hw1⟩; have FA1 := Lib.hid (FA.out.kept hw1); have FZ1 := Lib.hid (FZ.out.kept hw1); have HB1 := Lib.hid (below_next hw1 HB.out (Nat.le_refl _)); obtain ⟨a0, a1, a2, a3, c0, c1, c2, c3⟩ := FA1.out; obtain ⟨z0, z1, z2, z3, v0, v1, v2, v3⟩ := FZ1.out; clear hw1)
  refine bodyPost_ret (v := .agg #[.int .u64 x0, .int .u64 x1, .int .u64 y, .int .u64 x3]) ?_ rfl ⟨rfl, below_set4 (HB1.out.setCell (p := ⟨w.heap.size, 2, none⟩) (Nat.le_refl _) _) (by simp) x0 x1 y x3⟩
  obtain ⟨s0, s1, s2, s3⟩ := set4_results (FZ1.out.far (p := ⟨w.heap.size, 2, none⟩) (by simp) (.int .u64 y)) x0 x1 y x3
  simp [results, Try.results33, go_sem, s0, s1, s2, s3]

set_option maxHeartbeats 2000000 in
theorem rwith_3 (x0 x1 x2 x3 : Nat) (i : Int) (_h0 : 0 ≤ i) (_h255 : i ≤ 255) (h1 : i / 64 = 3) (j : Nat) (hj : j < 64) (h2 : i % 64 = j) (y : Nat) (hy : x3 + 2 ^ j = y) (hl : y < 18446744073709551616) (w : World)
    (C : Hid (∀ w, Calls Try.prog 25 #[.agg #[.int .u64 x0, .int .u64 x1, .int .u64 x2, .int .u64 x3], .int .i64 i] w fun e w' => e = .returned (.bool false) ∧ Below w.heap.size w w')) :
    Calls Try.prog 33 #[.agg #[.int .u64 x0, .int .u64 x1, .int .u64 x2, .int .u64 x3], .int .i64 i] w fun e w' => e = .returned (.agg #[.int .u64 x0, .int .u64 x1, .int .u64 x2, .int .u64 y]) ∧ Below w.heap.size w w' := by
  have FA := Lib.hid ((Four.new w x0 x1 x2 x3 37).alloc (.cells #[.int .u64 0, .int .u64 0, .int .u64 0, .int .u64 0] 37))
  have FZ := Four.new (w.alloc (.cells #[.int .u64 x0, .int .u64 x1, .int .u64 x2, .int .u64 x3] 37)) 0 0 0 0 37
  rw [World.size_alloc] at FZ
  have FZ := Lib.hid FZ
  have HB := Lib.hid (((Below.refl w.heap.size w).alloc (Nat.le_refl _) (.cells #[.int .u64 x0, .int .u64 x1, .int .u64 x2, .int .u64 x3] 37)).alloc (by simp) (.cells #[.int .u64 0, .int .u64 0, .int .u64 0, .int .u64 0] 37))
  have hs : IntKind.u64.wrap ((x3 : Int) + ((2 ^ j : Nat) : Int)) = (y : Int) := by rw [← Int.natCast_add, hy]; exact u64_nat y hl
  have pw := pow_wrap hj
  clear hl hy
  generalize (2 : Nat) ^ j = z at pw hs
  go_enter Try.func33, Try.ntmps33
  go_wp2_with (go_at_call 25; (refine (C.out _).mono ?_); rintro e w1 ⟨rfl, hw1⟩; have FA1 := Lib.hid (FA.out.kept hw1); have FZ1 := Lib.hid (FZ.out.kept hw1); have HB1 := Lib.hid (below_next hw1 HB.out (Nat.le_refl _)); obtain ⟨a0, a1, a2, a3, c0, c1, c2, c3⟩ := FA1.out; obtain ⟨z0, z1, z2, z3, v0, v1, v2, v3⟩ := FZ1.out; clear hw1)
  refine bodyPost_ret (v := .agg #[.int .u64 x0, .int .u64 x1, .int .u64 x2, .int .u64 y]) ?_ rfl ⟨rfl, below_set4 (HB1.out.setCell (p := ⟨w.heap.size, 3, none⟩) (Nat.le_refl _) _) (by simp) x0 x1 x2 y⟩
  obtain ⟨s0, s1, s2, s3⟩ := set4_results (FZ1.out.far (p := ⟨w.heap.size, 3, none⟩) (by simp) (.int .u64 y)) x0 x1 x2 y
  simp [results, Try.results33, go_sem, s0, s1, s2, s3]

set_option maxHeartbeats 2000000 in
theorem rwithout_same (x0 x1 x2 x3 : Nat) (i : Int)  (w : World)
    (C : Hid (∀ w, Calls Try.prog 25 #[.agg #[.int .u64 x0, .int .u64 x1, .int .u64 x2, .int .u64 x3], .int .i64 i] w fun e w' => e = .returned (.bool false) ∧ Below w.heap.size w w')) :
    Calls Try.prog 36 #[.agg #[.int .u64 x0, .int .u64 x1, .int .u64 x2, .int .u64 x3], .int .i64 i] w fun e w' => e = .returned (.agg #[.int .u64 x0, .int .u64 x1, .int .u64 x2, .int .u64 x3]) ∧ Below w.heap.size w w' := by
  have FA := Lib.hid ((Four.new w x0 x1 x2 x3 37).alloc (.cells #[.int .u64 0, .int .u64 0, .int .u64 0, .int .u64 0] 37))
  have FZ := Four.new (w.alloc (.cells #[.int .u64 x0, .int .u64 x1, .int .u64 x2, .int .u64 x3] 37)) 0 0 0 0 37
  rw [World.size_alloc] at FZ
  have FZ := Lib.hid FZ
  have HB := Lib.hid (((Below.refl w.heap.size w).alloc (Nat.le_refl _) (.cells #[.int .u64 x0, .int .u64 x1, .int .u64 x2, .int .u64 x3] 37)).alloc (by simp) (.cells #[.int .u64 0, .int .u64 0, .int .u64 0, .int .u64 0] 37))
  go_enter Try.func36, Try.ntmps36
  go_wp2_with (go_at_call 25; (refine (C.out _).mono ?_); rintro e w1 ⟨rfl, hw1⟩; have FA1 := Lib.hid (FA.out.kept hw1); have FZ1 := Lib.hid (FZ.out.kept hw1); have HB1 := Lib.hid (below_next hw1 HB.out (Nat.le_refl _)); obtain ⟨a0, a1, a2, a3, c0, c1, c2, c3⟩ := FA1.out; obtain ⟨z0, z1, z2, z3, v0, v1, v2, v3⟩ := FZ1.out; clear hw1)
  refine bodyPost_ret (v := .agg #[.int .u64 x0, .int .u64 x1, .int .u64 x2, .int .u64 x3]) ?_ rfl ⟨rfl, below_set4 HB1.out (by simp) x0 x1 x2 x3⟩
  obtain ⟨s0, s1, s2, s3⟩ := set4_results FZ1.out x0 x1 x2 x3
  simp [results, Try.results36, go_sem, s0, s1, s2, s3]

set_option maxHeartbeats 2000000 in
theorem rwithout_0 (x0 x1 x2 x3 : Nat) (i : Int) (_h0 : 0 ≤ i) (_h255 : i ≤ 255) (h1 : i / 64 = 0) (j : Nat) (hj : j < 64) (h2 : i % 64 = j) (y : Nat) (hy : x0 = y + 2 ^ j) (hl : y < 18446744073709551616) (w : World)
    (C : Hid (∀ w, Calls Try.prog 25 #[.agg #[.int .u64 x0, .int .u64 x1, .int .u64 x2, .int .u64 x3], .int .i64 i] w fun e w' => e = .returned (.bool true) ∧ Below w.heap.size w w')) :
    Calls Try.prog 36 #[.agg #[.int .u64 x0, .int .u64 x1, .int .u64 x2, .int .u64 x3], .int .i64 i] w fun e w' => e = .returned (.agg #[.int .u64 y, .int .u64 x1, .int .u64 x2, .int .u64 x3]) ∧ Below w.heap.size w w' := by
  have FA := Lib.hid ((Four.new w x0 x1 x2 x3 37).alloc (.cells #[.int .u64 0, .int .u64 0, .int .u64 0, .int .u64 0] 37))
  have FZ := Four.new (w.alloc (.cells #[.int .u64 x0, .int .u64 x1, .int .u64 x2, .int .u64 x3] 37)) 0 0 0 0 37
  rw [World.size_alloc] at FZ
  have FZ := Lib.hid FZ
  have HB := Lib.hid (((Below.refl w.heap.size w).alloc (Nat.le_refl _) (.cells #[.int .u64 x0, .int .u64 x1, .int .u64 x2, .int .u64 x3] 37)).alloc (by simp) (.cells #[.int .u64 0, .int .u64 0, .int .u64 0, .int .u64 0] 37))
  have hs : IntKind.u64.wrap ((x0 : Int) - ((2 ^ j : Nat) : Int)) = (y : Int) := by rw [hy, Int.natCast_add, Int.add_sub_cancel]; exact u64_nat y hl
  have pw := pow_wrap hj
  clear hl hy
  generalize (2 : Nat) ^ j = z at pw hs
  go_enter Try.func36, Try.ntmps36
  go_wp2_with (go_at_call 25; (refine (C.out _).mono ?_); rintro e w1 ⟨rfl, hw1⟩; have FA1 := Lib.hid (FA.out.kept hw1); have FZ1 := Lib.hid (FZ.out.kept hw1); have HB1 := Lib.hid (below_next hw1 HB.out (Nat.le_refl _)); obtain ⟨a0, a1, a2, a3, c0, c1, c2, c3⟩ := FA1.out; obtain ⟨z0, z1, z2, z3, v0, v1, v2, v3⟩ := FZ1.out; clear hw1)
  refine bodyPost_ret (v := .agg #[.int .u64 y, .int .u64 x1, .int .u64 x2, .int .u64 x3]) ?_ rfl ⟨rfl, below_set4 (HB1.out.setCell (p := ⟨w.heap.size, 0, none⟩) (Nat.le_refl _) _) (by simp) y x1 x2 x3⟩
  obtain ⟨s0, s1, s2, s3⟩ := set4_results (FZ1.out.far (p := ⟨w.heap.size, 0, none⟩) (by simp) (.int .u64 y)) y x1 x2 x3
  simp [results, Try.results36, go_sem, s0, s1, s2, s3]

set_option maxHeartbeats 2000000 in
theorem rwithout_1 (x0 x1 x2 x3 : Nat) (i : Int) (_h0 : 0 ≤ i) (_h255 : i ≤ 255) (h1 : i / 64 = 1) (j : Nat) (hj : j < 64) (h2 : i % 64 = j) (y : Nat) (hy : x1 = y + 2 ^ j) (hl : y < 18446744073709551616) (w : World)
    (C : Hid (∀ w, Calls Try.prog 25 #[.agg #[.int .u64 x0, .int .u64 x1, .int .u64 x2, .int .u64 x3], .int .i64 i] w fun e w' => e = .returned (.bool true) ∧ Below w.heap.size w w')) :
    Calls Try.prog 36 #[.agg #[.int .u64 x0, .int .u64 x1, .int .u64 x2, .int .u64 x3], .int .i64 i] w fun e w' => e = .returned (.agg #[.int .u64 x0, .int .u64 y, .int .u64 x2, .int .u64 x3]) ∧ Below w.heap.size w w' := by
  have FA := Lib.hid ((Four.new w x0 x1 x2 x3 37).alloc (.cells #[.int .u64 0, .int .u64 0, .int .u64 0, .int .u64 0] 37))
  have FZ := Four.new (w.alloc (.cells #[.int .u64 x0, .int .u64 x1, .int .u64 x2, .int .u64 x3] 37)) 0 0 0 0 37
  rw [World.size_alloc] at FZ
  have FZ := Lib.hid FZ
  have HB := Lib.hid (((Below.refl w.heap.size w).alloc (Nat.le_refl _) (.cells #[.int .u64 x0, .int .u64 x1, .int .u64 x2, .int .u64 x3] 37)).alloc (by simp) (.cells #[.int .u64 0, .int .u64 0, .int .u64 0, .int .u64 0] 37))
  have hs : IntKind.u64.wrap ((x1 : Int) - ((2 ^ j : Nat) : Int)) = (y : Int) := by rw [hy, Int.natCast_add, Int.add_sub_cancel]; exact u64_nat y hl
  have pw := pow_wrap hj
  clear hl hy
  generalize (2 : Nat) ^ j = z at pw hs
  go_enter Try.func36, Try.ntmps36
  go_wp2_with (go_at_call 25; (refine (C.out _).mono ?_); rintro e w1 ⟨rfl, hw1⟩; have FA1 := Lib.hid (FA.out.kept hw1); have FZ1 := Lib.hid (FZ.out.kept hw1); have HB1 := Lib.hid (below_next hw1 HB.out (Nat.le_refl _)); obtain ⟨a0, a1, a2, a3, c0, c1, c2, c3⟩ := FA1.out; obtain ⟨z0, z1, z2, z3, v0, v1, v2, v3⟩ := FZ1.out; clear hw1)
  refine bodyPost_ret (v := .agg #[.int .u64 x0, .int .u64 y, .int .u64 x2, .int .u64 x3]) ?_ rfl ⟨rfl, below_set4 (HB1.out.setCell (p := ⟨w.heap.size, 1, none⟩) (Nat.le_refl _) _) (by simp) x0 y x2 x3⟩
  obtain ⟨s0, s1, s2, s3⟩ := set4_results (FZ1.out.far (p := ⟨w.heap.size, 1, none⟩) (by simp) (.int .u64 y)) x0 y x2 x3
  simp [results, Try.results36, go_sem, s0, s1, s2, s3]

set_option maxHeartbeats 2000000 in
theorem rwithout_2 (x0 x1 x2 x3 : Nat) (i : Int) (_h0 : 0 ≤ i) (_h255 : i ≤ 255) (h1 : i / 64 = 2) (j : Nat) (hj : j < 64) (h2 : i % 64 = j) (y : Nat) (hy : x2 = y + 2 ^ j) (hl : y < 18446744073709551616) (w : World)
    (C : Hid (∀ w, Calls Try.prog 25 #[.agg #[.int .u64 x0, .int .u64 x1, .int .u64 x2, .int .u64 x3], .int .i64 i] w fun e w' => e = .returned (.bool true) ∧ Below w.heap.size w w')) :
    Calls Try.prog 36 #[.agg #[.int .u64 x0, .int .u64 x1, .int .u64 x2, .int .u64 x3], .int .i64 i] w fun e w' => e = .returned (.agg #[.int .u64 x0, .int .u64 x1, .int .u64 y, .int .u64 x3]) ∧ Below w.heap.size w w' := by
  have FA := Lib.hid ((Four.new w x0 x1 x2 x3 37).alloc (.cells #[.int .u64 0, .int .u64 0, .int .u64 0, .int .u64 0] 37))
  have FZ := Four.new (w.alloc (.cells #[.int .u64 x0, .int .u64 x1, .int .u64 x2, .int .u64 x3] 37)) 0 0 0 0 37
  rw [World.size_alloc] at FZ
  have FZ := Lib.hid FZ
  have HB := Lib.hid (((Below.refl w.heap.size w).alloc (Nat.le_refl _) (.cells #[.int .u64 x0, .int .u64 x1, .int .u64 x2, .int .u64 x3] 37)).alloc (by simp) (.cells #[.int .u64 0, .int .u64 0, .int .u64 0, .int .u64 0] 37))
  have hs : IntKind.u64.wrap ((x2 : Int) - ((2 ^ j : Nat) : Int)) = (y : Int) := by rw [hy, Int.natCast_add, Int.add_sub_cancel]; exact u64_nat y hl
  have pw := pow_wrap hj
  clear hl hy
  generalize (2 : Nat) ^ j = z at pw hs
  go_enter Try.func36, Try.ntmps36
  go_wp2_with (go_at_call 25; (refine (C.out _).mono ?_); rintro e w1 ⟨rfl, hw1⟩; have FA1 := Lib.hid (FA.out.kept hw1); have FZ1 := Lib.hid (FZ.out.kept hw1); have HB1 := Lib.hid (below_next hw1 HB.out (Nat.le_refl _)); obtain ⟨a0, a1, a2, a3, c0, c1, c2, c3⟩ := FA1.out; obtain ⟨z0, z1, z2, z3, v0, v1, v2, v3⟩ := FZ1.out; clear hw1)
  refine bodyPost_ret (v := .agg #[.int .u64 x0, .int .u64 x1, .int .u64 y, .int .u64 x3]) ?_ rfl ⟨rfl, below_set4 (HB1.out.setCell (p := ⟨w.heap.size, 2, none⟩) (Nat.le_refl _) _) (by simp) x0 x1 y x3⟩
  obtain ⟨s0, s1, s2, s3⟩ := set4_results (FZ1.out.far (p := ⟨w.heap.size, 2, none⟩) (by simp) (.int .u64 y)) x0 x1 y x3
  simp [results, Try.results36, go_sem, s0, s1, s2, s3]

set_option maxHeartbeats 2000000 in
theorem rwithout_3 (x0 x1 x2 x3 : Nat) (i : Int) (_h0 : 0 ≤ i) (_h255 : i ≤ 255) (h1 : i / 64 = 3) (j : Nat) (hj : j < 64) (h2 : i % 64 = j) (y : Nat) (hy : x3 = y + 2 ^ j) (hl : y < 18446744073709551616) (w : World)
    (C : Hid (∀ w, Calls Try.prog 25 #[.agg #[.int .u64 x0, .int .u64 x1, .int .u64 x2, .int .u64 x3], .int .i64 i] w fun e w' => e = .returned (.bool true) ∧ Below w.heap.size w w')) :
    Calls Try.prog 36 #[.agg #[.int .u64 x0, .int .u64 x1, .int .u64 x2, .int .u64 x3], .int .i64 i] w fun e w' => e = .returned (.agg #[.int .u64 x0, .int .u64 x1, .int .u64 x2, .int .u64 y]) ∧ Below w.heap.size w w' := by
  have FA := Lib.hid ((Four.new w x0 x1 x2 x3 37).alloc (.cells #[.int .u64 0, .int .u64 0, .int .u64 0, .int .u64 0] 37))
  have FZ := Four.new (w.alloc (.cells #[.int .u64 x0, .int .u64 x1, .int .u64 x2, .int .u64 x3] 37)) 0 0 0 0 37
  rw [World.size_alloc] at FZ
  have FZ := Lib.hid FZ
  have HB := Lib.hid (((Below.refl w.heap.size w).alloc (Nat.le_refl _) (.cells #[.int .u64 x0, .int .u64 x1, .int .u64 x2, .int .u64 x3] 37)).alloc (by simp) (.cells #[.int .u64 0, .int .u64 0, .int .u64 0, .int .u64 0] 37))
  have hs : IntKind.u64.wrap ((x3 : Int) - ((2 ^ j : Nat) : Int)) = (y : Int) := by rw [hy, Int.natCast_add, Int.add_sub_cancel]; exact u64_nat y hl
  have pw := pow_wrap hj
  clear hl hy
  generalize (2 : Nat) ^ j = z at pw hs
  go_enter Try.func36, Try.ntmps36
  go_wp2_with (go_at_call 25; (refine (C.out _).mono ?_); rintro e w1 ⟨rfl, hw1⟩; have FA1 := Lib.hid (FA.out.kept hw1); have FZ1 := Lib.hid (FZ.out.kept hw1); have HB1 := Lib.hid (below_next hw1 HB.out (Nat.le_refl _)); obtain ⟨a0, a1, a2, a3, c0, c1, c2, c3⟩ := FA1.out; obtain ⟨z0, z1, z2, z3, v0, v1, v2, v3⟩ := FZ1.out; clear hw1)
  refine bodyPost_ret (v := .agg #[.int .u64 x0, .int .u64 x1, .int .u64 x2, .int .u64 y]) ?_ rfl ⟨rfl, below_set4 (HB1.out.setCell (p := ⟨w.heap.size, 3, none⟩) (Nat.le_refl _) _) (by simp) x0 x1 x2 y⟩
  obtain ⟨s0, s1, s2, s3⟩ := set4_results (FZ1.out.far (p := ⟨w.heap.size, 3, none⟩) (by simp) (.int .u64 y)) x0 x1 x2 y
  simp [results, Try.results36, go_sem, s0, s1, s2, s3]

theorem with_no {p : Nat → Bool} {i : Int} (h : hasP p i = true ∨ i < 0 ∨ 255 < i) {k : Nat} (hk : k < 4) : wd (orP p (oneP i)) k = wd p k :=
  wd_congr (fun x hx => by
    unfold orP oneP
    by_cases e : (x : Int) = i
    · subst e
      rcases h with h | h | h
      · have : p x = true := by simpa [hasP, show (x : Int) ≤ 255 by omega] using h
        simp [this]
      · omega
      · omega
    · simp [e]) hk
theorem with_yes {p : Nat → Bool} {i : Int} {k j : Nat} (hi : i = ((64 * k + j : Nat) : Int)) (hj : j < 64) (hk : k < 4) (h : hasP p i = false) :
    wd p k + 2 ^ j = wd (orP p (oneP i)) k ∧ ∀ k', k' ≠ k → wd (orP p (oneP i)) k' = wd p k' := by
  refine ⟨?_, fun k' hk' => wd_or_far fun j' hj' => by omega⟩
  have h3 : p (64 * k + j) = false := by
    have := h
    unfold hasP at this
    rw [decide_eq_true (⟨by omega, by omega⟩ : 0 ≤ i ∧ i ≤ 255), Bool.true_and] at this
    rw [show 64 * k + j = i.toNat by omega]; exact this
  rw [hi]; exact wd_put hj h3

theorem rwith_any (p : Nat → Bool) (i : Int) (w : World) :
    Calls Try.prog 33 #[.agg #[.int .u64 (wd p 0), .int .u64 (wd p 1), .int .u64 (wd p 2), .int .u64 (wd p 3)], .int .i64 i] w fun e w' => e = .returned (.agg #[.int .u64 (wd (orP p (oneP i)) 0), .int .u64 (wd (orP p (oneP i)) 1), .int .u64 (wd (orP p (oneP i)) 2), .int .u64 (wd (orP p (oneP i)) 3)]) ∧ Below w.heap.size w w' := by
  have C := Lib.hid (fun w => rhas_any p i w)
  rcases (show i < 0 ∨ (0 ≤ i ∧ 255 < i) ∨ (0 ≤ i ∧ i ≤ 255) by omega) with h | ⟨h0, h⟩ | ⟨h0, h1⟩
  · rw [hasP_out (.inl h)] at C
    rw [with_no (.inr (.inl h)) (k := 0) (by omega), with_no (.inr (.inl h)) (k := 1) (by omega), with_no (.inr (.inl h)) (k := 2) (by omega), with_no (.inr (.inl h)) (k := 3) (by omega)]
    exact rwith_low _ _ _ _ i h w C
  · rw [hasP_out (.inr h)] at C
    rw [with_no (.inr (.inr h)) (k := 0) (by omega), with_no (.inr (.inr h)) (k := 1) (by omega), with_no (.inr (.inr h)) (k := 2) (by omega), with_no (.inr (.inr h)) (k := 3) (by omega)]
    exact rwith_high _ _ _ _ i h0 h w C
  · cases hp : hasP p i with
    | true =>
      rw [hp] at C
      rw [with_no (.inl hp) (k := 0) (by omega), with_no (.inl hp) (k := 1) (by omega), with_no (.inl hp) (k := 2) (by omega), with_no (.inl hp) (k := 3) (by omega)]
      exact rwith_same _ _ _ _ i h0 h1 w C
    | false =>
      rw [hp] at C
      obtain ⟨j, hj⟩ : ∃ j : Nat, i % 64 = j := ⟨(i % 64).toNat, by omega⟩
      have hj' : j < 64 := by omega
      rcases (show i / 64 = 0 ∨ i / 64 = 1 ∨ i / 64 = 2 ∨ i / 64 = 3 by omega) with g | g | g | g
      · obtain ⟨e, f⟩ := with_yes (k := 0) (j := j) (by omega) hj' (by omega) hp
        rw [f 1 (by omega), f 2 (by omega), f 3 (by omega)]
        exact rwith_0 _ _ _ _ i h0 h1 g j hj' hj _ e (wd_lt _ _) w C
      · obtain ⟨e, f⟩ := with_yes (k := 1) (j := j) (by omega) hj' (by omega) hp
        rw [f 0 (by omega), f 2 (by omega), f 3 (by omega)]
        exact rwith_1 _ _ _ _ i h0 h1 g j hj' hj _ e (wd_lt _ _) w C
      · obtain ⟨e, f⟩ := with_yes (k := 2) (j := j) (by omega) hj' (by omega) hp
        rw [f 0 (by omega), f 1 (by omega), f 3 (by omega)]
        exact rwith_2 _ _ _ _ i h0 h1 g j hj' hj _ e (wd_lt _ _) w C
      · obtain ⟨e, f⟩ := with_yes (k := 3) (j := j) (by omega) hj' (by omega) hp
        rw [f 0 (by omega), f 1 (by omega), f 2 (by omega)]
        exact rwith_3 _ _ _ _ i h0 h1 g j hj' hj _ e (wd_lt _ _) w C

theorem rwithout_any (p : Nat → Bool) (i : Int) (w : World) :
    Calls Try.prog 36 #[.agg #[.int .u64 (wd p 0), .int .u64 (wd p 1), .int .u64 (wd p 2), .int .u64 (wd p 3)], .int .i64 i] w fun e w' => e = .returned (.agg #[.int .u64 (wd (minusP p (oneP i)) 0), .int .u64 (wd (minusP p (oneP i)) 1), .int .u64 (wd (minusP p (oneP i)) 2), .int .u64 (wd (minusP p (oneP i)) 3)]) ∧ Below w.heap.size w w' := by
  have C := Lib.hid (fun w => rhas_any p i w)
  cases hp : hasP p i with
  | false =>
    rw [hp] at C
    rw [has_no hp (k := 0) (by omega), has_no hp (k := 1) (by omega), has_no hp (k := 2) (by omega), has_no hp (k := 3) (by omega)]
    exact rwithout_same _ _ _ _ i w C
  | true =>
    rw [hp] at C
    obtain ⟨k, j, hk, hj, hi, e, f⟩ := has_yes hp
    rcases (show k = 0 ∨ k = 1 ∨ k = 2 ∨ k = 3 by omega) with rfl | rfl | rfl | rfl
    · rw [f 1 (by omega), f 2 (by omega), f 3 (by omega)]
      exact rwithout_0 _ _ _ _ i (by omega) (by omega) (by omega) j hj (by omega) _ e (wd_lt _ _) w C
    · rw [f 0 (by omega), f 2 (by omega), f 3 (by omega)]
      exact rwithout_1 _ _ _ _ i (by omega) (by omega) (by omega) j hj (by omega) _ e (wd_lt _ _) w C
    · rw [f 0 (by omega), f 1 (by omega), f 3 (by omega)]
      exact rwithout_2 _ _ _ _ i (by omega) (by omega) (by omega) j hj (by omega) _ e (wd_lt _ _) w C
    · rw [f 0 (by omega), f 1 (by omega), f 2 (by omega)]
      exact rwithout_3 _ _ _ _ i (by omega) (by omega) (by omega) j hj (by omega) _ e (wd_lt _ _) w C

end Go.Proofs.Ytfifgojbihdhcaa

/-
  The walks over the document's own answers: what is in both sets, in the first one alone; the set of a row.
-/
namespace Go.Proofs.Ytfifgojbihdhcaa
open Go.RowKit

/-- What is left when the first n have been looked at. -/
def andC (p q : Nat → Bool) (n : Nat) (x : Nat) : Bool := p x && (decide (n ≤ x) || q x)
def minusC (p q : Nat → Bool) (n : Nat) (x : Nat) : Bool := p x && !(decide (x < n) && q x)

theorem hasP_nat {p : Nat → Bool} {n : Nat} (h : n < 256) : hasP p (n : Int) = p n := by
  unfold hasP; rw [decide_eq_true (⟨by omega, by omega⟩ : (0 : Int) ≤ n ∧ (n : Int) ≤ 255)]; simp

theorem andC_start (p q : Nat → Bool) (k : Nat) : wd (andC p q 0) k = wd p k := natOf_congr fun j _ => by simp [andC]
theorem minusC_start (p q : Nat → Bool) (k : Nat) : wd (minusC p q 0) k = wd p k := natOf_congr fun j _ => by simp [minusC]
theorem andC_end (p q : Nat → Bool) {k : Nat} (hk : k < 4) : wd (andC p q 256) k = wd (andP p q) k := wd_congr (fun x hx => by simp [andC, andP, show ¬ 256 ≤ x by omega]) hk
theorem minusC_end (p q : Nat → Bool) {k : Nat} (hk : k < 4) : wd (minusC p q 256) k = wd (minusP p q) k := wd_congr (fun x hx => by simp [minusC, minusP, hx]) hk
theorem andC_drop (p q : Nat → Bool) {n : Nat} (h : q n = false) (k : Nat) : wd (minusP (andC p q n) (oneP n)) k = wd (andC p q (n + 1)) k := natOf_congr fun j _ => by
  unfold andC minusP oneP
  rcases Nat.lt_trichotomy (64 * k + j) n with g | g | g
  · rw [decide_eq_false (show ¬ ((64 * k + j : Nat) : Int) = (n : Int) by omega)]; simp [show ¬ n ≤ 64 * k + j by omega, show ¬ n + 1 ≤ 64 * k + j by omega]
  · rw [g]; simp [h]
  · rw [decide_eq_false (show ¬ ((64 * k + j : Nat) : Int) = (n : Int) by omega)]; simp [show n ≤ 64 * k + j by omega, show n + 1 ≤ 64 * k + j by omega]
theorem andC_keep (p q : Nat → Bool) {n : Nat} (h : q n = true) (k : Nat) : wd (andC p q n) k = wd (andC p q (n + 1)) k := natOf_congr fun j _ => by
  unfold andC
  rcases Nat.lt_trichotomy (64 * k + j) n with g | g | g
  · simp [show ¬ n ≤ 64 * k + j by omega, show ¬ n + 1 ≤ 64 * k + j by omega]
  · rw [g]; simp [h]
  · simp [show n ≤ 64 * k + j by omega, show n + 1 ≤ 64 * k + j by omega]
theorem minusC_drop (p q : Nat → Bool) {n : Nat} (h : q n = true) (k : Nat) : wd (minusP (minusC p q n) (oneP n)) k = wd (minusC p q (n + 1)) k := natOf_congr fun j _ => by
  unfold minusC minusP oneP
  rcases Nat.lt_trichotomy (64 * k + j) n with g | g | g
  · rw [decide_eq_false (show ¬ ((64 * k + j : Nat) : Int) = (n : Int) by omega)]; simp [show 64 * k + j < n by omega, show 64 * k + j < n + 1 by omega]
  · rw [g]; simp [h]
  · rw [decide_eq_false (show ¬ ((64 * k + j : Nat) : Int) = (n : Int) by omega)]; simp [show ¬ 64 * k + j < n by omega, show ¬ 64 * k + j < n + 1 by omega]
theorem minusC_keep (p q : Nat → Bool) {n : Nat} (h : q n = false) (k : Nat) : wd (minusC p q n) k = wd (minusC p q (n + 1)) k := natOf_congr fun j _ => by
  unfold minusC
  rcases Nat.lt_trichotomy (64 * k + j) n with g | g | g
  · simp [show 64 * k + j < n by omega, show 64 * k + j < n + 1 by omega]
  · rw [g]; simp [h]
  · simp [show ¬ 64 * k + j < n by omega, show ¬ 64 * k + j < n + 1 by omega]

structure Loop3 (w wr : World) (x b : Nat → Nat) : Prop where
  x : Four wr w.heap.size (x 0) (x 1) (x 2) (x 3)
  y : Four wr (w.heap.size + 1) (b 0) (b 1) (b 2) (b 3)
  z : Four wr (w.heap.size + 1 + 1) 0 0 0 0
  below : Below w.heap.size w wr

set_option maxRecDepth 100000 in
set_option maxHeartbeats 2000000 in
theorem rand_any (p q : Nat → Bool) (w : World) :
    Calls Try.prog 23 #[.agg #[.int .u64 (wd p 0), .int .u64 (wd p 1), .int .u64 (wd p 2), .int .u64 (wd p 3)], .agg #[.int .u64 (wd q 0), .int .u64 (wd q 1), .int .u64 (wd q 2), .int .u64 (wd q 3)]] w fun e w' => e = .returned (.agg #[.int .u64 (wd (andP p q) 0), .int .u64 (wd (andP p q) 1), .int .u64 (wd (andP p q) 2), .int .u64 (wd (andP p q) 3)]) ∧ Below w.heap.size w w' := by
  have LAST := Lib.hid (And.intro (@andC_end p q 0 (by omega)) (And.intro (@andC_end p q 1 (by omega)) (And.intro (@andC_end p q 2 (by omega)) (@andC_end p q 3 (by omega)))))
  have FIRST := Lib.hid (andC_start p q)
  have H := Lib.hid (fun (n : Nat) (h : n < 256) w => (show Calls Try.prog 25 #[.agg #[.int .u64 (wd q 0), .int .u64 (wd q 1), .int .u64 (wd q 2), .int .u64 (wd q 3)], .int .i64 n] w fun e w' => e = .returned (.bool (q n)) ∧ Below w.heap.size w w' by have := rhas_any q n w; rw [hasP_nat h] at this; exact this))
  have WO := Lib.hid (fun (n : Nat) w => rwithout_any (andC p q n) n w)
  have KEEP := Lib.hid (fun (n : Nat) => @andC_keep p q n)
  have DROP := Lib.hid (fun (n : Nat) => @andC_drop p q n)
  generalize hr : wd (andP p q) = r at LAST ⊢
  clear hr
  generalize wd q = b at H ⊢
  generalize hp : wd p = a at FIRST ⊢
  clear hp
  generalize hc : (fun n => wd (andC p q n)) = c
  have hc' : ∀ n, wd (andC p q n) = c n := fun n => congrFun hc n
  clear hc
  simp only [hc'] at LAST FIRST WO KEEP DROP
  clear hc'
  go_enter Try.func23, Try.ntmps23
  go_wp2
  go_loopw [5] (fun i wr => ∃ k : Nat, k ≤ 256 ∧ i = .int .i64 k ∧ Hid (Loop3 w wr (c k) b)) (fun i _ => (256 - intOf i).toNat)
  case atStart =>
    refine ⟨0, by omega, rfl, ⟨?_, ?_, ?_, ?_⟩⟩
    · rw [FIRST.out, FIRST.out, FIRST.out, FIRST.out]; exact ((Four.new w _ _ _ _ _).alloc _).alloc _
    · simpa using (Four.new (w.alloc _) (b 0) (b 1) (b 2) (b 3) _).alloc _
    · simpa using Four.new ((w.alloc _).alloc _) 0 0 0 0 _
    · exact (((Below.refl _ _).alloc (Nat.le_refl _) _).alloc (by simp) _).alloc (by simp; omega) _
  case round =>
    obtain ⟨k, hk, rfl, HL⟩ := hrel
    have FX := Lib.hid HL.out.x
    have FY := Lib.hid HL.out.y
    have FZ := Lib.hid HL.out.z
    have HB := Lib.hid HL.out.below
    obtain ⟨y0, y1, y2, y3, _, _, _, _⟩ := FY.out
    clear FIRST HL
    by_cases hlt : k < 256
    · have C := Lib.hid (H.out k hlt)
      have D := Lib.hid (WO.out k)
      have KP := Lib.hid (KEEP.out k)
      have DR := Lib.hid (DROP.out k)
      clear H WO KEEP DROP LAST
      cases hq : q k with
      | true =>
        rw [hq] at C
        have e := Lib.hid (KP.out hq)
        clear hq KP DR D
        go_wp2_with (go_at_call 25; (refine (C.out _).mono ?_); rintro e w1 ⟨rfl, hw1⟩; have FX1 := Lib.hid (Four.next hw1 FX.out); have FY1 := Lib.hid (Four.next hw1 FY.out); have FZ1 := Lib.hid (Four.next hw1 FZ.out); have HB1 := Lib.hid (below_next hw1 HB.out (Nat.le_refl _)); clear hw1)
        go_roundw
        case rel => exact ⟨k + 1, by omega, by go_num, ⟨by rw [← e.out, ← e.out, ← e.out, ← e.out]; exact FX1.out, FY1.out, FZ1.out, HB1.out⟩⟩
        case measure => simp [intOf]; omega
      | false =>
        rw [hq] at C
        have e := Lib.hid (DR.out hq)
        clear hq KP DR
        generalize wd (minusP (andC p q k) (oneP k)) = v at D e
        go_wp2_with (first | (go_at_call 25; (refine (C.out _).mono ?_); rintro e w1 ⟨rfl, hw1⟩; have FX1 := Lib.hid (Four.next hw1 FX.out); have FY1 := Lib.hid (Four.next hw1 FY.out); have FZ1 := Lib.hid (Four.next hw1 FZ.out); have HB1 := Lib.hid (below_next hw1 HB.out (Nat.le_refl _)); obtain ⟨x0, x1, x2, x3, _, _, _, _⟩ := FX1.out; clear hw1) | (go_at_call 36; (refine (D.out _).mono ?_); rintro e w2 ⟨rfl, hw2⟩; have FX2 := Lib.hid (Four.next hw2 FX1.out); have FY2 := Lib.hid (Four.next hw2 FY1.out); have FZ2 := Lib.hid (Four.next hw2 FZ1.out); have HB2 := Lib.hid (below_next hw2 HB1.out (Nat.le_refl _)); obtain ⟨s0, s1, s2, s3, t0, t1, t2, t3⟩ := FX2.out; clear hw2))
        go_roundw
        case rel =>
          refine ⟨k + 1, by omega, by go_num, ⟨?_, FY2.out.far4 (by simp) (v 0) (v 1) (v 2) (v 3), FZ2.out.far4 (by omega) (v 0) (v 1) (v 2) (v 3), below_set4 HB2.out (by simp) (v 0) (v 1) (v 2) (v 3)⟩⟩
          rw [← e.out, ← e.out, ← e.out, ← e.out]
          exact FX2.out.set4 (v 0) (v 1) (v 2) (v 3)
        case measure => simp [intOf]; omega
    · obtain rfl : k = 256 := by omega
      obtain ⟨x0, x1, x2, x3, _, _, _, _⟩ := FX.out
      obtain ⟨z0, z1, z2, z3, v0, v1, v2, v3⟩ := FZ.out
      rw [LAST.out.1] at x0
      rw [LAST.out.2.1] at x1
      rw [LAST.out.2.2.1] at x2
      rw [LAST.out.2.2.2] at x3
      go_wp2
      refine bodyPost_ret (v := .agg #[.int .u64 (r 0), .int .u64 (r 1), .int .u64 (r 2), .int .u64 (r 3)]) ?_ rfl ⟨rfl, below_set4 HB.out (by omega) (r 0) (r 1) (r 2) (r 3)⟩
      obtain ⟨s0, s1, s2, s3⟩ := set4_results FZ.out (r 0) (r 1) (r 2) (r 3)
      simp [results, Try.results23, go_sem, s0, s1, s2, s3]
end Go.Proofs.Ytfifgojbihdhcaa

/-
  The walks over the document's own answers: the set of a row, what is in one of two.
-/
namespace Go.Proofs.Ytfifgojbihdhcaa
open Go.RowKit

/-- What has been put in when the first n have been looked at. -/
def orC (p q : Nat → Bool) (n : Nat) (x : Nat) : Bool := p x || (decide (x < n) && q x)
theorem orC_start (p q : Nat → Bool) (k : Nat) : wd (orC p q 0) k = wd p k := natOf_congr fun j _ => by simp [orC]
theorem orC_end (p q : Nat → Bool) {k : Nat} (hk : k < 4) : wd (orC p q 256) k = wd (orP p q) k := wd_congr (fun x hx => by simp [orC, orP, hx]) hk
theorem orC_put (p q : Nat → Bool) {n : Nat} (h : q n = true) (k : Nat) : wd (orP (orC p q n) (oneP n)) k = wd (orC p q (n + 1)) k := natOf_congr fun j _ => by
  unfold orC orP oneP
  rcases Nat.lt_trichotomy (64 * k + j) n with g | g | g
  · rw [decide_eq_false (show ¬ ((64 * k + j : Nat) : Int) = (n : Int) by omega)]; simp [show 64 * k + j < n by omega, show 64 * k + j < n + 1 by omega]
  · rw [g]; simp [h]
  · rw [decide_eq_false (show ¬ ((64 * k + j : Nat) : Int) = (n : Int) by omega)]; simp [show ¬ 64 * k + j < n by omega, show ¬ 64 * k + j < n + 1 by omega]
theorem orC_keep (p q : Nat → Bool) {n : Nat} (h : q n = false) (k : Nat) : wd (orC p q n) k = wd (orC p q (n + 1)) k := natOf_congr fun j _ => by
  unfold orC
  rcases Nat.lt_trichotomy (64 * k + j) n with g | g | g
  · simp [show 64 * k + j < n by omega, show 64 * k + j < n + 1 by omega]
  · rw [g]; simp [h]
  · simp [show ¬ 64 * k + j < n by omega, show ¬ 64 * k + j < n + 1 by omega]

structure Loop2 (w wr : World) (x : Nat → Nat) : Prop where
  x : Four wr (w.heap.size + 1) (x 0) (x 1) (x 2) (x 3)
  z : Four wr w.heap.size 0 0 0 0
  below : Below w.heap.size w wr

set_option maxRecDepth 100000 in
set_option maxHeartbeats 2000000 in
theorem ror_any (l : List (Nat → Bool)) (hl : (l.length : Int) ≤ 1000000) (cap : Nat) (ao : Option Addr) (w : World) (hs : Sets w w.heap.size ao l) :
    Calls Try.prog 24 #[.slice ao l.length cap] w fun e w' => e = .returned (.agg #[.int .u64 (wd (orN l l.length) 0), .int .u64 (wd (orN l l.length) 1), .int .u64 (wd (orN l l.length) 2), .int .u64 (wd (orN l l.length) 3)]) ∧ Below w.heap.size w w' := by
  have HS := Lib.hid hs
  clear hs
  go_enter Try.func24, Try.ntmps24
  go_wp2
  go_loopw [4] (fun i wr => ∃ k : Nat, k ≤ l.length ∧ i = .int .i64 k ∧ Hid (Loop2 w wr (wd (orN l k)))) (fun i _ => (l.length - intOf i).toNat)
  case atStart =>
    refine ⟨0, by omega, rfl, ⟨?_, ?_, ((Below.refl _ _).alloc (Nat.le_refl _) _).alloc (by simp) _⟩⟩
    · have := Four.new (w.alloc (.cells #[.int .u64 0, .int .u64 0, .int .u64 0, .int .u64 0] 37)) 0 0 0 0 37
      simpa [orN, wd_none] using this
    · exact (Four.new w 0 0 0 0 _).alloc _
  case round =>
    obtain ⟨k, hk, rfl, HL⟩ := hrel
    by_cases hlt : k < l.length
    · have NX : Hid (∀ j, j < 4 → wd (orC (orN l k) (l.getD k noneP) 256) j = wd (orN l (k + 1)) j) := fun j hj => orC_end _ _ hj
      have ST : Hid (wd (orN l k) = wd (orC (orN l k) (l.getD k noneP) 0)) := by show _ = _; funext j; rw [orC_start]
      go_wp2
      go_loopw [5] (fun i wi => ∃ n : Nat, n ≤ 256 ∧ i = .int .i64 n ∧ Hid (Loop2 w wi (wd (orC (orN l k) (l.getD k noneP) n)))) (fun i _ => (256 - intOf i).toNat)
      case atStart => exact ⟨0, by omega, rfl, by rw [← ST.out]; exact HL⟩
      case round =>
        clear HL ST
        obtain ⟨n, hn, rfl, HL⟩ := hrel
        by_cases hlt2 : n < 256
        · obtain ⟨b, off, rfl, hbb, hc⟩ : ∃ b off, ao = some ⟨b, off, none⟩ ∧ b < w.heap.size ∧ ∀ k, k < l.length → wr.cell? ⟨b, off + k * 4, none⟩ = some (.int .u64 (wd (l.getD k noneP) 0)) ∧ wr.cell? ⟨b, off + k * 4 + 1, none⟩ = some (.int .u64 (wd (l.getD k noneP) 1)) ∧ wr.cell? ⟨b, off + k * 4 + 2, none⟩ = some (.int .u64 (wd (l.getD k noneP) 2)) ∧ wr.cell? ⟨b, off + k * 4 + 3, none⟩ = some (.int .u64 (wd (l.getD k noneP) 3)) := by
            rcases HS.out.below HL.out.below with h | h
            · rw [h] at hlt; exact absurd hlt (Nat.not_lt_zero _)
            · exact h
          obtain ⟨c0, c1, c2, c3⟩ := hc k hlt
          have HX := Lib.hid HL.out.x
          have HZ := Lib.hid HL.out.z
          have HB := Lib.hid HL.out.below
          clear hc HL NX
          have C := Lib.hid (fun w => (show Calls Try.prog 25 #[.agg #[.int .u64 (wd (l.getD k noneP) 0), .int .u64 (wd (l.getD k noneP) 1), .int .u64 (wd (l.getD k noneP) 2), .int .u64 (wd (l.getD k noneP) 3)], .int .i64 n] w fun e w' => e = .returned (.bool (l.getD k noneP n)) ∧ Below w.heap.size w w' by have := rhas_any (l.getD k noneP) n w; rw [hasP_nat hlt2] at this; exact this))
          have D := Lib.hid (fun w => rwith_any (orC (orN l k) (l.getD k noneP) n) n w)
          have KP := Lib.hid (fun h => @orC_keep (orN l k) (l.getD k noneP) n h)
          have PT := Lib.hid (fun h => @orC_put (orN l k) (l.getD k noneP) n h)
          generalize wd (orP (orC (orN l k) (l.getD k noneP) n) (oneP n)) = v at D PT
          generalize hc : (fun n => wd (orC (orN l k) (l.getD k noneP) n)) = c
          have hc' : ∀ n, wd (orC (orN l k) (l.getD k noneP) n) = c n := fun n => congrFun hc n
          rw [hc'] at HX
          simp only [hc'] at D KP PT
          have HC := Lib.hid hc'
          clear hc hc'
          cases hq : l.getD k noneP n with
          | false =>
            have e := Lib.hid (KP.out hq)
            rw [hq] at C
            clear hq KP PT D
            generalize wd (l.getD k noneP) = q at c0 c1 c2 c3 C
            go_wp2_with (go_at_call 25; (refine (C.out _).mono ?_); rintro e w1 ⟨rfl, hw1⟩; have HX1 := Lib.hid (Four.next hw1 HX.out); have HZ1 := Lib.hid (Four.next hw1 HZ.out); have HB1 := Lib.hid (below_next hw1 HB.out (Nat.le_refl _)); clear hw1)
            go_roundw
            case rel => exact ⟨n + 1, by omega, by go_num, by rw [HC.out]; exact ⟨by rw [← e.out, ← e.out, ← e.out, ← e.out]; exact HX1.out, HZ1.out, HB1.out⟩⟩
            case measure => simp [intOf]; omega
          | true =>
            have e := Lib.hid (PT.out hq)
            rw [hq] at C
            clear hq KP PT
            generalize wd (l.getD k noneP) = q at c0 c1 c2 c3 C
            go_wp2_with (first | (go_at_call 25; (refine (C.out _).mono ?_); rintro e w1 ⟨rfl, hw1⟩; have HX1 := Lib.hid (Four.next hw1 HX.out); have HZ1 := Lib.hid (Four.next hw1 HZ.out); have HB1 := Lib.hid (below_next hw1 HB.out (Nat.le_refl _)); obtain ⟨x0, x1, x2, x3, _, _, _, _⟩ := HX1.out; clear hw1) | (go_at_call 33; (refine (D.out _).mono ?_); rintro e w2 ⟨rfl, hw2⟩; have HX2 := Lib.hid (Four.next hw2 HX1.out); have HZ2 := Lib.hid (Four.next hw2 HZ1.out); have HB2 := Lib.hid (below_next hw2 HB1.out (Nat.le_refl _)); obtain ⟨s0, s1, s2, s3, t0, t1, t2, t3⟩ := HX2.out; clear hw2))
            go_roundw
            case rel =>
              refine ⟨n + 1, by omega, by go_num, ?_⟩
              rw [HC.out]
              refine ⟨?_, HZ2.out.far4 (by omega) (v 0) (v 1) (v 2) (v 3), below_set4 HB2.out (by omega) (v 0) (v 1) (v 2) (v 3)⟩
              rw [← e.out, ← e.out, ← e.out, ← e.out]
              exact HX2.out.set4 (v 0) (v 1) (v 2) (v 3)
            case measure => simp [intOf]; omega
        · obtain rfl : n = 256 := by omega
          have HN : Hid (Loop2 w wr (wd (orN l (k + 1)))) := ⟨by rw [← NX.out 0 (by omega), ← NX.out 1 (by omega), ← NX.out 2 (by omega), ← NX.out 3 (by omega)]; exact HL.out.x, HL.out.z, HL.out.below⟩
          clear HL NX
          go_wp2
          go_roundw
          case rel => exact ⟨k + 1, by omega, by go_num, HN⟩
          case measure => simp [intOf]; omega
    · obtain rfl : k = l.length := by omega
      have HX := Lib.hid HL.out.x
      have HZ := Lib.hid HL.out.z
      have HB := Lib.hid HL.out.below
      obtain ⟨x0, x1, x2, x3, _, _, _, _⟩ := HX.out
      obtain ⟨z0, z1, z2, z3, v0, v1, v2, v3⟩ := HZ.out
      clear HL
      go_wp2
      refine bodyPost_ret (v := .agg #[.int .u64 (wd (orN l l.length) 0), .int .u64 (wd (orN l l.length) 1), .int .u64 (wd (orN l l.length) 2), .int .u64 (wd (orN l l.length) 3)]) ?_ rfl ⟨rfl, below_set4 HB.out (by omega) (wd (orN l l.length) 0) (wd (orN l l.length) 1) (wd (orN l l.length) 2) (wd (orN l l.length) 3)⟩
      obtain ⟨s0, s1, s2, s3⟩ := set4_results HZ.out (wd (orN l l.length) 0) (wd (orN l l.length) 1) (wd (orN l l.length) 2) (wd (orN l l.length) 3)
      simp [results, Try.results24, go_sem, s0, s1, s2, s3]

end Go.Proofs.Ytfifgojbihdhcaa

/-
  The numbers of a set, one by one, rising: plain numbers, no program in this text.
-/
namespace Go.Proofs.Ytfifgojbihdhcaa

/-- The bits of a word that are 1, rising. -/
def ones (v : Nat) : List Nat := (List.range 64).filter v.testBit
/-- The numbers below n of a set, rising. -/
def below (p : Nat → Bool) (n : Nat) : List Nat := (List.range n).filter p

theorem filter_first {q q' : Nat → Bool} {j : Nat} (hj : q j = true) (hlo : ∀ i, i < j → q i = false) (hq : ∀ i, q' i = (q i && decide (i ≠ j))) :
    ∀ n, j < n → (List.range n).filter q = j :: (List.range n).filter q'
  | 0, h => absurd h (Nat.not_lt_zero _)
  | n + 1, h => by
    rw [List.range_succ, List.filter_append, List.filter_append]
    by_cases e : j = n
    · subst e
      have h1 : (List.range j).filter q = [] := List.filter_eq_nil_iff.2 fun i hi => by rw [hlo i (List.mem_range.1 hi)]; simp
      have h2 : (List.range j).filter q' = [] := List.filter_eq_nil_iff.2 fun i hi => by rw [hq, hlo i (List.mem_range.1 hi)]; simp
      rw [h1, h2]; simp [hj, hq]
    · rw [filter_first hj hlo hq n (by omega)]
      simp only [List.cons_append, List.cons.injEq, true_and]
      congr 1
      simp only [List.filter_cons, List.filter_nil, hq n]
      simp [show n ≠ j by omega]

theorem ones_zero : ones 0 = [] := List.filter_eq_nil_iff.2 fun i _ => by simp

theorem ones_next {v : Nat} (h0 : v ≠ 0) (h : v < 18446744073709551616) :
    Lib.ctz 64 v < 64 ∧ ones v = Lib.ctz 64 v :: ones (v &&& (v - 1)) := by
  obtain ⟨m, hm, hk⟩ := Lib.ctzFrom_spec 64 v (by omega) h
  have hc : Lib.ctz 64 v = Lib.ctzFrom 64 v := by unfold Lib.ctz; rw [if_neg h0]
  rw [hc]
  generalize Lib.ctzFrom 64 v = j at hm hk
  have hp : 0 < 2 ^ j := Nat.two_pow_pos j
  have hb : ∀ i, v.testBit i = (decide (j ≤ i) && (2 * m + 1).testBit (i - j)) := fun i => by rw [hm, Nat.testBit_two_pow_mul]
  have hv1 : v - 1 = 2 ^ j * (2 * m) + (2 ^ j - 1) := by rw [hm, Nat.mul_add]; omega
  have hb1 : ∀ i, (v - 1).testBit i = if i < j then (2 ^ j - 1).testBit i else (2 * m).testBit (i - j) := fun i => by rw [hv1, Nat.testBit_two_pow_mul_add _ (by omega)]
  refine ⟨hk, filter_first (j := j) ?_ ?_ ?_ 64 hk⟩
  · rw [hb]; simp
  · intro i hi; rw [hb]; simp; omega
  · intro i
    rw [Nat.testBit_and, hb, hb1]
    rcases Nat.lt_trichotomy i j with g | g | g
    · simp [show ¬ j ≤ i by omega]
    · subst g; simp
    · obtain ⟨d, rfl⟩ : ∃ d, i = j + 1 + d := ⟨i - j - 1, by omega⟩
      have e : j + 1 + d - j = d + 1 := by omega
      rw [e, Nat.testBit_succ, Nat.testBit_succ, show (2 * m + 1) / 2 = m by omega, show 2 * m / 2 = m by omega]
      simp [show ¬ j + 1 + d < j by omega, show j + 1 + d ≠ j by omega]

theorem ones_wd (p : Nat → Bool) (k : Nat) : below p (64 * (k + 1)) = below p (64 * k) ++ (ones (wd p k)).map (64 * k + ·) := by
  unfold below ones
  rw [show 64 * (k + 1) = 64 * k + 64 by omega, List.range_add, List.filter_append]
  congr 1
  rw [List.filter_map]
  congr 1
  refine List.filter_congr fun j hj => ?_
  rw [wd_bit p k (List.mem_range.1 hj)]; rfl

theorem below_length (p : Nat → Bool) : ∀ n, (below p n).length = cntN p n
  | 0 => rfl
  | n + 1 => by
    have := below_length p n
    unfold below at this ⊢
    rw [List.range_succ, List.filter_append, List.length_append, this]
    simp only [cntN, List.filter_cons, List.filter_nil]
    split <;> rfl

theorem mem_below {p : Nat → Bool} {n x : Nat} : x ∈ below p n ↔ x < n ∧ p x = true := by unfold below; simp
theorem below_pairwise (p : Nat → Bool) (n : Nat) : (below p n).Pairwise (· < ·) := List.Pairwise.filter _ List.pairwise_lt_range

/-- A set's numbers. -/
def els (p : Nat → Bool) : List Int := (below p 256).map fun x : Nat => (x : Int)

end Go.Proofs.Ytfifgojbihdhcaa
