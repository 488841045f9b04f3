/-
  The walks over one number's set, and over the count and the lowest bit of a word.
-/
import Derived.Test.YtigafpmhgogpmaaDoorBMem
import Derived.Shelf.Spec.TrailingZeros
import Derived.Laws.Bits128
namespace Go.Proofs.YtigafpmhgogpmaaDoor
open Go.RowKit
set_option linter.unusedSimpArgs false

theorem u64_nat (n : Nat) (h : n < 18446744073709551616) : IntKind.u64.wrap (n : Int) = n := IntWalk.u64_in _ (by omega)
theorem pow_wrap {j : Nat} (hj : j < 64) : IntKind.u64.wrap ((2 : Int) ^ j) = ((2 ^ j : Nat) : Int) := by
  have h : (2 : Nat) ^ j < 18446744073709551616 := Nat.pow_lt_pow_right (a := 2) (m := j) (n := 64) (by omega) hj
  rw [show (2 : Int) ^ j = ((2 ^ j : Nat) : Int) by simp]
  exact u64_nat _ h

theorem one_words {k j : Nat} (hk : k < 4) (hj : j < 64) (k' : Nat) : wd (oneP ((64 * k + j : Nat) : Int)) k' = if k' = k then 2 ^ j else 0 := by
  by_cases h : k' = k
  · subst h; rw [if_pos rfl]; exact wd_one_at hj
  · rw [if_neg h]; exact wd_one_far fun i hi => by omega
theorem one_out {v : Int} (h : v < 0 ∨ 255 < v) {k : Nat} (hk : k < 4) : wd (oneP v) k = 0 := wd_one_far fun i hi => by omega

set_option maxHeartbeats 1000000 in
theorem only_0 (i : Int) (h0 : 0 ≤ i) (h1 : i / 64 = 0) (j : Nat) (hj : j < 64) (h2 : i % 64 = j) (w : World) :
    Calls Tryd.prog 30 #[.int .i64 i] w fun e w' => e = .returned (.agg #[.int .u64 (wd (oneP i) 0), .int .u64 (wd (oneP i) 1), .int .u64 (wd (oneP i) 2), .int .u64 (wd (oneP i) 3)]) ∧ Below w.heap.size w w' := by
  have hi : i = ((64 * 0 + j : Nat) : Int) := by omega
  have e0 := one_words (k := 0) (j := j) (by omega) hj 0
  have e1 := one_words (k := 0) (j := j) (by omega) hj 1
  have e2 := one_words (k := 0) (j := j) (by omega) hj 2
  have e3 := one_words (k := 0) (j := j) (by omega) hj 3
  rw [← hi] at e0 e1 e2 e3
  have pw := pow_wrap hj
  rw [e0, e1, e2, e3]
  clear e0 e1 e2 e3 hi
  simp only [reduceIte, Nat.reduceEqDiff, Nat.succ_ne_self, Nat.one_ne_zero, Nat.zero_ne_one]
  generalize (2 : Nat) ^ j = z at pw
  go_enter Tryd.func30, Tryd.ntmps30
  go_wp2
  exact bodyPost_ret (by simp [results, Tryd.results30, go_sem]) rfl ⟨rfl, ((Below.refl _ _).alloc (Nat.le_refl _) _).alloc (by simp) _⟩
set_option maxHeartbeats 1000000 in
theorem only_1 (i : Int) (h0 : 0 ≤ i) (h1 : i / 64 = 1) (j : Nat) (hj : j < 64) (h2 : i % 64 = j) (w : World) :
    Calls Tryd.prog 30 #[.int .i64 i] w fun e w' => e = .returned (.agg #[.int .u64 (wd (oneP i) 0), .int .u64 (wd (oneP i) 1), .int .u64 (wd (oneP i) 2), .int .u64 (wd (oneP i) 3)]) ∧ Below w.heap.size w w' := by
  have hi : i = ((64 * 1 + j : Nat) : Int) := by omega
  have e0 := one_words (k := 1) (j := j) (by omega) hj 0
  have e1 := one_words (k := 1) (j := j) (by omega) hj 1
  have e2 := one_words (k := 1) (j := j) (by omega) hj 2
  have e3 := one_words (k := 1) (j := j) (by omega) hj 3
  rw [← hi] at e0 e1 e2 e3
  have pw := pow_wrap hj
  rw [e0, e1, e2, e3]
  clear e0 e1 e2 e3 hi
  simp only [reduceIte, Nat.reduceEqDiff, Nat.succ_ne_self, Nat.one_ne_zero, Nat.zero_ne_one]
  generalize (2 : Nat) ^ j = z at pw
  go_enter Tryd.func30, Tryd.ntmps30
  go_wp2
  exact bodyPost_ret (by simp [results, Tryd.results30, go_sem]) rfl ⟨rfl, ((Below.refl _ _).alloc (Nat.le_refl _) _).alloc (by simp) _⟩
set_option maxHeartbeats 1000000 in
theorem only_2 (i : Int) (h0 : 0 ≤ i) (h1 : i / 64 = 2) (j : Nat) (hj : j < 64) (h2 : i % 64 = j) (w : World) :
    Calls Tryd.prog 30 #[.int .i64 i] w fun e w' => e = .returned (.agg #[.int .u64 (wd (oneP i) 0), .int .u64 (wd (oneP i) 1), .int .u64 (wd (oneP i) 2), .int .u64 (wd (oneP i) 3)]) ∧ Below w.heap.size w w' := by
  have hi : i = ((64 * 2 + j : Nat) : Int) := by omega
  have e0 := one_words (k := 2) (j := j) (by omega) hj 0
  have e1 := one_words (k := 2) (j := j) (by omega) hj 1
  have e2 := one_words (k := 2) (j := j) (by omega) hj 2
  have e3 := one_words (k := 2) (j := j) (by omega) hj 3
  rw [← hi] at e0 e1 e2 e3
  have pw := pow_wrap hj
  rw [e0, e1, e2, e3]
  clear e0 e1 e2 e3 hi
  simp only [reduceIte, Nat.reduceEqDiff, Nat.succ_ne_self, Nat.one_ne_zero, Nat.zero_ne_one]
  generalize (2 : Nat) ^ j = z at pw
  go_enter Tryd.func30, Tryd.ntmps30
  go_wp2
  exact bodyPost_ret (by simp [results, Tryd.results30, go_sem]) rfl ⟨rfl, ((Below.refl _ _).alloc (Nat.le_refl _) _).alloc (by simp) _⟩
set_option maxHeartbeats 1000000 in
theorem only_3 (i : Int) (h0 : 0 ≤ i) (h1 : i / 64 = 3) (j : Nat) (hj : j < 64) (h2 : i % 64 = j) (w : World) :
    Calls Tryd.prog 30 #[.int .i64 i] w fun e w' => e = .returned (.agg #[.int .u64 (wd (oneP i) 0), .int .u64 (wd (oneP i) 1), .int .u64 (wd (oneP i) 2), .int .u64 (wd (oneP i) 3)]) ∧ Below w.heap.size w w' := by
  have hi : i = ((64 * 3 + j : Nat) : Int) := by omega
  have e0 := one_words (k := 3) (j := j) (by omega) hj 0
  have e1 := one_words (k := 3) (j := j) (by omega) hj 1
  have e2 := one_words (k := 3) (j := j) (by omega) hj 2
  have e3 := one_words (k := 3) (j := j) (by omega) hj 3
  rw [← hi] at e0 e1 e2 e3
  have pw := pow_wrap hj
  rw [e0, e1, e2, e3]
  clear e0 e1 e2 e3 hi
  simp only [reduceIte, Nat.reduceEqDiff, Nat.succ_ne_self, Nat.one_ne_zero, Nat.zero_ne_one]
  generalize (2 : Nat) ^ j = z at pw
  go_enter Tryd.func30, Tryd.ntmps30
  go_wp2
  exact bodyPost_ret (by simp [results, Tryd.results30, go_sem]) rfl ⟨rfl, ((Below.refl _ _).alloc (Nat.le_refl _) _).alloc (by simp) _⟩

set_option maxHeartbeats 1000000 in
theorem only_low (i : Int) (h : i < 0) (w : World) :
    Calls Tryd.prog 30 #[.int .i64 i] w fun e w' => e = .returned (.agg #[.int .u64 (wd (oneP i) 0), .int .u64 (wd (oneP i) 1), .int .u64 (wd (oneP i) 2), .int .u64 (wd (oneP i) 3)]) ∧ Below w.heap.size w w' := by
  rw [one_out (.inl h) (k := 0) (by omega), one_out (.inl h) (k := 1) (by omega), one_out (.inl h) (k := 2) (by omega), one_out (.inl h) (k := 3) (by omega)]
  go_enter Tryd.func30, Tryd.ntmps30
  go_wp2
  exact bodyPost_ret (by simp [results, Tryd.results30, go_sem]) rfl ⟨rfl, ((Below.refl _ _).alloc (Nat.le_refl _) _).alloc (by simp) _⟩
set_option maxHeartbeats 1000000 in
theorem only_high (i : Int) (h : 256 ≤ i) (hu : i ≤ 9223372036854775807) (w : World) :
    Calls Tryd.prog 30 #[.int .i64 i] w fun e w' => e = .returned (.agg #[.int .u64 (wd (oneP i) 0), .int .u64 (wd (oneP i) 1), .int .u64 (wd (oneP i) 2), .int .u64 (wd (oneP i) 3)]) ∧ Below w.heap.size w w' := by
  have ho : i < 0 ∨ 255 < i := .inr (by omega)
  rw [one_out ho (k := 0) (by omega), one_out ho (k := 1) (by omega), one_out ho (k := 2) (by omega), one_out ho (k := 3) (by omega)]
  have h0 : 0 ≤ i := by omega
  have h1 : 4 ≤ i / 64 := by omega
  clear ho h
  go_enter Tryd.func30, Tryd.ntmps30
  go_wp2
  exact bodyPost_ret (by simp [results, Tryd.results30, go_sem]) rfl ⟨rfl, ((Below.refl _ _).alloc (Nat.le_refl _) _).alloc (by simp) _⟩

theorem only_any (i : Int) (hu : i ≤ 9223372036854775807) (w : World) :
    Calls Tryd.prog 30 #[.int .i64 i] w fun e w' => e = .returned (.agg #[.int .u64 (wd (oneP i) 0), .int .u64 (wd (oneP i) 1), .int .u64 (wd (oneP i) 2), .int .u64 (wd (oneP i) 3)]) ∧ Below w.heap.size w w' := by
  rcases (show i < 0 ∨ 256 ≤ i ∨ (0 ≤ i ∧ i ≤ 255) by omega) with h | h | ⟨h0, h1⟩
  · exact only_low i h w
  · exact only_high i h hu w
  · obtain ⟨j, hj⟩ : ∃ j : Nat, i % 64 = j := ⟨(i % 64).toNat, by omega⟩
    rcases (show i / 64 = 0 ∨ i / 64 = 1 ∨ i / 64 = 2 ∨ i / 64 = 3 by omega) with g | g | g | g
    · exact only_0 i h0 g j (by omega) hj w
    · exact only_1 i h0 g j (by omega) hj w
    · exact only_2 i h0 g j (by omega) hj w
    · exact only_3 i h0 g j (by omega) hj w

theorem and_nat (a b : Nat) (ha : a < 18446744073709551616) (hb : b < 18446744073709551616) : bits .and .u64 (a : Int) (b : Int) = ((a &&& b : Nat) : Int) := bits_and_u64_nat a b ha hb

set_option maxHeartbeats 1000000 in
theorem count_any (x : Nat) (hx : x < 18446744073709551616) (w : World) :
    Calls Tryd.prog 32 #[.int .u64 x] w fun e w' => e = .returned (.int .i64 (cntN x.testBit 64)) ∧ w = w' := by
  obtain ⟨a, b, c, d, e, f, h1, ka, h2, kb, kb', h3, h4, h5, h6, kc, kd, ke, kf, hr⟩ := pop_steps x
  have q : cntN x.testBit 64 < 128 := by have := cntN_le x.testBit 64; omega
  have w1 : IntKind.u64.wrap (bits .and .u64 ((x : Int) / 2) 6148914691236517205 + bits .and .u64 (x : Int) 6148914691236517205) = (a : Int) := by
    rw [show (x : Int) / 2 = ((x / 2 : Nat) : Int) by omega, show (6148914691236517205 : Int) = ((6148914691236517205 : Nat) : Int) from rfl, and_nat _ _ (by omega) (by omega), and_nat _ _ hx (by omega), ← Int.natCast_add, h1]
    exact u64_nat _ ka
  have w2 : IntKind.u64.wrap (bits .and .u64 ((a : Int) / 4) 3689348814741910323 + bits .and .u64 (a : Int) 3689348814741910323) = (b : Int) := by
    rw [show (a : Int) / 4 = ((a / 4 : Nat) : Int) by omega, show (3689348814741910323 : Int) = ((3689348814741910323 : Nat) : Int) from rfl, and_nat _ _ (by omega) (by omega), and_nat _ _ ka (by omega), ← Int.natCast_add, h2]
    exact u64_nat _ kb
  have w3 : bits .and .u64 (IntKind.u64.wrap ((b : Int) / 16 + (b : Int))) 1085102592571150095 = (c : Int) := by
    rw [show (b : Int) / 16 + (b : Int) = ((b / 16 + b : Nat) : Int) by omega, u64_nat _ kb', show (1085102592571150095 : Int) = ((1085102592571150095 : Nat) : Int) from rfl, and_nat _ _ kb' (by omega), h3]
  have w4 : IntKind.u64.wrap ((c : Int) + (c : Int) / 256) = (d : Int) := by
    rw [show (c : Int) + (c : Int) / 256 = ((c + c / 256 : Nat) : Int) by omega, h4]; exact u64_nat _ kd
  have w5 : IntKind.u64.wrap ((d : Int) + (d : Int) / 65536) = (e : Int) := by
    rw [show (d : Int) + (d : Int) / 65536 = ((d + d / 65536 : Nat) : Int) by omega, h5]; exact u64_nat _ ke
  have w6 : IntKind.u64.wrap ((e : Int) + (e : Int) / 4294967296) = (f : Int) := by
    rw [show (e : Int) + (e : Int) / 4294967296 = ((e + e / 4294967296 : Nat) : Int) by omega, h6]; exact u64_nat _ (by omega)
  have w7 : bits .and .i64 (wrap64 (f : Int)) 127 = (cntN x.testBit 64 : Nat) := by rw [i64_and127, IntWalk.wrap64_in _ (by omega), ← hr]; exact (Int.natCast_emod f 128).symm
  clear h1 h2 h3 h4 h5 h6 ka kb kb' kc kd ke kf hr q hx
  generalize cntN x.testBit 64 = z at w7 ⊢
  go_enter Tryd.func32, Tryd.ntmps32
  go_wp2
  go_ret
  exact ⟨rfl, rfl⟩

set_option maxHeartbeats 1000000 in
theorem low_core (x k idx : Nat) (w : World) (hx0 : ((x : Int) == 0) = false)
    (key : IntKind.u64.wrap (bits BinOp.and IntKind.u64 (x : Int) (IntKind.u64.wrap (-(x : Int))) * 285870213051353865) / 288230376151711744 = (idx : Int))
    (hi : idx < 64) (hk : k < 64) (hcell : w.cell? ⟨0, idx, none⟩ = some (.int .u8 k)) :
    Calls Tryd.prog 34 #[.int .u64 x] w fun e w' => e = .returned (.int .i64 k) ∧ w = w' := by
  go_enter Tryd.func34, Tryd.ntmps34
  go_wp2_with (simp only [key])
  go_ret
  exact ⟨rfl, rfl⟩

/-- The table of the library's text, as it is laid. -/
def Tab (w : World) : Prop := TabAt 0 Lib.deBruijn64tab w

theorem low_any (x : Nat) (hx : x < 18446744073709551616) (hx0 : x ≠ 0) (w : World) (hT : Tab w) :
    Calls Tryd.prog 34 #[.int .u64 x] w fun e w' => e = .returned (.int .i64 (Lib.ctz 64 x)) ∧ w = w' := by
  obtain ⟨hlow, hk⟩ := Lib.lowest_bit 64 x hx0 hx
  obtain ⟨hi, htab⟩ := Lib.deBruijn64_at _ hk
  have hcell := hT _ hi
  rw [htab] at hcell
  exact low_core x _ _ w (by simp; omega) (tz64_key x _ hx hx0 hlow) hi hk hcell

end Go.Proofs.YtigafpmhgogpmaaDoor
