/-
  The walks over the document's own answers: one number looked for, put in, taken out.
-/
import Derived.Test.YtigafpmhgogpmaaDoorBWalk5
namespace Go.Proofs.YtigafpmhgogpmaaDoor
open Go.RowKit

theorem bit_and (x j : Nat) (h : x < 18446744073709551616) : bits .and .u64 ((x : Int) / 2 ^ j) 1 = ((x / 2 ^ j % 2 : Nat) : Int) := by
  have h1 : x / 2 ^ j ≤ x := Nat.div_le_self _ _
  have e : (x : Int) / 2 ^ j = ((x / 2 ^ j : Nat) : Int) := by simp
  rw [e]
  have := bits_and_u64_nat (x / 2 ^ j) 1 (by omega) (by omega)
  rw [nat_mask1] at this
  exact this

theorem hasP_at {p : Nat → Bool} {i : Int} {k j : Nat} (h0 : 0 ≤ i) (h1 : i ≤ 255) (hk : i / 64 = k) (hj : i % 64 = j) : hasP p i = (wd p k).testBit j := by
  have hj' : j < 64 := by omega
  rw [wd_bit p k hj']
  unfold hasP
  rw [decide_eq_true (⟨h0, h1⟩ : 0 ≤ i ∧ i ≤ 255), Bool.true_and]
  congr 1; omega

set_option maxHeartbeats 1000000 in
theorem rhas_0 (x0 x1 x2 x3 : Nat) (i : Int) (h0 : 0 ≤ i) (h255 : i ≤ 255) (h1 : i / 64 = 0) (j : Nat) (hj : j < 64) (h2 : i % 64 = j) (hx : x0 < 18446744073709551616) (w : World) :
    Calls Tryd.prog 12 #[.agg #[.int .u64 x0, .int .u64 x1, .int .u64 x2, .int .u64 x3], .int .i64 i] w fun e w' => e = .returned (.bool (x0.testBit j)) ∧ Below w.heap.size w w' := by
  have hb := bit_and x0 j hx
  rw [bit_read] at hb
  clear hx
  cases hp : x0.testBit j with
  | true =>
    rw [hp] at hb
    simp only [if_true] at hb
    clear hp
    go_enter Tryd.func12, Tryd.ntmps12
    go_wp2
    go_ret
    exact ⟨rfl, (Below.refl _ _).alloc (Nat.le_refl _) _⟩
  | false =>
    rw [hp] at hb
    simp only [Bool.false_eq_true, if_false] at hb
    clear hp
    go_enter Tryd.func12, Tryd.ntmps12
    go_wp2
    go_ret
    exact ⟨rfl, (Below.refl _ _).alloc (Nat.le_refl _) _⟩
set_option maxHeartbeats 1000000 in
theorem rhas_1 (x0 x1 x2 x3 : Nat) (i : Int) (h0 : 0 ≤ i) (h255 : i ≤ 255) (h1 : i / 64 = 1) (j : Nat) (hj : j < 64) (h2 : i % 64 = j) (hx : x1 < 18446744073709551616) (w : World) :
    Calls Tryd.prog 12 #[.agg #[.int .u64 x0, .int .u64 x1, .int .u64 x2, .int .u64 x3], .int .i64 i] w fun e w' => e = .returned (.bool (x1.testBit j)) ∧ Below w.heap.size w w' := by
  have hb := bit_and x1 j hx
  rw [bit_read] at hb
  clear hx
  cases hp : x1.testBit j with
  | true =>
    rw [hp] at hb
    simp only [if_true] at hb
    clear hp
    go_enter Tryd.func12, Tryd.ntmps12
    go_wp2
    go_ret
    exact ⟨rfl, (Below.refl _ _).alloc (Nat.le_refl _) _⟩
  | false =>
    rw [hp] at hb
    simp only [Bool.false_eq_true, if_false] at hb
    clear hp
    go_enter Tryd.func12, Tryd.ntmps12
    go_wp2
    go_ret
    exact ⟨rfl, (Below.refl _ _).alloc (Nat.le_refl _) _⟩
set_option maxHeartbeats 1000000 in
theorem rhas_2 (x0 x1 x2 x3 : Nat) (i : Int) (h0 : 0 ≤ i) (h255 : i ≤ 255) (h1 : i / 64 = 2) (j : Nat) (hj : j < 64) (h2 : i % 64 = j) (hx : x2 < 18446744073709551616) (w : World) :
    Calls Tryd.prog 12 #[.agg #[.int .u64 x0, .int .u64 x1, .int .u64 x2, .int .u64 x3], .int .i64 i] w fun e w' => e = .returned (.bool (x2.testBit j)) ∧ Below w.heap.size w w' := by
  have hb := bit_and x2 j hx
  rw [bit_read] at hb
  clear hx
  cases hp : x2.testBit j with
  | true =>
    rw [hp] at hb
    simp only [if_true] at hb
    clear hp
    go_enter Tryd.func12, Tryd.ntmps12
    go_wp2
    go_ret
    exact ⟨rfl, (Below.refl _ _).alloc (Nat.le_refl _) _⟩
  | false =>
    rw [hp] at hb
    simp only [Bool.false_eq_true, if_false] at hb
    clear hp
    go_enter Tryd.func12, Tryd.ntmps12
    go_wp2
    go_ret
    exact ⟨rfl, (Below.refl _ _).alloc (Nat.le_refl _) _⟩
set_option maxHeartbeats 1000000 in
theorem rhas_3 (x0 x1 x2 x3 : Nat) (i : Int) (h0 : 0 ≤ i) (h255 : i ≤ 255) (h1 : i / 64 = 3) (j : Nat) (hj : j < 64) (h2 : i % 64 = j) (hx : x3 < 18446744073709551616) (w : World) :
    Calls Tryd.prog 12 #[.agg #[.int .u64 x0, .int .u64 x1, .int .u64 x2, .int .u64 x3], .int .i64 i] w fun e w' => e = .returned (.bool (x3.testBit j)) ∧ Below w.heap.size w w' := by
  have hb := bit_and x3 j hx
  rw [bit_read] at hb
  clear hx
  cases hp : x3.testBit j with
  | true =>
    rw [hp] at hb
    simp only [if_true] at hb
    clear hp
    go_enter Tryd.func12, Tryd.ntmps12
    go_wp2
    go_ret
    exact ⟨rfl, (Below.refl _ _).alloc (Nat.le_refl _) _⟩
  | false =>
    rw [hp] at hb
    simp only [Bool.false_eq_true, if_false] at hb
    clear hp
    go_enter Tryd.func12, Tryd.ntmps12
    go_wp2
    go_ret
    exact ⟨rfl, (Below.refl _ _).alloc (Nat.le_refl _) _⟩

set_option maxHeartbeats 1000000 in
theorem rhas_low (x0 x1 x2 x3 : Nat) (i : Int) (h0 : i < 0) (w : World) :
    Calls Tryd.prog 12 #[.agg #[.int .u64 x0, .int .u64 x1, .int .u64 x2, .int .u64 x3], .int .i64 i] w fun e w' => e = .returned (.bool false) ∧ Below w.heap.size w w' := by
  go_enter Tryd.func12, Tryd.ntmps12
  go_wp2
  go_ret
  exact ⟨rfl, (Below.refl _ _).alloc (Nat.le_refl _) _⟩
set_option maxHeartbeats 1000000 in
theorem rhas_high (x0 x1 x2 x3 : Nat) (i : Int) (h0 : 0 ≤ i) (h : 255 < i) (w : World) :
    Calls Tryd.prog 12 #[.agg #[.int .u64 x0, .int .u64 x1, .int .u64 x2, .int .u64 x3], .int .i64 i] w fun e w' => e = .returned (.bool false) ∧ Below w.heap.size w w' := by
  go_enter Tryd.func12, Tryd.ntmps12
  go_wp2
  go_ret
  exact ⟨rfl, (Below.refl _ _).alloc (Nat.le_refl _) _⟩

theorem hasP_out {p : Nat → Bool} {i : Int} (h : i < 0 ∨ 255 < i) : hasP p i = false := by
  unfold hasP; rw [decide_eq_false (by omega)]; rfl

theorem rhas_any (p : Nat → Bool) (i : Int) (w : World) :
    Calls Tryd.prog 12 #[.agg #[.int .u64 (wd p 0), .int .u64 (wd p 1), .int .u64 (wd p 2), .int .u64 (wd p 3)], .int .i64 i] w fun e w' => e = .returned (.bool (hasP p i)) ∧ Below w.heap.size w w' := by
  rcases (show i < 0 ∨ (0 ≤ i ∧ 255 < i) ∨ (0 ≤ i ∧ i ≤ 255) by omega) with h | ⟨h0, h⟩ | ⟨h0, h1⟩
  · rw [hasP_out (.inl h)]; exact rhas_low _ _ _ _ i h w
  · rw [hasP_out (.inr h)]; exact rhas_high _ _ _ _ i h0 h w
  · obtain ⟨j, hj⟩ : ∃ j : Nat, i % 64 = j := ⟨(i % 64).toNat, by omega⟩
    have hj' : j < 64 := by omega
    rcases (show i / 64 = 0 ∨ i / 64 = 1 ∨ i / 64 = 2 ∨ i / 64 = 3 by omega) with g | g | g | g
    · rw [hasP_at (k := 0) h0 h1 g hj]; exact rhas_0 _ _ _ _ i h0 h1 g j hj' hj (wd_lt p 0) w
    · rw [hasP_at (k := 1) h0 h1 g hj]; exact rhas_1 _ _ _ _ i h0 h1 g j hj' hj (wd_lt p 1) w
    · rw [hasP_at (k := 2) h0 h1 g hj]; exact rhas_2 _ _ _ _ i h0 h1 g j hj' hj (wd_lt p 2) w
    · rw [hasP_at (k := 3) h0 h1 g hj]; exact rhas_3 _ _ _ _ i h0 h1 g j hj' hj (wd_lt p 3) w

end Go.Proofs.YtigafpmhgogpmaaDoor
