/-
  The walks over the first statements of the layer.
-/
import Derived.Test.YtlpkilfpjdggeaaSums
namespace Go.Proofs.Ytlpkilfpjdggeaa
open Go.RowKit

set_option maxHeartbeats 400000 in
theorem awake_any (w : World) :
    Calls Try.prog 9 #[] w fun e w' => e = .returned (.bool true) ∧ Below w.heap.size w w' := by
  have hb : Below w.heap.size w (w.alloc (.cells #[.int .u64 4, .int .u64 6, .int .u64 10] 22)) := (Below.refl _ _).alloc (Nat.le_refl _) _
  have C := lcms_any [4, 6, 10] (by intro z hz; simp at hz; rcases hz with rfl | rfl | rfl <;> exact ⟨by omega, by omega⟩) (by simp) 3 (some ⟨w.heap.size, 0, none⟩) (w.alloc (.cells #[.int .u64 4, .int .u64 6, .int .u64 10] 22))
    (.inr ⟨w.heap.size, 0, rfl, by simp, by
      intro k hk
      have hk : k < 3 := hk
      have : k = 0 ∨ k = 1 ∨ k = 2 := by omega
      rcases this with rfl | rfl | rfl <;> simp⟩)
  have e : foldR lcmN lcmB 1 [4, 6, 10] = (60, true) := by decide
  rw [e] at C
  have D := fun w => ceil_pos 7 3 (by omega) (by omega) (by omega) (by omega) w
  have e2 : ceilN 7 3 = 3 := by decide
  rw [e2] at D
  have HC := Lib.hid C; clear C
  have HD := Lib.hid D; clear D
  clear e e2
  go_enter Try.func9, Try.ntmps9
  go_wp2_with (first | (go_at_call 21; (refine (HC.out).mono ?_); rintro e w' ⟨rfl, hw⟩) | (go_at_call 17; (refine (HD.out _).mono ?_); rintro e w' ⟨rfl, rfl⟩))
  go_ret
  exact ⟨rfl, hb.trans (hw.mono (by simp))⟩

theorem mask_u64 (k : Nat) (b : Int) (hb : U64 b) (hk : k ≤ 64) : bits .and .u64 b ((2 ^ k - 1 : Nat) : Int) = b % ((2 ^ k : Nat) : Int) := by
  obtain ⟨b, rfl⟩ := Int.eq_ofNat_of_zero_le hb.1
  have := hb.2
  have h2 : 2 ^ k ≤ 2 ^ 64 := Nat.pow_le_pow_right (by omega) hk
  rw [u64_and_nat b (2 ^ k - 1) (by omega) (by omega), Nat.and_two_pow_sub_one_eq_mod]
  simp
theorem mask32 (b : Int) (hb : U64 b) : bits .and .u64 b 4294967295 = b % 4294967296 := mask_u64 32 b hb (by omega)
theorem mask31 (b : Int) (hb : U64 b) : bits .and .u64 b 2147483647 = b % 2147483648 := mask_u64 31 b hb (by omega)

/-- What is rounded up is just enough. -/
theorem ceil_just {a d : Int} (h0 : 0 ≤ a) (hd : 0 < d) : a ≤ ceilN a d * d ∧ (ceilN a d = 0 → a = 0) ∧ (0 < ceilN a d → (ceilN a d - 1) * d < a) ∧ 0 ≤ ceilN a d := by
  have hz : ¬ d = 0 := by omega
  have h1 := Int.mul_ediv_add_emod a d
  have h2 := Int.emod_nonneg a (b := d) (by omega)
  have h3 := Int.emod_lt_of_pos a hd
  have h4 := Int.ediv_nonneg h0 (Int.le_of_lt hd)
  unfold ceilN
  rw [if_neg hz]
  rw [Int.mul_comm] at h1
  split
  · rename_i hm
    refine ⟨by omega, ?_, ?_, h4⟩
    · intro h; rw [h] at h1; omega
    · intro h; rw [Int.sub_mul, Int.one_mul]; omega
  · rename_i hm
    refine ⟨?_, by omega, ?_, by omega⟩
    · rw [Int.add_mul, Int.one_mul]; omega
    · intro h; rw [Int.add_sub_cancel]; omega

set_option maxHeartbeats 400000 in
theorem law_ceil (a b : Int) (ha : U64 a) (hb : U64 b) (w : World) :
    Calls Try.prog 5 #[.int .u64 a, .int .u64 b] w fun e w' => e = .returned (.bool true) ∧ Below w.heap.size w w' := by
  obtain ⟨m, hm, hm0, hm1⟩ : ∃ m, bits .and .u64 b 4294967295 = m ∧ 0 ≤ m ∧ m ≤ 4294967295 := ⟨_, mask32 b hb, by omega, by omega⟩
  have h0 := ha.1; have h1 := ha.2
  have A := awake_any
  have C := fun w => ceil_pos a (1 + m) h0 (by omega) (by omega) (by omega) w
  obtain ⟨j1, j2, j3, j4⟩ := ceil_just h0 (d := 1 + m) (by omega)
  have j5 := (ceilN_u64 ha (b := 1 + m) ⟨by omega, by omega⟩).2
  generalize ceilN a (1 + m) = n at C j1 j2 j3 j4 j5
  have HA := Lib.hid A; clear A
  have HC := Lib.hid C; clear C
  by_cases hn : n = 0
  · have ha0 := j2 hn
    subst hn ha0
    clear j1 j2 j3 j4 j5
    go_enter Try.func5, Try.ntmps5
    go_wp2_with (first | (go_at_call 9; (refine (HA.out _).mono ?_); rintro e w' ⟨rfl, hw⟩) | (go_at_call 17; (with_reducible refine (HC.out _).mono ?_); rintro e w' ⟨rfl, rfl⟩))
    go_ret
    exact ⟨rfl, hw⟩
  · have k1 := j3 (by omega)
    have k2 : 0 ≤ (n - 1) * (1 + m) := Int.mul_nonneg (by omega) (by omega)
    have D := fun w => mul_any (n - 1) (1 + m) ⟨by omega, by omega⟩ ⟨by omega, by omega⟩ w
    have E := fun w => mul_any n (1 + m) ⟨by omega, by omega⟩ ⟨by omega, by omega⟩ w
    have e1 : mulN (n - 1) (1 + m) = (n - 1) * (1 + m) := by unfold mulN; rw [if_pos (by omega)]
    have e2 : mulB (n - 1) (1 + m) = true := by unfold mulB; exact decide_eq_true (by omega)
    rw [e1, e2] at D
    generalize (n - 1) * (1 + m) = p at D k1 k2
    have hnz : (n == 0) = false := by rw [beq_eq_false_iff_ne]; exact hn
    have hor : mulB n (1 + m) = false ∨ mulB n (1 + m) = true ∧ a ≤ mulN n (1 + m) := by
      unfold mulB mulN
      by_cases h : n * (1 + m) < 18446744073709551616
      · right; exact ⟨decide_eq_true h, by rw [if_pos h]; exact j1⟩
      · left; exact decide_eq_false h
    generalize mulN n (1 + m) = q at E hor
    generalize mulB n (1 + m) = qb at E hor
    have HD := Lib.hid D; clear D
    have HE := Lib.hid E; clear E
    clear j1 j2 j3 e1 e2
    have hn1 : 1 ≤ n := by omega
    have hn2 : n ≤ 18446744073709551615 := by omega
    clear j4 j5 hn
    rcases hor with rfl | ⟨rfl, hq⟩
    all_goals
      go_enter Try.func5, Try.ntmps5
      go_wp2_with (first | (go_at_call 9; (refine (HA.out _).mono ?_); rintro e w' ⟨rfl, hw⟩) | (go_at_call 17; (with_reducible refine (HC.out _).mono ?_); rintro e w' ⟨rfl, rfl⟩) | (go_at_call 15; (with_reducible refine (HD.out _).mono ?_); rintro e w' ⟨rfl, rfl⟩) | (go_at_call 15; (with_reducible refine (HE.out _).mono ?_); rintro e w' ⟨rfl, rfl⟩))
      go_ret
      exact ⟨rfl, hw⟩

theorem row_ceil (a : Int) (ha : (Lit.int .u64 a).wf = true) (b : Int) (hb : (Lit.int .u64 b).wf = true) (w : World) :
    Calls Try.prog 5 #[.int .u64 a, .int .u64 b] w fun e w' => e = .returned (.bool true) ∧ Below w.heap.size w w' :=
  law_ceil a b (u64_of_wf ha) (u64_of_wf hb) w

end Go.Proofs.Ytlpkilfpjdggeaa
