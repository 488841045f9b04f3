/-
  The walks over the statements on what is taken away again, and on whole parts.
-/
import Derived.Test.YtlpkilfpjdggeaaLaws1
import Derived.Test.YtlpkilfpjdggeaaDiv
namespace Go.Proofs.Ytlpkilfpjdggeaa
open Go.RowKit

theorem md_back {a b : Int} (ha : U64 a) (hb : 0 < b) : mdN a b b = a ∧ mdR a b b = 0 ∧ mdB a b b = true := by
  have h : a * b / 18446744073709551616 < b := by
    refine (Int.ediv_lt_iff_lt_mul (by omega)).2 ?_
    rw [Int.mul_comm b]
    exact Int.mul_lt_mul_of_pos_right ha.2 hb
  unfold mdN mdR mdB
  rw [if_pos h, if_pos h]
  exact ⟨Int.mul_ediv_cancel _ (by omega), Int.mul_emod_left _ _, decide_eq_true h⟩

theorem md_zero (a : Int) : mdN a 0 0 = 0 ∧ mdR a 0 0 = 0 ∧ mdB a 0 0 = false := by
  simp [mdN, mdR, mdB]

theorem ceil_back {a b : Int} (hb : 0 < b) : ceilN (a * b) b = a := by
  unfold ceilN
  rw [if_neg (by omega), if_pos (Int.mul_emod_left _ _), Int.mul_ediv_cancel _ (by omega)]

/-- What the sum and its way back answer: 'so', whether it is one, and then what comes back. -/
def AddBack (a b s : Int) (ok : Bool) : Prop :=
  (∀ w, Calls Try.prog 11 #[.int .u64 a, .int .u64 b] w fun e w' => e = .returned (.tuple #[.int .u64 s, .bool ok]) ∧ w = w') ∧
  (∀ w, Calls Try.prog 13 #[.int .u64 s, .int .u64 b] w fun e w' => (ok = true → e = .returned (.tuple #[.int .u64 a, .bool true])) ∧ w = w')

theorem add_back (a b : Int) (ha : U64 a) (hb : U64 b) :
    (∃ s, (∀ w, Calls Try.prog 11 #[.int .u64 a, .int .u64 b] w fun e w' => e = .returned (.tuple #[.int .u64 s, .bool true]) ∧ w = w') ∧
      ∀ w, Calls Try.prog 13 #[.int .u64 s, .int .u64 b] w fun e w' => e = .returned (.tuple #[.int .u64 a, .bool true]) ∧ w = w') ∨
    (∀ w, Calls Try.prog 11 #[.int .u64 a, .int .u64 b] w fun e w' => e = .returned (.tuple #[.int .u64 0, .bool false]) ∧ w = w') := by
  have := ha.1; have := hb.1
  by_cases h : a + b < 18446744073709551616
  · left
    refine ⟨a + b, add_ok a b ha hb h, fun w => ?_⟩
    have := sub_any (a + b) b ⟨by omega, h⟩ hb w
    have e1 : subN (a + b) b = a := by unfold subN; rw [if_pos (by omega)]; omega
    have e2 : subB (a + b) b = true := decide_eq_true (by omega)
    rwa [e1, e2] at this
  · right; exact add_no a b ha hb h

theorem mul_back (a b : Int) (ha : U64 a) (hb : U64 b) :
    (∃ p, (∀ w, Calls Try.prog 15 #[.int .u64 a, .int .u64 b] w fun e w' => e = .returned (.tuple #[.int .u64 p, .bool true]) ∧ w = w') ∧
      (0 < b → ∀ w, Calls Try.prog 17 #[.int .u64 p, .int .u64 b] w fun e w' => e = .returned (.tuple #[.int .u64 a, .bool true]) ∧ w = w')) ∨
    (0 < b ∧ ∀ w, Calls Try.prog 15 #[.int .u64 a, .int .u64 b] w fun e w' => e = .returned (.tuple #[.int .u64 0, .bool false]) ∧ w = w') := by
  have h0 := ha.1; have h1 := hb.1; have hb2 := hb.2
  have hn := Int.mul_nonneg h0 h1
  have M := mul_any a b ha hb
  by_cases h : a * b < 18446744073709551616
  · left
    refine ⟨a * b, ?_, fun hpos w => ?_⟩
    · simpa only [mulN, mulB, h, if_true, decide_true] using M
    · have := ceil_pos (a * b) b hn (by omega) hpos (by omega) w
      rwa [ceil_back hpos] at this
  · right
    refine ⟨?_, ?_⟩
    · rcases (show b = 0 ∨ 0 < b by omega) with e | e
      · subst e; rw [Int.mul_zero] at h; omega
      · exact e
    · simpa only [mulN, mulB, h, if_false, decide_false] using M

set_option maxHeartbeats 1000000 in
theorem law_back (a b : Int) (ha : U64 a) (hb : U64 b) (w : World) :
    Calls Try.prog 4 #[.int .u64 a, .int .u64 b] w fun e w' => e = .returned (.bool true) ∧ Below w.heap.size w w' := by
  have A := Lib.hid awake_any
  have D := muldiv_any a b b ha hb hb
  have AB := Lib.hid (add_back a b ha hb)
  have MB := Lib.hid (mul_back a b ha hb)
  have hb1 := hb.1
  rcases (show b = 0 ∨ 0 < b by omega) with hz | hpos
  · subst hz
    obtain ⟨m1, m2, m3⟩ := md_zero a
    rw [m1, m2, m3] at D
    have D := Lib.hid D
    clear hb1 m1 m2 m3
    rcases MB.out with ⟨p, M, _⟩ | ⟨h, _⟩
    · have M := Lib.hid M
      rcases AB.out with ⟨s, S, T⟩ | S
      · have S := Lib.hid S; have T := Lib.hid T
        clear AB MB
        go_enter Try.func4, Try.ntmps4
        go_wp2_with (first | (go_at_call 9; (with_reducible refine (A.out _).mono ?_); rintro e w' ⟨rfl, hw⟩) | (go_at_call 11; (with_reducible refine (S.out _).mono ?_); rintro e w' ⟨rfl, rfl⟩) | (go_at_call 13; (with_reducible refine (T.out _).mono ?_); rintro e w' ⟨rfl, rfl⟩) | (go_at_call 15; (with_reducible refine (M.out _).mono ?_); rintro e w' ⟨rfl, rfl⟩) | (go_at_call 23; (with_reducible refine (D.out _).mono ?_); rintro e w' ⟨rfl, hw2⟩))
        go_ret
        exact ⟨rfl, hw.trans (hw2.mono hw.size)⟩
      · have S := Lib.hid S
        clear AB MB
        go_enter Try.func4, Try.ntmps4
        go_wp2_with (first | (go_at_call 9; (with_reducible refine (A.out _).mono ?_); rintro e w' ⟨rfl, hw⟩) | (go_at_call 11; (with_reducible refine (S.out _).mono ?_); rintro e w' ⟨rfl, rfl⟩) | (go_at_call 15; (with_reducible refine (M.out _).mono ?_); rintro e w' ⟨rfl, rfl⟩) | (go_at_call 23; (with_reducible refine (D.out _).mono ?_); rintro e w' ⟨rfl, hw2⟩))
        go_ret
        exact ⟨rfl, hw.trans (hw2.mono hw.size)⟩
    · omega
  · obtain ⟨m1, m2, m3⟩ := md_back ha hpos
    rw [m1, m2, m3] at D
    have D := Lib.hid D
    clear hb1 m1 m2 m3
    rcases MB.out with ⟨p, M, C⟩ | ⟨_, M⟩
    · have M := Lib.hid M
      have C := Lib.hid (C hpos)
      rcases AB.out with ⟨s, S, T⟩ | S
      · have S := Lib.hid S; have T := Lib.hid T
        clear AB MB
        go_enter Try.func4, Try.ntmps4
        go_wp2_with (first | (go_at_call 9; (with_reducible refine (A.out _).mono ?_); rintro e w' ⟨rfl, hw⟩) | (go_at_call 11; (with_reducible refine (S.out _).mono ?_); rintro e w' ⟨rfl, rfl⟩) | (go_at_call 13; (with_reducible refine (T.out _).mono ?_); rintro e w' ⟨rfl, rfl⟩) | (go_at_call 15; (with_reducible refine (M.out _).mono ?_); rintro e w' ⟨rfl, rfl⟩) | (go_at_call 17; (with_reducible refine (C.out _).mono ?_); rintro e w' ⟨rfl, rfl⟩) | (go_at_call 23; (with_reducible refine (D.out _).mono ?_); rintro e w' ⟨rfl, hw2⟩))
        go_ret
        exact ⟨rfl, hw.trans (hw2.mono hw.size)⟩
      · have S := Lib.hid S
        clear AB MB
        go_enter Try.func4, Try.ntmps4
        go_wp2_with (first | (go_at_call 9; (with_reducible refine (A.out _).mono ?_); rintro e w' ⟨rfl, hw⟩) | (go_at_call 11; (with_reducible refine (S.out _).mono ?_); rintro e w' ⟨rfl, rfl⟩) | (go_at_call 15; (with_reducible refine (M.out _).mono ?_); rintro e w' ⟨rfl, rfl⟩) | (go_at_call 17; (with_reducible refine (C.out _).mono ?_); rintro e w' ⟨rfl, rfl⟩) | (go_at_call 23; (with_reducible refine (D.out _).mono ?_); rintro e w' ⟨rfl, hw2⟩))
        go_ret
        exact ⟨rfl, hw.trans (hw2.mono hw.size)⟩
    · have M := Lib.hid M
      rcases AB.out with ⟨s, S, T⟩ | S
      · have S := Lib.hid S; have T := Lib.hid T
        clear AB MB
        go_enter Try.func4, Try.ntmps4
        go_wp2_with (first | (go_at_call 9; (with_reducible refine (A.out _).mono ?_); rintro e w' ⟨rfl, hw⟩) | (go_at_call 11; (with_reducible refine (S.out _).mono ?_); rintro e w' ⟨rfl, rfl⟩) | (go_at_call 13; (with_reducible refine (T.out _).mono ?_); rintro e w' ⟨rfl, rfl⟩) | (go_at_call 15; (with_reducible refine (M.out _).mono ?_); rintro e w' ⟨rfl, rfl⟩) | (go_at_call 23; (with_reducible refine (D.out _).mono ?_); rintro e w' ⟨rfl, hw2⟩))
        go_ret
        exact ⟨rfl, hw.trans (hw2.mono hw.size)⟩
      · have S := Lib.hid S
        clear AB MB
        go_enter Try.func4, Try.ntmps4
        go_wp2_with (first | (go_at_call 9; (with_reducible refine (A.out _).mono ?_); rintro e w' ⟨rfl, hw⟩) | (go_at_call 11; (with_reducible refine (S.out _).mono ?_); rintro e w' ⟨rfl, rfl⟩) | (go_at_call 15; (with_reducible refine (M.out _).mono ?_); rintro e w' ⟨rfl, rfl⟩) | (go_at_call 23; (with_reducible refine (D.out _).mono ?_); rintro e w' ⟨rfl, hw2⟩))
        go_ret
        exact ⟨rfl, hw.trans (hw2.mono hw.size)⟩

theorem row_back (a : Int) (ha : (Lit.int .u64 a).wf = true) (b : Int) (hb : (Lit.int .u64 b).wf = true) (w : World) :
    Calls Try.prog 4 #[.int .u64 a, .int .u64 b] w fun e w' => e = .returned (.bool true) ∧ Below w.heap.size w w' :=
  law_back a b (u64_of_wf ha) (u64_of_wf hb) w

set_option maxHeartbeats 1000000 in
theorem law_whole (a b c : Int) (ha : U64 a) (hb : U64 b) (hc : U64 c) (w : World) :
    Calls Try.prog 7 #[.int .u64 a, .int .u64 b, .int .u64 c] w fun e w' => e = .returned (.bool true) ∧ Below w.heap.size w w' := by
  have A := Lib.hid awake_any
  obtain ⟨x, hx, hx0, hx1⟩ : ∃ m, bits .and .u64 a 2147483647 = m ∧ 0 ≤ m ∧ m ≤ 2147483647 := ⟨_, mask31 a ha, by omega, by omega⟩
  obtain ⟨y, hy, hy0, hy1⟩ : ∃ m, bits .and .u64 b 2147483647 = m ∧ 0 ≤ m ∧ m ≤ 2147483647 := ⟨_, mask31 b hb, by omega, by omega⟩
  obtain ⟨z, hz, hz0, hz1⟩ : ∃ m, bits .and .u64 c 4294967295 = m ∧ 0 ≤ m ∧ m ≤ 4294967295 := ⟨_, mask32 c hc, by omega, by omega⟩
  have D := muldiv_any x y (1 + z) ⟨hx0, by omega⟩ ⟨hy0, by omega⟩ ⟨by omega, by omega⟩
  have h0 := Int.mul_nonneg hx0 hy0
  have h1 : x * y ≤ 2147483647 * 2147483647 := Int.mul_le_mul hx1 hy1 hy0 (by omega)
  have h2 : x * y / 18446744073709551616 < 1 + z := by omega
  have h3 := Int.mul_ediv_add_emod (x * y) (1 + z)
  have h4 := Int.emod_nonneg (x * y) (b := 1 + z) (by omega)
  have h5 := Int.emod_lt_of_pos (x * y) (show 0 < 1 + z by omega)
  have h6 := Int.ediv_nonneg h0 (show 0 ≤ 1 + z by omega)
  unfold mdN mdR mdB at D
  simp only [h2, if_true, decide_true] at D
  obtain ⟨p, hp⟩ : ∃ p, x * y = p := ⟨_, rfl⟩
  rw [hp] at D h0 h1 h3 h4 h5 h6
  generalize p / (1 + z) = q at D h3 h6
  generalize p % (1 + z) = r at D h3 h4 h5
  rw [Int.mul_comm] at h3
  obtain ⟨t, ht⟩ : ∃ t, q * (1 + z) = t := ⟨_, rfl⟩
  have D := Lib.hid D
  rw [ht] at h3
  have h7 : 0 ≤ t := by rw [← ht]; exact Int.mul_nonneg h6 (by omega)
  have k1 : IntKind.u64.wrap (q * (1 + z)) = t := by rw [ht]; exact IntWalk.u64_in _ (by omega)
  have k2 : IntKind.u64.wrap (t + r) = p := by rw [h3]; exact IntWalk.u64_in _ (by omega)
  have k3 : IntKind.u64.wrap (x * y) = p := by rw [hp]; exact IntWalk.u64_in _ (by omega)
  clear hp ht h0 h1 h2 h3 h4 h6 h7 ha hb hc
  go_enter Try.func7, Try.ntmps7
  go_wp2_with (first | (go_at_call 9; (with_reducible refine (A.out _).mono ?_); rintro e w' ⟨rfl, hw⟩) | (go_at_call 23; (with_reducible refine (D.out _).mono ?_); rintro e w' ⟨rfl, hw2⟩))
  go_ret
  exact ⟨rfl, hw.trans (hw2.mono hw.size)⟩

theorem row_whole (a : Int) (ha : (Lit.int .u64 a).wf = true) (b : Int) (hb : (Lit.int .u64 b).wf = true) (c : Int) (hc : (Lit.int .u64 c).wf = true) (w : World) :
    Calls Try.prog 7 #[.int .u64 a, .int .u64 b, .int .u64 c] w fun e w' => e = .returned (.bool true) ∧ Below w.heap.size w w' :=
  law_whole a b c (u64_of_wf ha) (u64_of_wf hb) (u64_of_wf hc) w

end Go.Proofs.Ytlpkilfpjdggeaa
