/-
  The walks over bounds, and over sums that fill.
-/
import Derived.Test.YtknjldmpcokgfaaKMem
namespace Go.Proofs.Ytknjldmpcokgfaa
open Go.RowKit Go.Maps

set_option maxHeartbeats 400000 in
theorem within_yes (n l m : Int) (h1 : l ≤ n) (h2 : n ≤ m) (w : World) : Calls Try.prog 32 #[.int .i64 n, .int .i64 l, .int .i64 m] w fun e w' => e = .returned (.bool true) ∧ w = w' := by
  have d1 : decide (l ≤ n) = true := decide_eq_true h1
  have d2 : decide (n ≤ m) = true := decide_eq_true h2
  go_enter Try.func32, Try.ntmps32
  go_wp2
  go_ret
  exact ⟨rfl, rfl⟩
set_option maxHeartbeats 400000 in
theorem within_no (n l m : Int) (h : ¬ (l ≤ n ∧ n ≤ m)) (w : World) : Calls Try.prog 32 #[.int .i64 n, .int .i64 l, .int .i64 m] w fun e w' => e = .returned (.bool false) ∧ w = w' := by
  by_cases h1 : l ≤ n
  · have d1 : decide (l ≤ n) = true := decide_eq_true h1
    have h2 : ¬ n ≤ m := fun z => h ⟨h1, z⟩
    have d2 : decide (n ≤ m) = false := decide_eq_false h2
    clear h
    go_enter Try.func32, Try.ntmps32
    go_wp2
    go_ret
    exact ⟨rfl, rfl⟩
  · have d1 : decide (l ≤ n) = false := decide_eq_false h1
    clear h
    go_enter Try.func32, Try.ntmps32
    go_wp2
    go_ret
    exact ⟨rfl, rfl⟩
set_option maxHeartbeats 400000 in
theorem within64_yes (n l m : Int) (h1 : l ≤ n) (h2 : n ≤ m) (w : World) : Calls Try.prog 37 #[.int .i64 n, .int .i64 l, .int .i64 m] w fun e w' => e = .returned (.bool true) ∧ w = w' := by
  have d1 : decide (l ≤ n) = true := decide_eq_true h1
  have d2 : decide (n ≤ m) = true := decide_eq_true h2
  go_enter Try.func37, Try.ntmps37
  go_wp2
  go_ret
  exact ⟨rfl, rfl⟩
set_option maxHeartbeats 400000 in
theorem within64_no (n l m : Int) (h : ¬ (l ≤ n ∧ n ≤ m)) (w : World) : Calls Try.prog 37 #[.int .i64 n, .int .i64 l, .int .i64 m] w fun e w' => e = .returned (.bool false) ∧ w = w' := by
  by_cases h1 : l ≤ n
  · have d1 : decide (l ≤ n) = true := decide_eq_true h1
    have h2 : ¬ n ≤ m := fun z => h ⟨h1, z⟩
    have d2 : decide (n ≤ m) = false := decide_eq_false h2
    clear h
    go_enter Try.func37, Try.ntmps37
    go_wp2
    go_ret
    exact ⟨rfl, rfl⟩
  · have d1 : decide (l ≤ n) = false := decide_eq_false h1
    clear h
    go_enter Try.func37, Try.ntmps37
    go_wp2
    go_ret
    exact ⟨rfl, rfl⟩

/-- Whether numbers from 1 on fill c. -/
def fillB : List Int → Int → Bool
  | [], c => c == 0
  | x :: l, c => if 1 ≤ x ∧ x ≤ c then fillB l (c - x) else false

set_option maxRecDepth 100000 in
set_option maxHeartbeats 1000000 in
theorem fill_any (a : Option Addr) (n cap : Nat) (l : List Int) (hl : l.length = n) (hn : (n : Int) ≤ 9223372036854775807) (c : Int) (hc : c ≤ 9223372036854775807) (w : World) (h : Ints w a l) :
    Calls Try.prog 33 #[.slice a n cap, .int .i64 c] w fun e w' => e = .returned (.bool (fillB l c)) ∧ w = w' := by
  have H := Lib.hid h
  have HL := Lib.hid hl
  clear h hl
  go_enter Try.func33, Try.ntmps33
  go_wp2_with fail
  go_loop [1, 9] (fun u v => ∃ (k : Nat) (c' : Int), k ≤ n ∧ v = .int .i64 k ∧ u = .int .i64 c' ∧ c' ≤ 9223372036854775807 ∧ Hid (fillB (l.drop k) c' = fillB l c)) (fun _ v => (n - intOf v).toNat)
  case atStart => exact ⟨0, c, by omega, rfl, rfl, hc, by show _ = _; rw [List.drop_zero]⟩
  case round =>
    obtain ⟨k, c', hk, rfl, rfl, hc', HF⟩ := hrel
    by_cases hlt : k < n
    · obtain ⟨x, hx⟩ := nth_of HL.out hlt
      obtain ⟨g, o, rfl, c0⟩ := H.out.at_ hx
      have hd : Hid (l.drop k = x :: l.drop (k + 1)) := by
        obtain ⟨h2, h3⟩ := List.getElem?_eq_some_iff.1 hx
        show _ = _
        rw [List.drop_eq_getElem_cons h2, h3]
      clear hx
      have hk1 : (k : Int) < (n : Int) := by omega
      have hk0 : (0 : Int) ≤ (k : Int) := by omega
      by_cases hb : 1 ≤ x ∧ x ≤ c'
      · have CY := Lib.hid (fun w => within64_yes x 1 c' hb.1 hb.2 w)
        have HF2 : Hid (fillB (l.drop (k + 1)) (c' - x) = fillB l c) := by
          have := HF.out
          rw [hd.out, fillB, if_pos hb] at this
          exact this
        have hw : IntKind.i64.wrap (c' - x) = c' - x := IntWalk.i64_in _ (by omega)
        have hx2 : c' - x ≤ 9223372036854775807 := by omega
        clear HF hb
        go_wp2_with (go_at_call 37; (with_reducible refine (CY.out _).mono ?_); rintro e w3 ⟨rfl, rfl⟩)
        go_round
        case rel => exact ⟨k + 1, c' - x, by omega, by go_num, by first | rfl | (rw [hw]), hx2, HF2⟩
        case measure => simp [intOf]; omega
      · have CN := Lib.hid (fun w => within64_no x 1 c' hb w)
        have HF2 : Hid (false = fillB l c) := by
          have := HF.out
          rw [hd.out, fillB, if_neg hb] at this
          exact this
        clear HF hb
        go_wp2_with (go_at_call 37; (with_reducible refine (CN.out _).mono ?_); rintro e w3 ⟨rfl, rfl⟩)
        go_ret
        rw [← HF2.out]
        exact ⟨rfl, rfl⟩
    · obtain rfl : k = n := by omega
      have HF2 : Hid ((c' == 0) = fillB l c) := by
        have := HF.out
        rw [List.drop_of_length_le (by rw [HL.out]; exact Nat.le_refl _), fillB] at this
        exact this
      clear HF
      go_wp2_with fail
      go_ret
      rw [← HF2.out]
      exact ⟨rfl, rfl⟩

set_option maxHeartbeats 400000 in
theorem nan_any (n : Int) (w : World) : Calls Try.prog 58 #[.int .i64 n] w fun e w' => e = .returned (.bool false) ∧ w = w' := by
  go_enter Try.func58, Try.ntmps58
  go_wp2
  go_ret
  exact ⟨rfl, rfl⟩
/-- Which one is less. -/
def cmpI (x y : Int) : Int := if x < y then -1 else if y < x then 1 else 0
set_option maxHeartbeats 400000 in
theorem cmp_any (x y : Int) (w : World) : Calls Try.prog 46 #[.int .i64 x, .int .i64 y] w fun e w' => e = .returned (.int .i64 (cmpI x y)) ∧ w = w' := by
  unfold cmpI
  rcases Int.lt_trichotomy x y with h | h | h
  · rw [if_pos h]
    go_enter Try.func46, Try.ntmps46
    go_wp2_with (go_at_call 58; (with_reducible refine (nan_any _ _).mono ?_); rintro e w' ⟨rfl, rfl⟩)
    go_ret
    exact ⟨rfl, rfl⟩
  · subst h
    have h1 : ¬ x < x := by omega
    rw [if_neg h1, if_neg h1]
    go_enter Try.func46, Try.ntmps46
    go_wp2_with (go_at_call 58; (with_reducible refine (nan_any _ _).mono ?_); rintro e w' ⟨rfl, rfl⟩)
    go_ret
    exact ⟨rfl, rfl⟩
  · have h1 : ¬ x < y := by omega
    rw [if_neg h1, if_pos h]
    go_enter Try.func46, Try.ntmps46
    go_wp2_with (go_at_call 58; (with_reducible refine (nan_any _ _).mono ?_); rintro e w' ⟨rfl, rfl⟩)
    go_ret
    exact ⟨rfl, rfl⟩

/-- A number led into the room from 0 to below m. -/
def restI (n m : Int) : Int := n % m
set_option maxHeartbeats 1000000 in
theorem rest_any (n m : Int) (hm : 0 < m) (hm2 : m ≤ 1000000) (w : World) : Calls Try.prog 53 #[.int .i64 n, .int .i64 m] w fun e w' => e = .returned (.int .i64 (restI n m)) ∧ w = w' := by
  have a := Int.tmod_lt_of_pos n hm
  have b := Int.lt_tmod_of_pos n hm
  have e : restI n m = (n.tmod m + m) % m := by
    unfold restI
    rw [Int.add_emod_right]
    rw [Int.tmod_eq_emod]
    split
    · simp
    · simp [Int.sub_emod, Int.emod_emod_of_dvd]
      have : ((m.natAbs : Int)) = m := by omega
      simp [this]
  have d1 : (m == 0) = false := by rw [beq_eq_false_iff_ne]; omega
  rw [e]
  obtain ⟨t, ht⟩ : ∃ t, n.tmod m = t := ⟨_, rfl⟩
  rw [ht] at a b ⊢
  have hw : IntKind.i64.wrap (t + m) = t + m := IntWalk.i64_in _ (by omega)
  have a2 : (t + m) % m < m := Int.emod_lt_of_pos _ hm
  have b2 : 0 ≤ (t + m) % m := Int.emod_nonneg _ (by omega)
  clear e
  have h0 : ¬ m = 0 := by omega
  go_enter Try.func53, Try.ntmps53
  go_wp2
  go_ret
  exact ⟨rfl, rfl⟩
end Go.Proofs.Ytknjldmpcokgfaa
