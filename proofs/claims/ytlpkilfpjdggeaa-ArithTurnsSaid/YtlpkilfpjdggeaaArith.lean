/-
  The walks over the package of sums.
-/
import Derived.Test.YtlpkilfpjdggeaaRows
import Derived.Test.YtlpkilfpjdggeaaShelf
import Derived.Test.YtlpkilfpjdggeaaNum
import Derived.WalkKit
import Derived.WalkSpells
import Derived.WalkLawsBesides
import Derived.Laws.Externs
import Derived.Shelf.Spec.BitsCarry
import Derived.Lib.Hide
import Derived.Deep.QuietTactic
import Derived.BigQuiet
namespace Go.Proofs.Ytlpkilfpjdggeaa
open Go.RowKit

theorem run_add0 (x y : Int) (hx : U64 x) (hy : U64 y) (w : World) :
    (callFunc 27 #[.int .u64 x, .int .u64 y, .int .u64 0]).run Try.prog w =
    .ok (.value (.tuple #[.int .u64 ((x + y) % 18446744073709551616), .int .u64 ((x + y) / 18446744073709551616)])) w := by
  rw [run_callFunc_extern Try.func27 (by kernel_rfl) (by kernel_rfl) (by kernel_rfl) (e := add64Entry) (by kernel_rfl),
    run_add64 x y 0 hx.1 hy.1 (by omega) (by omega), Int.add_zero]
  rfl

theorem run_sub0 (x y : Int) (hx : U64 x) (hy : U64 y) (w : World) :
    (callFunc 29 #[.int .u64 x, .int .u64 y, .int .u64 0]).run Try.prog w =
    .ok (.value (.tuple #[.int .u64 ((x - y) % 18446744073709551616), .int .u64 (if x < y then 1 else 0)])) w := by
  obtain ⟨x, rfl⟩ := Int.eq_ofNat_of_zero_le hx.1
  obtain ⟨y, rfl⟩ := Int.eq_ofNat_of_zero_le hy.1
  have := hx.2; have := hy.2
  have e1 : (((x + 18446744073709551616 - y - 0) % 18446744073709551616 : Nat) : Int) = ((x : Int) - y) % 18446744073709551616 := by omega
  have e2 : ((if x < y + 0 then 1 else 0 : Nat) : Int) = if (x : Int) < y then 1 else 0 := by split <;> split <;> omega
  show (callFunc _ #[.int .u64 x, .int .u64 y, .int .u64 ((0 : Nat) : Int)]).run _ _ = _
  rw [run_callFunc_extern Try.func29 (by kernel_rfl) (by kernel_rfl) (by kernel_rfl) (e := sub64Entry) (by kernel_rfl), ← e1, ← e2]
  rw [run_sub64 (P := Try.prog) (w := w) x y 0 (by omega)]
  rfl

theorem exact_ok (a : Int) (w : World) : Calls Try.prog 28 #[.int .u64 a, .int .u64 0] w fun e w' => e = .returned (.tuple #[.int .u64 a, .bool true]) ∧ w = w' := by
  go_enter Try.func28, Try.ntmps28
  go_wp2
  go_ret2
  exact ⟨rfl, rfl⟩

theorem exact_no (a b : Int) (hb : (b != 0) = true) (w : World) : Calls Try.prog 28 #[.int .u64 a, .int .u64 b] w fun e w' => e = .returned (.tuple #[.int .u64 0, .bool false]) ∧ w = w' := by
  go_enter Try.func28, Try.ntmps28
  go_wp2
  go_ret2
  exact ⟨rfl, rfl⟩

set_option maxHeartbeats 400000 in
theorem add_ok (a b : Int) (ha : U64 a) (hb : U64 b) (h : a + b < 18446744073709551616) (w : World) :
    Calls Try.prog 11 #[.int .u64 a, .int .u64 b] w fun e w' => e = .returned (.tuple #[.int .u64 (a + b), .bool true]) ∧ w = w' := by
  have h0 := ha.1; have h1 := hb.1
  have e1 : (a + b) % 18446744073709551616 = a + b := by omega
  have e2 : (a + b) / 18446744073709551616 = 0 := by omega
  have R := run_add0 a b ha hb
  rw [e1, e2] at R
  clear e1 e2 h h0 h1 ha hb
  go_enter Try.func11, Try.ntmps11
  go_wp2_with (go_at_call 28; refine (exact_ok _ _).mono ?_; rintro e w' ⟨rfl, rfl⟩)
  go_ret2
  exact ⟨rfl, rfl⟩

set_option maxHeartbeats 400000 in
theorem add_no (a b : Int) (ha : U64 a) (hb : U64 b) (h : ¬ a + b < 18446744073709551616) (w : World) :
    Calls Try.prog 11 #[.int .u64 a, .int .u64 b] w fun e w' => e = .returned (.tuple #[.int .u64 0, .bool false]) ∧ w = w' := by
  have h0 := ha.2; have h1 := hb.2
  have e2 : (a + b) / 18446744073709551616 = 1 := by omega
  have R := run_add0 a b ha hb
  rw [e2] at R
  generalize (a + b) % 18446744073709551616 = z at R
  clear e2 h h0 h1 ha hb
  go_enter Try.func11, Try.ntmps11
  go_wp2_with (go_at_call 28; refine (exact_no _ _ (by decide) _).mono ?_; rintro e w' ⟨rfl, rfl⟩)
  go_ret2
  exact ⟨rfl, rfl⟩

theorem add_any (a b : Int) (ha : U64 a) (hb : U64 b) (w : World) :
    Calls Try.prog 11 #[.int .u64 a, .int .u64 b] w fun e w' => e = .returned (.tuple #[.int .u64 (addN a b), .bool (addB a b)]) ∧ w = w' := by
  by_cases h : a + b < 18446744073709551616
  · simpa only [addN, addB, h, if_true, decide_true] using add_ok a b ha hb h w
  · simpa only [addN, addB, h, if_false, decide_false] using add_no a b ha hb h w

set_option maxHeartbeats 400000 in
theorem sub_any (a b : Int) (ha : U64 a) (hb : U64 b) (w : World) :
    Calls Try.prog 13 #[.int .u64 a, .int .u64 b] w fun e w' => e = .returned (.tuple #[.int .u64 (subN a b), .bool (subB a b)]) ∧ w = w' := by
  have h0 := ha.1; have h1 := hb.1; have h2 := ha.2; have h3 := hb.2
  have R := run_sub0 a b ha hb
  by_cases h : b ≤ a
  · have e1 : (a - b) % 18446744073709551616 = a - b := by omega
    have e2 : ¬ a < b := by omega
    simp only [subN, subB, h, if_true, decide_true]
    rw [e1, if_neg e2] at R
    generalize a - b = z at R ⊢
    clear e1 e2 h h0 h1 h2 h3 ha hb
    go_enter Try.func13, Try.ntmps13
    go_wp2_with (go_at_call 28; refine (exact_ok _ _).mono ?_; rintro e w' ⟨rfl, rfl⟩)
    go_ret2
    exact ⟨rfl, rfl⟩
  · have e2 : a < b := by omega
    simp only [subN, subB, h, if_false, decide_false]
    rw [if_pos e2] at R
    generalize (a - b) % 18446744073709551616 = z at R
    clear e2 h h0 h1 h2 h3 ha hb
    go_enter Try.func13, Try.ntmps13
    go_wp2_with (go_at_call 28; refine (exact_no _ _ (by decide) _).mono ?_; rintro e w' ⟨rfl, rfl⟩)
    go_ret2
    exact ⟨rfl, rfl⟩

theorem mul64_any (a b : Int) (ha : U64 a) (hb : U64 b) (w : World) :
    Calls Try.prog 30 #[.int .u64 a, .int .u64 b] w fun e w' => e = .returned (.tuple #[.int .u64 (a * b / 18446744073709551616), .int .u64 (a * b % 18446744073709551616)]) ∧ w = w' := by
  obtain ⟨a, rfl⟩ := Int.eq_ofNat_of_zero_le ha.1
  obtain ⟨b, rfl⟩ := Int.eq_ofNat_of_zero_le hb.1
  have := ha.2; have := hb.2
  refine (Try.bits_Mul64 a b (by omega) (by omega) w).mono ?_
  rintro e w' ⟨rfl, rfl⟩
  exact ⟨by simp, rfl⟩

set_option maxHeartbeats 400000 in
theorem mul_any (a b : Int) (ha : U64 a) (hb : U64 b) (w : World) :
    Calls Try.prog 15 #[.int .u64 a, .int .u64 b] w fun e w' => e = .returned (.tuple #[.int .u64 (mulN a b), .bool (mulB a b)]) ∧ w = w' := by
  have C := mul64_any a b ha hb
  have hn := Int.mul_nonneg ha.1 hb.1
  by_cases h : a * b < 18446744073709551616
  · have e1 : a * b % 18446744073709551616 = a * b := by omega
    have e2 : a * b / 18446744073709551616 = 0 := by omega
    simp only [mulN, mulB, h, if_true, decide_true]
    rw [e1, e2] at C
    generalize a * b = z at C ⊢
    clear e1 e2 h hn ha hb
    have H := Lib.hid C; clear C
    go_enter Try.func15, Try.ntmps15
    go_wp2_with (first | (go_at_call 30; refine (H.out _).mono ?_; rintro e w' ⟨rfl, rfl⟩) | (go_at_call 28; refine (exact_ok _ _).mono ?_; rintro e w' ⟨rfl, rfl⟩))
    go_ret2
    exact ⟨rfl, rfl⟩
  · have e2 : (a * b / 18446744073709551616 != 0) = true := by rw [bne_iff_ne]; omega
    simp only [mulN, mulB, h, if_false, decide_false]
    generalize a * b % 18446744073709551616 = z at C
    generalize a * b / 18446744073709551616 = y at C e2
    clear h hn ha hb
    have H := Lib.hid C; clear C
    go_enter Try.func15, Try.ntmps15
    go_wp2_with (first | (go_at_call 30; refine (H.out _).mono ?_; rintro e w' ⟨rfl, rfl⟩) | (go_at_call 28; refine (exact_no _ _ e2 _).mono ?_; rintro e w' ⟨rfl, rfl⟩))
    go_ret2
    exact ⟨rfl, rfl⟩

set_option maxHeartbeats 400000 in
theorem ceil_zero (a : Int) (w : World) :
    Calls Try.prog 17 #[.int .u64 a, .int .u64 0] w fun e w' => e = .returned (.tuple #[.int .u64 0, .bool false]) ∧ w = w' := by
  go_enter Try.func17, Try.ntmps17
  go_wp2
  go_ret2
  exact ⟨rfl, rfl⟩

set_option maxHeartbeats 400000 in
theorem ceil_pos (a b : Int) (h0 : 0 ≤ a) (h1 : a ≤ 18446744073709551615) (h2 : 0 < b) (h3 : b ≤ 18446744073709551615) (w : World) :
    Calls Try.prog 17 #[.int .u64 a, .int .u64 b] w fun e w' => e = .returned (.tuple #[.int .u64 (ceilN a b), .bool true]) ∧ w = w' := by
  have hb : (b == 0) = false := by rw [beq_eq_false_iff_ne]; omega
  have hz : ¬ b = 0 := by omega
  go_enter Try.func17, Try.ntmps17
  go_wp2
  · rename_i hm
    have hm' : a % b ≠ 0 := by simpa using hm
    have := div_succ_le h0 h2 hm'
    have := Int.ediv_nonneg h0 (Int.le_of_lt h2)
    go_ret2
    refine ⟨?_, rfl⟩
    rw [IntWalk.u64_in _ (by omega), ceilN, if_neg hz, if_neg hm']
    rfl
  · rename_i hm
    have hm' : a % b = 0 := by simpa using hm
    go_ret2
    refine ⟨?_, rfl⟩
    rw [ceilN, if_neg hz, if_pos hm']
    rfl

theorem ceil_any (a b : Int) (ha : U64 a) (hb : U64 b) (w : World) :
    Calls Try.prog 17 #[.int .u64 a, .int .u64 b] w fun e w' => e = .returned (.tuple #[.int .u64 (ceilN a b), .bool (ceilB b)]) ∧ w = w' := by
  have := ha.1; have := ha.2; have := hb.1; have := hb.2
  by_cases h : b = 0
  · subst h; simpa [ceilN, ceilB] using ceil_zero a w
  · have e : ceilB b = true := by simp [ceilB, h]
    rw [e]; exact ceil_pos a b (by omega) (by omega) (by omega) (by omega) w

set_option maxHeartbeats 400000 in
theorem gcd_any (a b : Nat) (ha : (a : Int) ≤ 18446744073709551615) (hb : (b : Int) ≤ 18446744073709551615) (w : World) :
    Calls Try.prog 39 #[.int .u64 a, .int .u64 b] w fun e w' => e = .returned (.int .u64 (Nat.gcd a b)) ∧ Below w.heap.size w w' := by
  go_enter Try.func39, Try.ntmps39
  go_wp2
  go_loopw [0, 1] (fun u v wr => ∃ x y : Nat, (x : Int) ≤ 18446744073709551615 ∧ (y : Int) ≤ 18446744073709551615 ∧ Hid (Nat.gcd x y = Nat.gcd a b) ∧ u = .int .u64 x ∧ v = .int .u64 y ∧ Below w.heap.size w wr) (fun _ v _ => (intOf v).toNat)
  case atStart => exact ⟨a, b, ha, hb, rfl, rfl, rfl, Below.refl _ _⟩
  case round =>
    obtain ⟨x, y, hx, hy, hg, rfl, rfl, hbel⟩ := hrel
    by_cases h : y = 0
    · have h1 : ((y : Int) != 0) = false := by rw [bne_eq_false_iff_eq]; omega
      have hg' : Hid (x = Nat.gcd a b) := by have := hg.out; rw [h, Nat.gcd_zero_right] at this; exact this
      clear h hg
      go_wp2
      go_ret
      exact ⟨by rw [← hg'.out]; rfl, hbel⟩
    · have hpos : (0 : Int) < y := by omega
      have h1 : ((y : Int) != 0) = true := by rw [bne_iff_ne]; omega
      have h2 : ((y : Int) == 0) = false := by rw [beq_eq_false_iff_ne]; omega
      have h3 : (x : Int) % y < y := Int.emod_lt_of_pos _ hpos
      have h4 : 0 ≤ (x : Int) % y := Int.emod_nonneg _ (by omega)
      have hg' : Hid (Nat.gcd y (x % y) = Nat.gcd a b) := by
        have := hg.out
        rw [Nat.gcd_comm, Nat.gcd_rec] at this
        rw [Nat.gcd_comm]
        exact this
      clear hg
      go_wp2
      go_quiet (fail)
      go_wp2
      go_roundw
      case rel => exact ⟨y, x % y, hy, by omega, hg', rfl, by go_num, below_drewN hbel _⟩
      case measure => simp [intOf]; omega

end Go.Proofs.Ytlpkilfpjdggeaa
