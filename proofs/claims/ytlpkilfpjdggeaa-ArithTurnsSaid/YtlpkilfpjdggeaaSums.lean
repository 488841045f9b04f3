/-
  The walks over sums, divisors and multiples of rows.
-/
import Derived.Test.YtlpkilfpjdggeaaRows
import Derived.Test.YtlpkilfpjdggeaaShelf
import Derived.Test.YtlpkilfpjdggeaaNum
import Derived.WalkKit
import Derived.WalkSpells
import Derived.WalkLawsBesides
import Derived.Laws.Externs
import Derived.Shelf.Spec.BitsCarry
import Derived.Lib.Hide
import Derived.Conc.MuLone
import Derived.Test.YtlpkilfpjdggeaaFold
import Derived.Deep.QuietTactic
import Derived.BigQuiet
namespace Go.Proofs.Ytlpkilfpjdggeaa
open Go.RowKit

theorem joins_add : Joins 11 addN addB U64 where
  enter := fun _ _ => MuLone.run_callFunc_enter Try.func11 (by kernel_rfl) rfl _ _
  call := fun a b w ha hb => (add_any a b ha hb w).mono (by rintro e w' ⟨rfl, rfl⟩; exact ⟨rfl, Below.refl _ _⟩)
  good := fun a b ha hb _ => addN_u64 ha hb

set_option maxHeartbeats 400000 in
theorem gcd1_any (a b : Int) (ha : U64 a) (hb : U64 b) (w : World) :
    Calls Try.prog 38 #[.int .u64 a, .int .u64 b] w fun e w' => e = .returned (.tuple #[.int .u64 (gcdN a b), .bool true]) ∧ Below w.heap.size w w' := by
  obtain ⟨x, rfl⟩ := Int.eq_ofNat_of_zero_le ha.1
  obtain ⟨y, rfl⟩ := Int.eq_ofNat_of_zero_le hb.1
  have hx := ha.2; have hy := hb.2
  have C := Lib.hid (gcd_any x y (by omega) (by omega))
  have e1 : gcdN x y = (Nat.gcd x y : Nat) := by simp [gcdN]
  rw [e1]
  generalize Nat.gcd x y = g at C
  clear e1 ha hb hx hy
  go_enter Try.func38, Try.ntmps38
  go_wp2_with (go_at_call 39; refine (C.out _).mono ?_; rintro e w' ⟨rfl, hw⟩)
  go_ret2
  exact ⟨rfl, hw⟩

theorem joins_gcd : Joins 38 gcdN (fun _ _ => true) U64 where
  enter := fun _ _ => MuLone.run_callFunc_enter Try.func38 (by kernel_rfl) rfl _ _
  call := fun a b w ha hb => gcd1_any a b ha hb w
  good := fun a b ha hb _ => gcdN_u64 ha hb

set_option maxHeartbeats 400000 in
theorem lcm_zero (a : Int) (w : World) :
    Calls Try.prog 33 #[.int .u64 a, .int .u64 0] w fun e w' => e = .returned (.tuple #[.int .u64 0, .bool false]) ∧ w = w' := by
  go_enter Try.func33, Try.ntmps33
  go_wp2
  go_ret2
  exact ⟨rfl, rfl⟩

set_option maxHeartbeats 400000 in
theorem lcm_pos (x y : Nat) (hx0 : 0 < x) (hx : (x : Int) ≤ 18446744073709551615) (hy0 : 0 < y) (hy : (y : Int) ≤ 18446744073709551615) (w : World) :
    Calls Try.prog 33 #[.int .u64 x, .int .u64 y] w fun e w' => e = .returned (.tuple #[.int .u64 (mulN ((x : Int) / (Nat.gcd x y : Nat)) y), .bool (mulB ((x : Int) / (Nat.gcd x y : Nat)) y)]) ∧ Below w.heap.size w w' := by
  have C := Lib.hid (gcd_any x y (by omega) (by omega))
  have hg : 1 ≤ ((Nat.gcd x y : Nat) : Int) := by have := Nat.gcd_pos_of_pos_left y hx0; omega
  generalize Nat.gcd x y = g at C hg ⊢
  have h1 : 0 ≤ (x : Int) / g := Int.ediv_nonneg (by omega) (by omega)
  have h2 : (x : Int) / g ≤ x := Int.ediv_le_self _ (by omega)
  have C2 := Lib.hid (mul_any ((x : Int) / g) y ⟨h1, by omega⟩ ⟨by omega, by omega⟩)
  have hy1 : ((y : Int) == 0) = false := by rw [beq_eq_false_iff_ne]; omega
  have hg1 : ((g : Int) == 0) = false := by rw [beq_eq_false_iff_ne]; omega
  have h3 : (x : Int) / g ≤ 18446744073709551615 := by omega
  clear h2
  go_enter Try.func33, Try.ntmps33
  go_wp2_with (first | (go_at_call 39; refine (C.out _).mono ?_; rintro e w' ⟨rfl, hw⟩) | (go_at_call 15; (with_reducible refine (C2.out _).mono ?_); rintro e w' ⟨rfl, rfl⟩))
  go_ret2
  exact ⟨rfl, hw⟩

theorem joins_lcm : Joins 33 lcmN lcmB (fun a => U64 a ∧ 0 < a) where
  enter := fun _ _ => MuLone.run_callFunc_enter Try.func33 (by kernel_rfl) rfl _ _
  call := fun a b w ha hb => by
    obtain ⟨x, rfl⟩ := Int.eq_ofNat_of_zero_le ha.1.1
    obtain ⟨y, rfl⟩ := Int.eq_ofNat_of_zero_le hb.1
    have hx := ha.1.2; have hy := hb.2; have hx0 := ha.2
    by_cases h : y = 0
    · subst h
      refine (lcm_zero x w).mono ?_
      rintro e w' ⟨rfl, rfl⟩
      exact ⟨by simp [lcmN, lcmB], Below.refl _ _⟩
    · have h' : ¬ (y : Int) = 0 := by omega
      simpa only [lcmN, lcmB, if_neg h', Int.toNat_natCast] using lcm_pos x y (by omega) (by omega) (by omega) (by omega) w
  good := fun a b ha hb h => lcmN_good ha.1 ha.2 hb h


set_option maxHeartbeats 400000 in
theorem sum_any (zs : List Int) (hz : ∀ z ∈ zs, U64 z) (hn : (zs.length : Int) ≤ 9223372036854775807) (cap : Nat) (ao : Option Addr) (w : World) (hr : Reads w w.heap.size ao zs) :
    Calls Try.prog 19 #[.slice ao zs.length cap] w fun e w' => e = .returned (.tuple #[.int .u64 (foldR addN addB 0 zs).1, .bool (foldR addN addB 0 zs).2]) ∧ Below w.heap.size w w' := by
  have hb : Below w.heap.size w ((w.alloc (.cells #[.slice ao zs.length cap] 24)).alloc (.cells #[.int .i64 0] 3)) := ((Below.refl _ _).alloc (Nat.le_refl _) _).alloc (by simp) _
  have C := fold_any _ _ _ _ joins_add zs hz hn w.heap.size cap (w.heap.size + 1) w.heap.size ao 0 ⟨by omega, by omega⟩ ((w.alloc (.cells #[.slice ao zs.length cap] 24)).alloc (.cells #[.int .i64 0] 3))
    (hr.below hb) (by simp) (by simp) (by simp) (by omega) (by omega) (by simp) (by simp; omega)
  have E := each_any zs.length cap ao w
  unfold eachV at C
  generalize foldR addN addB 0 zs = res at C ⊢
  have HC := Lib.hid C; clear C
  have HE := Lib.hid E; clear E
  clear hr hz
  go_enter Try.func19, Try.ntmps19
  go_wp2_with (first | (go_at_call 32; refine (HE.out).mono ?_; rintro e w' ⟨rfl, rfl⟩) | (go_at_call 31; refine (HC.out).mono ?_; rintro e w' ⟨rfl, hw⟩))
  go_ret2
  exact ⟨rfl, hb.trans hw⟩

set_option maxHeartbeats 400000 in
theorem gcds_any (zs : List Int) (hz : ∀ z ∈ zs, U64 z) (hn : (zs.length : Int) ≤ 9223372036854775807) (cap : Nat) (ao : Option Addr) (w : World) (hr : Reads w w.heap.size ao zs) :
    Calls Try.prog 25 #[.slice ao zs.length cap] w fun e w' => e = .returned (.int .u64 (foldR gcdN (fun _ _ => true) 0 zs).1) ∧ Below w.heap.size w w' := by
  have hb : Below w.heap.size w ((w.alloc (.cells #[.slice ao zs.length cap] 24)).alloc (.cells #[.int .i64 0] 3)) := ((Below.refl _ _).alloc (Nat.le_refl _) _).alloc (by simp) _
  have C := fold_any _ _ _ _ joins_gcd zs hz hn w.heap.size cap (w.heap.size + 1) w.heap.size ao 0 ⟨by omega, by omega⟩ ((w.alloc (.cells #[.slice ao zs.length cap] 24)).alloc (.cells #[.int .i64 0] 3))
    (hr.below hb) (by simp) (by simp) (by simp) (by omega) (by omega) (by simp) (by simp; omega)
  have E := each_any zs.length cap ao w
  unfold eachV at C
  generalize foldR gcdN (fun _ _ => true) 0 zs = res at C ⊢
  have HC := Lib.hid C; clear C
  have HE := Lib.hid E; clear E
  clear hr hz
  go_enter Try.func25, Try.ntmps25
  go_wp2_with (first | (go_at_call 32; refine (HE.out).mono ?_; rintro e w' ⟨rfl, rfl⟩) | (go_at_call 31; refine (HC.out).mono ?_; rintro e w' ⟨rfl, hw⟩))
  go_ret
  exact ⟨rfl, hb.trans hw⟩

set_option maxHeartbeats 400000 in
theorem lcms_any (zs : List Int) (hz : ∀ z ∈ zs, U64 z) (hn : (zs.length : Int) ≤ 9223372036854775807) (cap : Nat) (ao : Option Addr) (w : World) (hr : Reads w w.heap.size ao zs) :
    Calls Try.prog 21 #[.slice ao zs.length cap] w fun e w' => e = .returned (.tuple #[.int .u64 (foldR lcmN lcmB 1 zs).1, .bool (foldR lcmN lcmB 1 zs).2]) ∧ Below w.heap.size w w' := by
  have hb : Below w.heap.size w ((w.alloc (.cells #[.slice ao zs.length cap] 24)).alloc (.cells #[.int .i64 0] 3)) := ((Below.refl _ _).alloc (Nat.le_refl _) _).alloc (by simp) _
  have C := fold_any _ _ _ _ joins_lcm zs hz hn w.heap.size cap (w.heap.size + 1) w.heap.size ao 1 ⟨⟨by omega, by omega⟩, by omega⟩ ((w.alloc (.cells #[.slice ao zs.length cap] 24)).alloc (.cells #[.int .i64 0] 3))
    (hr.below hb) (by simp) (by simp) (by simp) (by omega) (by omega) (by simp) (by simp; omega)
  have E := each_any zs.length cap ao w
  unfold eachV at C
  generalize foldR lcmN lcmB 1 zs = res at C ⊢
  have HC := Lib.hid C; clear C
  have HE := Lib.hid E; clear E
  clear hr hz
  go_enter Try.func21, Try.ntmps21
  go_wp2_with (first | (go_at_call 32; refine (HE.out).mono ?_; rintro e w' ⟨rfl, rfl⟩) | (go_at_call 31; refine (HC.out).mono ?_; rintro e w' ⟨rfl, hw⟩))
  go_ret2
  exact ⟨rfl, hb.trans hw⟩

end Go.Proofs.Ytlpkilfpjdggeaa
