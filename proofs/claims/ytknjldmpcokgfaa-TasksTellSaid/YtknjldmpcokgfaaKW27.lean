/-
  The walks over accesses, and over the greatest chunk.
-/
import Derived.Test.YtknjldmpcokgfaaKW11
namespace Go.Proofs.Ytknjldmpcokgfaa
open Go.RowKit Go.Maps

/-- Which set a tick uses, and whether one does. -/
def accOf (x : TV) (k : Int) : Int × Bool := if k < 0 then (0, false) else (x.us[(k % x.us.length).toNat]?.getD 0, decide (x.us ≠ []))
theorem acc_neg (x : TV) {k : Int} (h : k < 0) : accOf x k = (0, false) := by unfold accOf; rw [if_pos h]
theorem acc_nil {x : TV} {k : Int} (h : ¬ k < 0) (hu : x.us = []) : accOf x k = (0, false) := by unfold accOf; rw [if_neg h, hu]; rfl
theorem acc_at {x : TV} {k : Int} {j : Nat} {u : Int} (h : ¬ k < 0) (hj : k % x.us.length = (j : Int)) (hu : x.us[j]? = some u) : accOf x k = (u, true) := by
  unfold accOf
  rw [if_neg h, hj]
  have : x.us ≠ [] := by rintro e; rw [e] at hu; simp at hu
  simp [hu, this]
set_option maxRecDepth 100000 in
set_option maxHeartbeats 2000000 in
theorem acc_any (x : TV) (k : Int) (w : World) (hx : x.ok w) : Calls Try.prog 25 #[.agg #[.int .i64 x.id, .int .i64 x.c, .int .i64 x.d, .int .i64 x.t, .int .i64 x.p, .slice x.a1 x.ch.length x.c1, .slice x.a2 x.us.length x.c2], .int .i64 k] w fun e w' => e = .returned (.tuple #[.int .i64 (accOf x k).1, .bool (accOf x k).2]) ∧ Below w.heap.size w w' := by
  have hl2 := hx.l2
  have hm2 := hx.m2
  have hn9 : (x.us.length : Int) ≤ 9223372036854775807 := by omega
  clear hl2 hm2
  by_cases hk : k < 0
  · rw [acc_neg x hk]
    clear hx
    have hk2 : decide (k < 0) = true := decide_eq_true hk
    by_cases hu : x.us.length = 0
    · rw [hu]
      go_enter Try.func25, Try.ntmps25
      go_wp2_with fail
      go_ret2
      exact ⟨rfl, (by repeat (first | exact Below.refl _ _ | (with_reducible assumption) | refine bw_alloc ?_ _ | refine bw_drew ?_))⟩
    · have d1 : ((x.us.length : Int) == 0) = false := by rw [beq_eq_false_iff_ne]; omega
      generalize x.us.length = n at *
      go_enter Try.func25, Try.ntmps25
      go_wp2_with fail
      go_ret2
      exact ⟨rfl, (by repeat (first | exact Below.refl _ _ | (with_reducible assumption) | refine bw_alloc ?_ _ | refine bw_drew ?_))⟩
  · have hk2 : decide (k < 0) = false := decide_eq_false hk
    by_cases hu : x.us = []
    · rw [acc_nil hk hu]
      have hu2 : x.us.length = 0 := by rw [hu]; rfl
      clear hx hu
      rw [hu2]
      go_enter Try.func25, Try.ntmps25
      go_wp2_with fail
      go_ret2
      exact ⟨rfl, (by repeat (first | exact Below.refl _ _ | (with_reducible assumption) | refine bw_alloc ?_ _ | refine bw_drew ?_))⟩
    · have hp : 0 < x.us.length := List.length_pos_iff.2 hu
      obtain ⟨j, hj, hjl⟩ : ∃ j : Nat, k % x.us.length = (j : Int) ∧ j < x.us.length := by
        have a := Int.emod_nonneg k (show (x.us.length : Int) ≠ 0 by omega)
        have b := Int.emod_lt_of_pos k (show (0 : Int) < x.us.length by omega)
        exact ⟨(k % x.us.length).toNat, by omega, by omega⟩
      obtain ⟨u, hu⟩ := nth_of (rfl : x.us.length = x.us.length) hjl
      rw [acc_at hk hj hu]
      obtain ⟨g, o, ha, hc⟩ := hx.two.at_ hu
      have hgl : g < w.heap.size := block_of_cell hc
      rw [ha]
      have e1 : k.tmod x.us.length = (j : Int) := by rw [Int.tmod_eq_emod_of_nonneg (by omega)]; exact hj
      have d1 : ((x.us.length : Int) == 0) = false := by rw [beq_eq_false_iff_ne]; omega
      have z1 : ¬ (x.us.length : Int) = 0 := by omega
      have z2 : ¬ x.us.length = 0 := by omega
      have hj1 : (j : Int) < (x.us.length : Int) := by omega
      have hj0 : (0 : Int) ≤ (j : Int) := by omega
      clear hx hu ha hj hp
      generalize x.us.length = n at *
      go_enter Try.func25, Try.ntmps25
      go_upto_region 3 with fail
      go_quiet (fail)
      go_wp2_with fail
      go_ret2
      exact ⟨rfl, below_same (Below.alloc (Below.refl _ _) (Nat.le_refl _) _) rfl rfl rfl rfl⟩
set_option maxRecDepth 100000 in
set_option maxHeartbeats 2000000 in
theorem racc_any (x : TV) (k : Int) (w : World) (hx : x.ok w) : Calls Try.prog 26 #[.agg #[.int .i64 x.id, .int .i64 x.c, .int .i64 x.d, .int .i64 x.t, .int .i64 x.p, .slice x.a1 x.ch.length x.c1, .slice x.a2 x.us.length x.c2], .int .i64 k] w fun e w' => e = .returned (.tuple #[.int .i64 (accOf x k).1, .bool (accOf x k).2]) ∧ Below w.heap.size w w' := by
  have hl2 := hx.l2
  have hm2 := hx.m2
  have hn9 : (x.us.length : Int) ≤ 9223372036854775807 := by omega
  clear hl2 hm2
  by_cases hk : k < 0
  · rw [acc_neg x hk]
    clear hx
    have hk2 : decide (k < 0) = true := decide_eq_true hk
    by_cases hu : x.us.length = 0
    · rw [hu]
      go_enter Try.func26, Try.ntmps26
      go_wp2_with fail
      go_ret2
      exact ⟨rfl, (by repeat (first | exact Below.refl _ _ | (with_reducible assumption) | refine bw_alloc ?_ _ | refine bw_drew ?_))⟩
    · have d1 : ((x.us.length : Int) == 0) = false := by rw [beq_eq_false_iff_ne]; omega
      generalize x.us.length = n at *
      go_enter Try.func26, Try.ntmps26
      go_wp2_with fail
      go_ret2
      exact ⟨rfl, (by repeat (first | exact Below.refl _ _ | (with_reducible assumption) | refine bw_alloc ?_ _ | refine bw_drew ?_))⟩
  · have hk2 : decide (k < 0) = false := decide_eq_false hk
    by_cases hu : x.us = []
    · rw [acc_nil hk hu]
      have hu2 : x.us.length = 0 := by rw [hu]; rfl
      clear hx hu
      rw [hu2]
      go_enter Try.func26, Try.ntmps26
      go_wp2_with fail
      go_ret2
      exact ⟨rfl, (by repeat (first | exact Below.refl _ _ | (with_reducible assumption) | refine bw_alloc ?_ _ | refine bw_drew ?_))⟩
    · have hp : 0 < x.us.length := List.length_pos_iff.2 hu
      obtain ⟨j, hj, hjl⟩ : ∃ j : Nat, k % x.us.length = (j : Int) ∧ j < x.us.length := by
        have a := Int.emod_nonneg k (show (x.us.length : Int) ≠ 0 by omega)
        have b := Int.emod_lt_of_pos k (show (0 : Int) < x.us.length by omega)
        exact ⟨(k % x.us.length).toNat, by omega, by omega⟩
      obtain ⟨u, hu⟩ := nth_of (rfl : x.us.length = x.us.length) hjl
      rw [acc_at hk hj hu]
      obtain ⟨g, o, ha, hc⟩ := hx.two.at_ hu
      have hgl : g < w.heap.size := block_of_cell hc
      rw [ha]
      have e1 : k.tmod x.us.length = (j : Int) := by rw [Int.tmod_eq_emod_of_nonneg (by omega)]; exact hj
      have d1 : ((x.us.length : Int) == 0) = false := by rw [beq_eq_false_iff_ne]; omega
      have z1 : ¬ (x.us.length : Int) = 0 := by omega
      have z2 : ¬ x.us.length = 0 := by omega
      have hj1 : (j : Int) < (x.us.length : Int) := by omega
      have hj0 : (0 : Int) ≤ (j : Int) := by omega
      clear hx hu ha hj hp
      generalize x.us.length = n at *
      go_enter Try.func26, Try.ntmps26
      go_upto_region 3 with fail
      go_quiet (fail)
      go_wp2_with fail
      go_ret2
      exact ⟨rfl, below_same (Below.alloc (Below.refl _ _) (Nat.le_refl _) _) rfl rfl rfl rfl⟩
end Go.Proofs.Ytknjldmpcokgfaa
