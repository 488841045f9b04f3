/-
  The walks over whether two rows of tasks, and two systems, are the same.
-/
import Derived.Test.YtknjldmpcokgfaaKW4
namespace Go.Proofs.Ytknjldmpcokgfaa
open Go.RowKit Go.Maps

theorem row_step {L M : List TV} {k : Nat} {x y : TV} (h : (L.take k).map TV.tk = (M.take k).map TV.tk) (hx : L[k]? = some x) (hy : M[k]? = some y) (e : x.tk = y.tk) : (L.take (k + 1)).map TV.tk = (M.take (k + 1)).map TV.tk := by
  rw [List.take_add_one, List.take_add_one, List.map_append, List.map_append, h, hx, hy]
  simp [e]
theorem row_end {L M : List TV} {k : Nat} (h : (L.take k).map TV.tk = (M.take k).map TV.tk) (hl : L.length = k) (hm : M.length = k) : L.map TV.tk = M.map TV.tk := by
  rwa [List.take_of_length_le (by omega), List.take_of_length_le (by omega)] at h
theorem row_not {L M : List TV} {k : Nat} {x y : TV} (hx : L[k]? = some x) (hy : M[k]? = some y) (e : ¬ x.tk = y.tk) : ¬ L.map TV.tk = M.map TV.tk := by
  intro h
  have h1 : (L.map TV.tk)[k]? = some x.tk := by simp [hx]
  have h2 : (M.map TV.tk)[k]? = some y.tk := by simp [hy]
  rw [h, h2] at h1; exact e (Option.some.inj h1).symm
theorem row_len {L M : List TV} (h : ¬ L.length = M.length) : ¬ L.map TV.tk = M.map TV.tk := by
  intro z
  have := congrArg List.length z
  simp at this; exact h this

set_option maxRecDepth 100000 in
set_option maxHeartbeats 4000000 in
theorem eq_tasks {w : World} {a b : Option Addr} {n m ca cb : Nat} {L M : List TV} (ha : Tasks w a n ca L) (hb : Tasks w b m cb M) :
    Calls Try.prog 39 #[.slice a n ca, .slice b m cb, .func (.func 16) #[] #[]] w fun e w' => e = .returned (.bool (decide (L.map TV.tk = M.map TV.tk))) ∧ Below w.heap.size w w' := by
  have HA := Lib.hid ha
  have HB := Lib.hid hb
  have hn : (n : Int) ≤ 9223372036854775807 := by have := ha.le; have := ha.small; omega
  have hm : (m : Int) ≤ 9223372036854775807 := by have := hb.le; have := hb.small; omega
  clear ha hb
  by_cases hnm : n = m
  · subst hnm
    go_enter Try.func39, Try.ntmps39
    go_wp2_with fail
    go_loopw [17] (fun u wr => ∃ k : Nat, k ≤ n ∧ u = .int .i64 k ∧ Hid ((L.take k).map TV.tk = (M.take k).map TV.tk) ∧ Hid (Below w.heap.size w wr)) (fun u _ => (n - intOf u).toNat)
    case atStart => exact ⟨0, by omega, rfl, by show _ = _; simp, Below.refl _ _⟩
    case round =>
      obtain ⟨k, hk, rfl, HS, HP⟩ := hrel
      by_cases hlt : k < n
      · obtain ⟨x, hx⟩ := nth_of HA.out.len hlt
        obtain ⟨y, hy⟩ := nth_of HB.out.len hlt
        obtain ⟨g, o, rfl, ⟨c0, c1, c2, c3, c4, c5, c6⟩⟩ := (HA.out.view.below HP.out).at_ hx
        obtain ⟨g2, o2, rfl, ⟨d0, d1, d2, d3, d4, d5, d6⟩⟩ := (HB.out.view.below HP.out).at_ hy
        have hk1 : (k : Int) < (n : Int) := by omega
        have hk0 : (0 : Int) ≤ (k : Int) := by omega
        have hg := block_of_cell d0
        have C : Hid (∀ w', Below wr.heap.size wr w' → _) := fun w' hb => same_task x y w' (((HA.out.ok.at_ hx).below HP.out).below hb) (((HB.out.ok.at_ hy).below HP.out).below hb)
        unfold TV.val at C
        by_cases hxy : x.tk = y.tk
        · have HS2 := Lib.hid (row_step HS.out hx hy hxy)
          rw [decide_eq_true hxy] at C
          clear hx hy HS hxy
          go_wp2_with (go_at_call 16; (with_reducible refine (C.out _ (by repeat (first | exact Below.refl _ _ | (with_reducible assumption) | refine bw_alloc ?_ _ | refine bw_drew ?_))).mono ?_); rintro e w1 ⟨rfl, b1⟩; have B1 := Lib.hid b1; clear b1)
          go_roundw
          case rel => exact ⟨k + 1, by omega, by go_num, HS2, below_up HP.out (below_up (by repeat (first | exact Below.refl _ _ | (with_reducible assumption) | refine bw_alloc ?_ _ | refine bw_drew ?_)) B1.out)⟩
          case measure => simp [intOf]; omega
        · have HN := Lib.hid (row_not hx hy hxy)
          rw [decide_eq_false hxy] at C
          clear hx hy HS hxy
          go_wp2_with (go_at_call 16; (with_reducible refine (C.out _ (by repeat (first | exact Below.refl _ _ | (with_reducible assumption) | refine bw_alloc ?_ _ | refine bw_drew ?_))).mono ?_); rintro e w1 ⟨rfl, b1⟩; have B1 := Lib.hid b1; clear b1)
          go_ret
          rw [decide_eq_false HN.out]
          exact ⟨rfl, below_up HP.out (below_up (by repeat (first | exact Below.refl _ _ | (with_reducible assumption) | refine bw_alloc ?_ _ | refine bw_drew ?_)) B1.out)⟩
      · obtain rfl : k = n := by omega
        have HQ := Lib.hid (row_end HS.out HA.out.len HB.out.len)
        go_wp2_with fail
        go_ret
        rw [decide_eq_true HQ.out]
        exact ⟨rfl, HP.out⟩
  · have HQ := Lib.hid (row_len (L := L) (M := M) (by rw [HA.out.len, HB.out.len]; exact hnm))
    have d1 : ((n : Int) == (m : Int)) = false := by rw [beq_eq_false_iff_ne]; omega
    have d2 : ((n : Int) != (m : Int)) = true := by rw [bne, d1]; rfl
    go_enter Try.func39, Try.ntmps39
    go_wp2_with fail
    go_ret
    rw [decide_eq_false HQ.out]
    exact ⟨rfl, Below.refl _ _⟩

set_option maxRecDepth 100000 in
set_option maxHeartbeats 4000000 in
theorem rsame_tasks {w : World} {a b : Option Addr} {n m ca cb : Nat} {L M : List TV} (ha : Tasks w a n ca L) (hb : Tasks w b m cb M) :
    Calls Try.prog 18 #[.slice a n ca, .slice b m cb] w fun e w' => e = .returned (.bool (decide (L.map TV.tk = M.map TV.tk))) ∧ Below w.heap.size w w' := by
  have HA := Lib.hid ha
  have HB := Lib.hid hb
  have hn : (n : Int) ≤ 9223372036854775807 := by have := ha.le; have := ha.small; omega
  have hm : (m : Int) ≤ 9223372036854775807 := by have := hb.le; have := hb.small; omega
  clear ha hb
  by_cases hnm : n = m
  · subst hnm
    go_enter Try.func18, Try.ntmps18
    go_wp2_with fail
    go_loopw [5] (fun u wr => ∃ k : Nat, k ≤ n ∧ u = .int .i64 k ∧ Hid ((L.take k).map TV.tk = (M.take k).map TV.tk) ∧ Hid (Below w.heap.size w wr)) (fun u _ => (n - intOf u).toNat)
    case atStart => exact ⟨0, by omega, rfl, by show _ = _; simp, Below.refl _ _⟩
    case round =>
      obtain ⟨k, hk, rfl, HS, HP⟩ := hrel
      by_cases hlt : k < n
      · obtain ⟨x, hx⟩ := nth_of HA.out.len hlt
        obtain ⟨y, hy⟩ := nth_of HB.out.len hlt
        obtain ⟨g, o, rfl, ⟨c0, c1, c2, c3, c4, c5, c6⟩⟩ := (HA.out.view.below HP.out).at_ hx
        obtain ⟨g2, o2, rfl, ⟨d0, d1, d2, d3, d4, d5, d6⟩⟩ := (HB.out.view.below HP.out).at_ hy
        have hk1 : (k : Int) < (n : Int) := by omega
        have hk0 : (0 : Int) ≤ (k : Int) := by omega
        have C : Hid (∀ w', Below wr.heap.size wr w' → _) := fun w' hb => rsame_task x y w' (((HA.out.ok.at_ hx).below HP.out).below hb) (((HB.out.ok.at_ hy).below HP.out).below hb)
        unfold TV.val at C
        by_cases hxy : x.tk = y.tk
        · have HS2 := Lib.hid (row_step HS.out hx hy hxy)
          rw [decide_eq_true hxy] at C
          clear hx hy HS hxy
          go_upto_region 6 with fail
          go_still_tail 8, (by kernel_rfl)
          go_wp2_with (go_at_call 17; (with_reducible refine (C.out _ (by repeat (first | exact Below.refl _ _ | (with_reducible assumption) | refine bw_alloc ?_ _ | refine bw_drew ?_))).mono ?_); rintro e w1 ⟨rfl, b1⟩; have B1 := Lib.hid b1; clear b1)
          go_roundw
          case rel => exact ⟨k + 1, by omega, by go_num, HS2, below_up HP.out (below_up (by repeat (first | exact Below.refl _ _ | (with_reducible assumption) | refine bw_alloc ?_ _ | refine bw_drew ?_)) B1.out)⟩
          case measure => simp [intOf]; omega
        · have HN := Lib.hid (row_not hx hy hxy)
          rw [decide_eq_false hxy] at C
          clear hx hy HS hxy
          go_upto_region 6 with fail
          go_still_tail 8, (by kernel_rfl)
          go_wp2_with (go_at_call 17; (with_reducible refine (C.out _ (by repeat (first | exact Below.refl _ _ | (with_reducible assumption) | refine bw_alloc ?_ _ | refine bw_drew ?_))).mono ?_); rintro e w1 ⟨rfl, b1⟩; have B1 := Lib.hid b1; clear b1)
          go_ret
          rw [decide_eq_false HN.out]
          exact ⟨rfl, below_up HP.out (below_up (by repeat (first | exact Below.refl _ _ | (with_reducible assumption) | refine bw_alloc ?_ _ | refine bw_drew ?_)) B1.out)⟩
      · obtain rfl : k = n := by omega
        have HQ := Lib.hid (row_end HS.out HA.out.len HB.out.len)
        go_wp2_with fail
        go_ret
        rw [decide_eq_true HQ.out]
        exact ⟨rfl, HP.out⟩
  · have HQ := Lib.hid (row_len (L := L) (M := M) (by rw [HA.out.len, HB.out.len]; exact hnm))
    have d1 : ((n : Int) == (m : Int)) = false := by rw [beq_eq_false_iff_ne]; omega
    have d2 : ((n : Int) != (m : Int)) = true := by rw [bne, d1]; rfl
    go_enter Try.func18, Try.ntmps18
    go_wp2_with fail
    go_ret
    rw [decide_eq_false HQ.out]
    exact ⟨rfl, Below.refl _ _⟩

/-- A system by value. -/
abbrev sysV (s r : Int) (a : Option Addr) (n cap : Nat) : Value := .agg #[.int .i64 s, .int .i64 r, .slice a n cap]
set_option maxRecDepth 100000 in
set_option maxHeartbeats 4000000 in
theorem same_sys {w : World} {a b : Option Addr} {n m ca cb : Nat} {L M : List TV} (s r : Int) (ha : Tasks w a n ca L) (hb : Tasks w b m cb M) :
    Calls Try.prog 14 #[.agg #[.int .i64 s, .int .i64 r, .slice a n ca], .agg #[.int .i64 s, .int .i64 r, .slice b m cb]] w fun e w' => e = .returned (.bool (decide (L.map TV.tk = M.map TV.tk))) ∧ Below w.heap.size w w' := by
  have C : Hid (∀ w', Below w.heap.size w w' → _) := fun w' hw => eq_tasks (ha.below hw) (hb.below hw)
  obtain ⟨q, hq⟩ : ∃ q, decide (L.map TV.tk = M.map TV.tk) = q := ⟨_, rfl⟩
  rw [hq] at C ⊢
  clear hq ha hb
  go_enter Try.func14, Try.ntmps14
  go_wp2_with (go_at_call 39; (with_reducible refine (C.out _ (by repeat (first | exact Below.refl _ _ | (with_reducible assumption) | refine bw_alloc ?_ _ | refine bw_drew ?_))).mono ?_); rintro e w1 ⟨rfl, b1⟩; have B1 := Lib.hid b1; clear b1)
  go_ret
  exact ⟨rfl, below_up (by repeat (first | exact Below.refl _ _ | (with_reducible assumption) | refine bw_alloc ?_ _ | refine bw_drew ?_)) B1.out⟩
end Go.Proofs.Ytknjldmpcokgfaa
