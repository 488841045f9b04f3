/-
  The walk over whether two rows of numbers are the same.
-/
import Derived.Test.YtbipjilpogbicaaDoorLMem
namespace Go.Proofs.YtbipjilpogbicaaDoor
open Go.RowKit Go.Maps

theorem same_step {l m : List Int} {k : Nat} {x y : Int} (h : l.take k = m.take k) (hx : l[k]? = some x) (hy : m[k]? = some y) (e : x = y) : l.take (k + 1) = m.take (k + 1) := by
  rw [List.take_add_one, List.take_add_one, h, hx, hy, e]
theorem same_end {l m : List Int} {k : Nat} (h : l.take k = m.take k) (hl : l.length = k) (hm : m.length = k) : l = m := by
  rwa [List.take_of_length_le (by omega), List.take_of_length_le (by omega)] at h
theorem same_not {l m : List Int} {k : Nat} {x y : Int} (hx : l[k]? = some x) (hy : m[k]? = some y) (e : ¬ x = y) : ¬ l = m := by
  rintro rfl; rw [hx] at hy; cases hy; exact e rfl

set_option maxRecDepth 100000 in
set_option maxHeartbeats 2000000 in
theorem samelong_any (n m ca cb : Nat) (hn : (n : Int) ≤ 9223372036854775807) (hm : (m : Int) ≤ 9223372036854775807) (a b : Option Addr) (l r : List Int) (hl : l.length = n) (hr : r.length = m) (w : World) (ha : Ints w a l) (hb : Ints w b r) :
    Calls Tryd.prog 22 #[.slice a n ca, .slice b m cb] w fun e w' => e = .returned (.bool (decide (l = r))) ∧ Below w.heap.size w w' := by
  have HA := Lib.hid ha
  have HB := Lib.hid hb
  have HL := Lib.hid hl
  have HR := Lib.hid hr
  clear ha hb hl hr
  by_cases hnm : n = m
  · subst hnm
    go_enter Tryd.func22, Tryd.ntmps22
    go_wp2
    go_loopw [5] (fun u wr => ∃ k : Nat, k ≤ n ∧ u = .int .i64 k ∧ Hid (l.take k = r.take k) ∧ Hid (Below w.heap.size w wr)) (fun u _ => (n - intOf u).toNat)
    case atStart => exact ⟨0, by omega, rfl, by show _ = _; simp, Below.refl _ _⟩
    case round =>
      obtain ⟨k, hk, rfl, HS, HP⟩ := hrel
      by_cases hlt : k < n
      · obtain ⟨x, hx⟩ := nth_of HL.out hlt
        obtain ⟨y, hy⟩ := nth_of HR.out hlt
        obtain ⟨g, o, rfl, c0⟩ := (HA.out.below HP.out).at_ hx
        obtain ⟨g2, o2, rfl, d0⟩ := (HB.out.below HP.out).at_ hy
        have hk1 : (k : Int) < (n : Int) := by omega
        have hk0 : (0 : Int) ≤ (k : Int) := by omega
        by_cases hxy : x = y
        · have HS2 := Lib.hid (same_step HS.out hx hy hxy)
          subst hxy
          clear hx hy HS
          go_upto_region 6 with (fail)
          go_quiet (fail)
          go_wp2
          go_roundw
          case rel => exact ⟨k + 1, by omega, by go_num, HS2, below_same HP.out rfl rfl rfl rfl⟩
          case measure => simp [intOf]; omega
        · have HQ := Lib.hid (same_not hx hy hxy)
          have d1 : (x == y) = false := by rw [beq_eq_false_iff_ne]; exact hxy
          have d2 : (x != y) = true := by rw [bne, d1]; rfl
          clear hx hy HS hxy
          go_upto_region 6 with (fail)
          go_quiet (fail)
          go_wp2
          go_ret
          rw [decide_eq_false HQ.out]
          exact ⟨rfl, below_same HP.out rfl rfl rfl rfl⟩
      · obtain rfl : k = n := by omega
        have HQ := Lib.hid (same_end HS.out HL.out HR.out)
        go_wp2
        go_ret
        rw [decide_eq_true HQ.out]
        exact ⟨rfl, HP.out⟩
  · have HQ : Hid (¬ l = r) := by
      show ¬ _
      rintro rfl; exact hnm (HL.out.symm.trans HR.out)
    have d1 : ((n : Int) == (m : Int)) = false := by rw [beq_eq_false_iff_ne]; omega
    have d2 : ((n : Int) != (m : Int)) = true := by rw [bne, d1]; rfl
    go_enter Tryd.func22, Tryd.ntmps22
    go_wp2
    go_ret
    rw [decide_eq_false HQ.out]
    exact ⟨rfl, Below.refl _ _⟩
end Go.Proofs.YtbipjilpogbicaaDoor
