/-
  The walk over whether two rows of words are the same.
-/
import Derived.Test.YtbipjilpogbicaaDoorLMem
import Derived.Laws.StructEq
namespace Go.Proofs.YtbipjilpogbicaaDoor
open Go.RowKit Go.Maps

theorem wordGuard : Tryd.prog.eqGuardType Tryd.prog.depth 50 = false := by kernel_rfl
theorem wordFields : Tryd.prog.underlying 50 = some (.struct (Tryd.prog.fieldsOf 50)) := by kernel_rfl
theorem wordStood : Tryd.prog.stoodInHeld 50 = false := by kernel_rfl
theorem word_ne (x y : WV) (w : World) : (binOp .neq 50 (.agg #[.int .i64 x.at_, .int .i64 x.ln, .string x.tx]) (.agg #[.int .i64 y.at_, .int .i64 y.ln, .string y.tx])).run Tryd.prog w = .ok (.bool (decide (¬ x = y))) w := by
  have u1 := Tryd.underlying3
  have u2 := Tryd.underlying9
  rw [run_neq_struct, show (10000 : Nat) = 9999 + 1 from rfl, run_equalIn_agg w 9999 _ _ _ wordFields wordStood]
  simp only [Program.fieldsOf, Tryd.underlying50]
  go_simp
  obtain ⟨a, b, c⟩ := x
  obtain ⟨d, e, f⟩ := y
  simp only [WV.mk.injEq]
  have e3 := beq_toListBytes c f
  by_cases h3 : c = f
  · subst h3
    by_cases h1 : a = d <;> by_cases h2 : b = e <;> simp [h1, h2]
  · have d3 : (c == f) = false := by
      obtain ⟨c⟩ := c
      obtain ⟨f⟩ := f
      change (c == f) = false
      rw [beq_eq_false_iff_ne]
      intro q; exact h3 (by rw [q])
    rw [d3] at e3
    have q3 : ¬ c.toList = f.toList := by have := e3.symm; rwa [beq_eq_false_iff_ne] at this
    by_cases h1 : a = d <;> by_cases h2 : b = e <;> simp [h1, h2, h3, q3]

theorem wsame_step {l m : List WV} {k : Nat} {x y : WV} (h : l.take k = m.take k) (hx : l[k]? = some x) (hy : m[k]? = some y) (e : x = y) : l.take (k + 1) = m.take (k + 1) := by
  rw [List.take_add_one, List.take_add_one, h, hx, hy, e]
theorem wsame_end {l m : List WV} {k : Nat} (h : l.take k = m.take k) (hl : l.length = k) (hm : m.length = k) : l = m := by
  rwa [List.take_of_length_le (by omega), List.take_of_length_le (by omega)] at h
theorem wsame_not {l m : List WV} {k : Nat} {x y : WV} (hx : l[k]? = some x) (hy : m[k]? = some y) (e : ¬ x = y) : ¬ l = m := by
  rintro rfl; rw [hx] at hy; cases hy; exact e rfl

attribute [-go_sem] run_neq_struct
attribute [local go_sem] word_ne wordGuard
set_option maxRecDepth 100000 in
set_option maxHeartbeats 2000000 in
theorem rsame_any (n m ca cb : Nat) (hn : (n : Int) ≤ 9223372036854775807) (hm : (m : Int) ≤ 9223372036854775807) (a b : Option Addr) (l r : List WV) (hl : l.length = n) (hr : r.length = m) (w : World) (ha : WView w a l) (hb : WView w b r) :
    Calls Tryd.prog 13 #[.slice a n ca, .slice b m cb] w fun e w' => e = .returned (.bool (decide (l = r))) ∧ Below w.heap.size w w' := by
  have HA := Lib.hid ha
  have HB := Lib.hid hb
  have HL := Lib.hid hl
  have HR := Lib.hid hr
  clear ha hb hl hr
  by_cases hnm : n = m
  · subst hnm
    go_enter Tryd.func13, Tryd.ntmps13
    go_wp2
    go_loopw [5] (fun u wr => ∃ k : Nat, k ≤ n ∧ u = .int .i64 k ∧ Hid (l.take k = r.take k) ∧ Hid (Below w.heap.size w wr)) (fun u _ => (n - intOf u).toNat)
    case atStart => exact ⟨0, by omega, rfl, by show _ = _; simp, Below.refl _ _⟩
    case round =>
      obtain ⟨k, hk, rfl, HS, HP⟩ := hrel
      by_cases hlt : k < n
      · obtain ⟨x, hx⟩ := nth_of HL.out hlt
        obtain ⟨y, hy⟩ := nth_of HR.out hlt
        obtain ⟨g, o, rfl, hA⟩ := (HA.out.below HP.out).at_ hx
        obtain ⟨g2, o2, rfl, hB⟩ := (HB.out.below HP.out).at_ hy
        obtain ⟨c0, c1, c2⟩ := hA
        obtain ⟨d0, d1, d2⟩ := hB
        have hk1 : (k : Int) < (n : Int) := by omega
        have hk0 : (0 : Int) ≤ (k : Int) := by omega
        by_cases hxy : x = y
        · have HS2 := Lib.hid (wsame_step HS.out hx hy hxy)
          have e1 : decide (¬ x = y) = false := by simp [hxy]
          clear hx hy HS hxy
          go_upto_region 6 with (fail)
          go_quiet (fail)
          go_wp2
          go_roundw
          case rel => exact ⟨k + 1, by omega, by go_num, HS2, below_same HP.out rfl rfl rfl rfl⟩
          case measure => simp [intOf]; omega
        · have HQ := Lib.hid (wsame_not hx hy hxy)
          clear hx hy HS
          go_upto_region 6 with (fail)
          go_quiet (fail)
          go_wp2
          go_ret
          rw [decide_eq_false HQ.out]
          exact ⟨rfl, below_same HP.out rfl rfl rfl rfl⟩
      · obtain rfl : k = n := by omega
        have HQ := Lib.hid (wsame_end HS.out HL.out HR.out)
        go_wp2
        go_ret
        rw [decide_eq_true HQ.out]
        exact ⟨rfl, HP.out⟩
  · have HQ : Hid (¬ l = r) := by
      show ¬ _
      rintro rfl; exact hnm (HL.out.symm.trans HR.out)
    have d1 : ((n : Int) == (m : Int)) = false := by rw [beq_eq_false_iff_ne]; omega
    have d2 : ((n : Int) != (m : Int)) = true := by rw [bne, d1]; rfl
    go_enter Tryd.func13, Tryd.ntmps13
    go_wp2
    go_ret
    rw [decide_eq_false HQ.out]
    exact ⟨rfl, Below.refl _ _⟩
end Go.Proofs.YtbipjilpogbicaaDoor
