/-
  The walk over what is wrong with a task, by the document's own words.
-/
import Derived.Test.YtknjldmpcokgfaaKW7
import Derived.Test.YtknjldmpcokgfaaKW11
namespace Go.Proofs.Ytknjldmpcokgfaa
open Go.RowKit Go.Maps

set_option maxRecDepth 100000 in
set_option maxHeartbeats 8000000 in
theorem rright_any (x : TV) (s : Int) (w : World) (hx : x.ok w) : Calls Try.prog 11 #[x.val, .int .i64 s] w fun e w' => e = .returned (.int .i64 (rightOf x s)) ∧ Below w.heap.size w w' := by
  obtain ⟨id, c, d, t, p, a1, ch, c1, a2, us, c2⟩ := x
  obtain ⟨i1, i2, l1, m1, l2, m2⟩ := hx
  simp only at i1 i2 l1 m1 l2 m2
  unfold TV.val
  simp only []
  by_cases h1 : idBad ⟨id, c, d, t, p, a1, ch, c1, a2, us, c2⟩
  · have hr : rightOf ⟨id, c, d, t, p, a1, ch, c1, a2, us, c2⟩ s = 1 := by unfold rightOf; rw [if_pos h1]
    rw [hr]
    clear hr i1 i2
    unfold idBad at h1
    simp only at h1
    have d : decide (id < 1) = true ∨ (decide (id < 1) = false ∧ decide (99 < id) = true) ∨ (decide (id < 1) = false ∧ decide (99 < id) = false ∧ decide (p < 1) = true) ∨ (decide (id < 1) = false ∧ decide (99 < id) = false ∧ decide (p < 1) = false ∧ decide (99 < p) = true) := by
      simp only [decide_eq_true_eq, decide_eq_false_iff_not]; omega
    clear h1
    rcases d with d1 | ⟨d1, d2⟩ | ⟨d1, d2, d3⟩ | ⟨d1, d2, d3, d4⟩
    all_goals
      go_enter Try.func11, Try.ntmps11
      go_wp2
      go_ret
      exact ⟨rfl, (by repeat (first | exact Below.refl _ _ | (with_reducible assumption) | refine bw_alloc ?_ _ | refine bw_drew ?_))⟩
  have hr0 : rightOf ⟨id, c, d, t, p, a1, ch, c1, a2, us, c2⟩ s = if cdBad ⟨id, c, d, t, p, a1, ch, c1, a2, us, c2⟩ then 10 else if chBad ⟨id, c, d, t, p, a1, ch, c1, a2, us, c2⟩ then 13 else if usBad ⟨id, c, d, t, p, a1, ch, c1, a2, us, c2⟩ s then 12 else 0 := by unfold rightOf; rw [if_neg h1]
  rw [hr0]
  unfold idBad at h1
  simp only at h1
  have x1 : decide (id < 1) = false := decide_eq_false (by omega)
  have x2 : decide (99 < id) = false := decide_eq_false (by omega)
  have x3 : decide (p < 1) = false := decide_eq_false (by omega)
  have x4 : decide (99 < p) = false := decide_eq_false (by omega)
  clear h1 hr0
  by_cases h3 : cdBad ⟨id, c, d, t, p, a1, ch, c1, a2, us, c2⟩
  · rw [if_pos h3]
    clear i1 i2
    unfold cdBad at h3
    simp only at h3
    have d : decide (c < 1) = true ∨ (decide (c < 1) = false ∧ decide (d < c) = true) ∨ (decide (c < 1) = false ∧ decide (d < c) = false ∧ decide (t < d) = true) ∨ (decide (c < 1) = false ∧ decide (d < c) = false ∧ decide (t < d) = false ∧ decide (1073741824 < t) = true) := by
      simp only [decide_eq_true_eq, decide_eq_false_iff_not]; omega
    clear h3
    rcases d with d1 | ⟨d1, d2⟩ | ⟨d1, d2, d3⟩ | ⟨d1, d2, d3, d4⟩
    all_goals
      go_enter Try.func11, Try.ntmps11
      go_wp2
      go_ret
      exact ⟨rfl, (by repeat (first | exact Below.refl _ _ | (with_reducible assumption) | refine bw_alloc ?_ _ | refine bw_drew ?_))⟩
  rw [if_neg h3]
  unfold cdBad at h3
  simp only at h3
  have hc1 : 1 ≤ c := by omega
  have hc2 : c ≤ 1073741824 := by omega
  have d1 : decide (c < 1) = false := decide_eq_false (by omega)
  have d2 : decide (d < c) = false := decide_eq_false (by omega)
  have d3 : decide (t < d) = false := decide_eq_false (by omega)
  have d4 : decide (1073741824 < t) = false := decide_eq_false (by omega)
  have I1 := Lib.hid i1
  have I2 := Lib.hid i2
  have HB : Hid ((fillB ch c = false ∧ 0 < ch.length) ∨ 64 < ch.length ↔ chBad ⟨id, c, d, t, p, a1, ch, c1, a2, us, c2⟩) := by
    show _ ↔ _
    unfold chBad
    simp only [ne_eq, ← List.length_eq_zero_iff]
    constructor
    · rintro (⟨h1, h2⟩ | h)
      · exact .inr ⟨by omega, h1⟩
      · exact .inl h
    · rintro (h | ⟨h1, h2⟩)
      · exact .inr h
      · exact .inl ⟨h2, by omega⟩
  have HU : Hid (us.any (badB s) = true ∨ 64 < us.length ↔ usBad ⟨id, c, d, t, p, a1, ch, c1, a2, us, c2⟩ s) := by
    show _ ↔ _
    unfold usBad
    exact or_comm
  generalize hcb : (if chBad ⟨id, c, d, t, p, a1, ch, c1, a2, us, c2⟩ then (13 : Int) else if usBad ⟨id, c, d, t, p, a1, ch, c1, a2, us, c2⟩ s then 12 else 0) = R
  have HR := Lib.hid hcb
  obtain ⟨n, hn⟩ : ∃ n, ch.length = n := ⟨_, rfl⟩
  obtain ⟨m, hm⟩ : ∃ m, us.length = m := ⟨_, rfl⟩
  rw [hn] at l1 HB ⊢
  rw [hm] at l2 HU ⊢
  have HL := Lib.hid hn
  have HM := Lib.hid hm
  have hn9 : (n : Int) ≤ 9223372036854775807 := by omega
  have hm9 : (m : Int) ≤ 9223372036854775807 := by omega
  clear i1 i2 hcb h3 hn hm l1 m1 l2 m2
  go_enter Try.func11, Try.ntmps11
  go_wp2
  go_loop [5, 6] (fun u v => ∃ (k : Nat) (c' : Int), k ≤ n ∧ v = .int .i64 k ∧ u = .int .i64 c' ∧ 0 ≤ c' ∧ c' ≤ 1073741824 ∧ Hid (fillB (ch.drop k) c' = fillB ch c)) (fun _ v => (n - intOf v).toNat)
  case atStart => exact ⟨0, c, by omega, rfl, rfl, by omega, by omega, by show _ = _; rw [List.drop_zero]⟩
  case round =>
    obtain ⟨k, c', hk, rfl, rfl, hc0, hc', HF⟩ := hrel
    by_cases hlt : k < n
    · obtain ⟨x, hx⟩ := nth_of HL.out hlt
      obtain ⟨g, o, rfl, z0⟩ := (I1.out.below (show Below w.heap.size w (w.alloc (.cells #[.int .i64 id, .int .i64 c, .int .i64 d, .int .i64 t, .int .i64 p, .slice a1 n c1, .slice a2 m c2] 25)) from (by repeat (first | exact Below.refl _ _ | (with_reducible assumption) | refine bw_alloc ?_ _ | refine bw_drew ?_)))).at_ hx
      have z1 : w.cell? ⟨g, o + k, none⟩ = some (.int .i64 x) := by
        obtain ⟨g', o', e, z1⟩ := I1.out.at_ hx
        cases e; exact z1
      have hk1 : (k : Int) < (n : Int) := by omega
      have hk0 : (0 : Int) ≤ (k : Int) := by omega
      have hg := block_of_cell z1
      by_cases hb : 1 ≤ x ∧ x ≤ c'
      · have y1 : decide (x < 1) = false := decide_eq_false (by omega)
        have y2 : decide (c' < x) = false := decide_eq_false (by omega)
        have HF2 : Hid (fillB (ch.drop (k + 1)) (c' - x) = fillB ch c) := by
          have := HF.out
          rw [fill_drop hx, if_pos hb] at this
          exact this
        have hw : IntKind.i64.wrap (c' - x) = c' - x := IntWalk.i64_in _ (by omega)
        have hx1 : 0 ≤ c' - x := by omega
        have hx2 : c' - x ≤ 1073741824 := by omega
        clear HF hb hx
        go_wp2
        go_round
        case rel => exact ⟨k + 1, c' - x, by omega, by go_num, by first | rfl | (rw [hw]), hx1, hx2, HF2⟩
        case measure => simp [intOf]; omega
      · have HF2 : Hid (fillB ch c = false) := by
          have := HF.out
          rw [fill_drop hx, if_neg hb] at this
          exact this.symm
        have hR : Hid (R = 13) := by
          show _ = _
          rw [← HR.out, if_pos (HB.out.1 (.inl ⟨HF2.out, by omega⟩))]
        have y : decide (x < 1) = true ∨ (decide (x < 1) = false ∧ decide (c' < x) = true) := by
          simp only [decide_eq_true_eq, decide_eq_false_iff_not]; omega
        clear HF hb hx
        rcases y with y1 | ⟨y1, y2⟩
        all_goals
          go_wp2
          go_ret
          rw [hR.out]
          exact ⟨rfl, (by repeat (first | exact Below.refl _ _ | (with_reducible assumption) | refine bw_alloc ?_ _ | refine bw_drew ?_))⟩
    · obtain rfl : n = k := by omega
      have HF2 : Hid ((c' == 0) = fillB ch c) := by
        have := HF.out
        rw [List.drop_of_length_le (by rw [HL.out]; exact Nat.le_refl _), fillB] at this
        exact this
      clear HF
      by_cases hbad : chBad ⟨id, c, d, t, p, a1, ch, c1, a2, us, c2⟩
      · have hR : Hid (R = 13) := by
          show _ = _
          rw [← HR.out, if_pos hbad]
        have y : decide ((64 : Int) < (n : Int)) = true ∨ (decide ((64 : Int) < (n : Int)) = false ∧ ¬ (64 : Int) < (n : Int) ∧ (0 : Int) < (n : Int) ∧ (c' == 0) = false) := by
          rcases HB.out.2 hbad with ⟨q1, q2⟩ | q
          · by_cases g : (64 : Int) < (n : Int)
            · exact .inl (decide_eq_true g)
            · exact .inr ⟨decide_eq_false g, g, by omega, HF2.out.trans q1⟩
          · exact .inl (decide_eq_true (by omega))
        clear hbad
        rcases y with y1 | ⟨y1, y2, y3, y4⟩
        · have y2 : (64 : Int) < (n : Int) := of_decide_eq_true y1
          go_wp2
          go_ret
          rw [hR.out]
          exact ⟨rfl, (by repeat (first | exact Below.refl _ _ | (with_reducible assumption) | refine bw_alloc ?_ _ | refine bw_drew ?_))⟩
        · have y5 : (c' != 0) = true := by rw [bne, y4]; rfl
          have y6 : 0 < n := by omega
          go_wp2
          go_ret
          rw [hR.out]
          exact ⟨rfl, (by repeat (first | exact Below.refl _ _ | (with_reducible assumption) | refine bw_alloc ?_ _ | refine bw_drew ?_))⟩
      · have HR2 : Hid ((if usBad ⟨id, c, d, t, p, a1, ch, c1, a2, us, c2⟩ s then (12 : Int) else 0) = R) := by
          show _ = _
          rw [← HR.out, if_neg hbad]
        have y1 : ¬ (64 : Int) < (n : Int) := fun z => hbad (HB.out.1 (.inr (by omega)))
        have y : (n = 0) ∨ (0 < n ∧ c' = 0) := by
          rcases Nat.eq_zero_or_pos n with z | z
          · exact .inl z
          · refine .inr ⟨z, ?_⟩
            by_cases g : c' = 0
            · exact g
            · exfalso
              refine hbad (HB.out.1 (.inl ⟨?_, z⟩))
              rw [← HF2.out, beq_eq_false_iff_ne]; exact g
        clear hbad HB HF2 HR
        have y' : (¬ (0 : Int) < (n : Int) ∧ ¬ 0 < n) ∨ ((0 : Int) < (n : Int) ∧ 0 < n ∧ (c' != 0) = false) := by
          rcases y with z | ⟨z, rfl⟩
          · exact .inl ⟨by omega, by omega⟩
          · exact .inr ⟨by omega, z, rfl⟩
        clear y
        rcases y' with ⟨y2, y3⟩ | ⟨y2, y3, y4⟩
        all_goals
          go_wp2
          go_loop [7] (fun u => ∃ k : Nat, k ≤ m ∧ u = .int .i64 k ∧ Hid ((us.take k).any (badB s) = false)) (fun u => (m - intOf u).toNat)
          case atStart => exact ⟨0, by omega, rfl, by show _ = _; simp⟩
          case round =>
            obtain ⟨k, hk, rfl, HS⟩ := hrel
            by_cases hlt2 : k < m
            · obtain ⟨x, hx⟩ := nth_of HM.out hlt2
              obtain ⟨g, o, rfl, z1⟩ := I2.out.at_ hx
              have hk1 : (k : Int) < (m : Int) := by omega
              have hk0 : (0 : Int) ≤ (k : Int) := by omega
              have hg := block_of_cell z1
              by_cases hf : badB s x = true
              · have HF := Lib.hid (any_found hx hf)
                have hR : Hid (R = 12) := by
                  show _ = _
                  rw [← HR2.out, if_pos (HU.out.1 (.inl HF.out))]
                have yy : decide (x < 0) = true ∨ (decide (x < 0) = false ∧ decide (s ≤ x) = true) := by
                  unfold badB at hf
                  simp only [decide_eq_true_eq, decide_eq_false_iff_not] at hf ⊢; omega
                clear hx hf HS
                rcases yy with y6 | ⟨y6, y7⟩
                all_goals
                  go_wp2
                  go_ret
                  rw [hR.out]
                  exact ⟨rfl, (by repeat (first | exact Below.refl _ _ | (with_reducible assumption) | refine bw_alloc ?_ _ | refine bw_drew ?_))⟩
              · have hf2 : badB s x = false := by simpa using hf
                have HS2 := Lib.hid (any_take HS.out hx hf2)
                unfold badB at hf2
                have y6 : decide (x < 0) = false := by simp only [decide_eq_false_iff_not] at hf2 ⊢; omega
                have y7 : decide (s ≤ x) = false := by simp only [decide_eq_false_iff_not] at hf2 ⊢; omega
                clear hx hf hf2 HS
                go_wp2
                go_round
                case rel => exact ⟨k + 1, by omega, by go_num, HS2⟩
                case measure => simp [intOf]; omega
            · obtain rfl : m = k := by omega
              have HF := Lib.hid (any_all HS.out HM.out)
              by_cases h9 : (64 : Int) < (m : Int)
              · have hR : Hid (R = 12) := by
                  show _ = _
                  rw [← HR2.out, if_pos (HU.out.1 (.inr (by omega)))]
                go_wp2
                go_ret
                rw [hR.out]
                exact ⟨rfl, (by repeat (first | exact Below.refl _ _ | (with_reducible assumption) | refine bw_alloc ?_ _ | refine bw_drew ?_))⟩
              · have hR : Hid (R = 0) := by
                  show _ = _
                  rw [← HR2.out, if_neg]
                  intro z
                  rcases HU.out.2 z with q | q
                  · rw [HF.out] at q; cases q
                  · omega
                go_wp2
                go_ret
                rw [hR.out]
                exact ⟨rfl, (by repeat (first | exact Below.refl _ _ | (with_reducible assumption) | refine bw_alloc ?_ _ | refine bw_drew ?_))⟩
end Go.Proofs.Ytknjldmpcokgfaa
