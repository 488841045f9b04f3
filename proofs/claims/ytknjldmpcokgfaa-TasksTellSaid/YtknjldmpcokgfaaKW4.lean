/-
  The walks over whether two tasks are the same, by the document's own words.
-/
import Derived.Test.YtknjldmpcokgfaaKW3
namespace Go.Proofs.Ytknjldmpcokgfaa
open Go.RowKit Go.Maps

/-- Two tasks in boxes of their own. -/
structure Boxes (w : World) (a1 : Option Addr) (n1 c1 : Nat) (a2 : Option Addr) (n2 c2 : Nat) (b1 : Option Addr) (m1 e1 : Nat) (b2 : Option Addr) (m2 e2 : Nat) (v : World) : Prop where
  low : Below w.heap.size w v
  x5 : v.cell? ⟨w.heap.size, 5, none⟩ = some (.slice a1 n1 c1)
  x6 : v.cell? ⟨w.heap.size, 6, none⟩ = some (.slice a2 n2 c2)
  y5 : v.cell? ⟨w.heap.size + 1, 5, none⟩ = some (.slice b1 m1 e1)
  y6 : v.cell? ⟨w.heap.size + 1, 6, none⟩ = some (.slice b2 m2 e2)
theorem Boxes.below {w v v' : World} {a1 a2 b1 b2 : Option Addr} {n1 c1 n2 c2 m1 e1 m2 e2 : Nat} (h : Boxes w a1 n1 c1 a2 n2 c2 b1 m1 e1 b2 m2 e2 v) (hb : Below v.heap.size v v') : Boxes w a1 n1 c1 a2 n2 c2 b1 m1 e1 b2 m2 e2 v' :=
  ⟨below_up h.low hb, kept_cell hb h.x5, kept_cell hb h.x6, kept_cell hb h.y5, kept_cell hb h.y6⟩
theorem boxes_new {w : World} {i0 i1 i2 i3 i4 j0 j1 j2 j3 j4 : Value} {a1 a2 b1 b2 : Option Addr} {n1 c1 n2 c2 m1 e1 m2 e2 : Nat} {T T' : TypeId} :
    Boxes w a1 n1 c1 a2 n2 c2 b1 m1 e1 b2 m2 e2 ((w.alloc (.cells #[i0, i1, i2, i3, i4, .slice a1 n1 c1, .slice a2 n2 c2] T)).alloc (.cells #[j0, j1, j2, j3, j4, .slice b1 m1 e1, .slice b2 m2 e2] T')) :=
  ⟨(by repeat (first | exact Below.refl _ _ | (with_reducible assumption) | refine bw_alloc ?_ _ | refine bw_drew ?_)), (new_first w _ _ _ 5).trans rfl, (new_first w _ _ _ 6).trans rfl, (new_second w _ _ _ 5).trans rfl, (new_second w _ _ _ 6).trans rfl⟩

set_option maxRecDepth 100000 in
set_option maxHeartbeats 8000000 in
theorem rsame_task (x y : TV) (w : World) (hx : x.ok w) (hy : y.ok w) : Calls Try.prog 17 #[x.val, y.val] w fun e w' => e = .returned (.bool (decide (x.tk = y.tk))) ∧ Below w.heap.size w w' := by
  obtain ⟨id, c, d, t, p, a1, ch, c1, a2, us, c2⟩ := x
  obtain ⟨id', c', d', t', p', a1', ch', c1', a2', us', c2'⟩ := y
  obtain ⟨i1, i2, l1, m1, l2, m2⟩ := hx
  obtain ⟨j1, j2, k1, n1, k2, n2⟩ := hy
  simp only at i1 i2 l1 m1 l2 m2 j1 j2 k1 n1 k2 n2
  unfold TV.val
  simp only []
  by_cases h0 : id = id'
  rotate_left
  · have hq : ¬ ((TV.mk id c d t p a1 ch c1 a2 us c2).tk = (TV.mk id' c' d' t' p' a1' ch' c1' a2' us' c2').tk) := fun z => h0 ((tk_eq _ _).1 z).1
    rw [decide_eq_false hq]
    clear hq i1 i2 j1 j2
    have d1 : (id == id') = false := by rw [beq_eq_false_iff_ne]; exact h0
    have d2 : (id != id') = true := by rw [bne, d1]; rfl
    go_enter Try.func17, Try.ntmps17
    go_wp2
    go_ret
    exact ⟨rfl, (by repeat (first | exact Below.refl _ _ | (with_reducible assumption) | refine bw_alloc ?_ _ | refine bw_drew ?_))⟩
  subst h0
  by_cases h1 : c = c'
  rotate_left
  · have hq : ¬ ((TV.mk id c d t p a1 ch c1 a2 us c2).tk = (TV.mk id c' d' t' p' a1' ch' c1' a2' us' c2').tk) := fun z => h1 ((tk_eq _ _).1 z).2.1
    rw [decide_eq_false hq]
    clear hq i1 i2 j1 j2
    have d1 : (c == c') = false := by rw [beq_eq_false_iff_ne]; exact h1
    have d2 : (c != c') = true := by rw [bne, d1]; rfl
    go_enter Try.func17, Try.ntmps17
    go_wp2
    go_ret
    exact ⟨rfl, (by repeat (first | exact Below.refl _ _ | (with_reducible assumption) | refine bw_alloc ?_ _ | refine bw_drew ?_))⟩
  subst h1
  by_cases h2 : d = d'
  rotate_left
  · have hq : ¬ ((TV.mk id c d t p a1 ch c1 a2 us c2).tk = (TV.mk id c d' t' p' a1' ch' c1' a2' us' c2').tk) := fun z => h2 ((tk_eq _ _).1 z).2.2.1
    rw [decide_eq_false hq]
    clear hq i1 i2 j1 j2
    have d1 : (d == d') = false := by rw [beq_eq_false_iff_ne]; exact h2
    have d2 : (d != d') = true := by rw [bne, d1]; rfl
    go_enter Try.func17, Try.ntmps17
    go_wp2
    go_ret
    exact ⟨rfl, (by repeat (first | exact Below.refl _ _ | (with_reducible assumption) | refine bw_alloc ?_ _ | refine bw_drew ?_))⟩
  subst h2
  by_cases h3 : t = t'
  rotate_left
  · have hq : ¬ ((TV.mk id c d t p a1 ch c1 a2 us c2).tk = (TV.mk id c d t' p' a1' ch' c1' a2' us' c2').tk) := fun z => h3 ((tk_eq _ _).1 z).2.2.2.1
    rw [decide_eq_false hq]
    clear hq i1 i2 j1 j2
    have d1 : (t == t') = false := by rw [beq_eq_false_iff_ne]; exact h3
    have d2 : (t != t') = true := by rw [bne, d1]; rfl
    go_enter Try.func17, Try.ntmps17
    go_wp2
    go_ret
    exact ⟨rfl, (by repeat (first | exact Below.refl _ _ | (with_reducible assumption) | refine bw_alloc ?_ _ | refine bw_drew ?_))⟩
  subst h3
  by_cases h4 : p = p'
  rotate_left
  · have hq : ¬ ((TV.mk id c d t p a1 ch c1 a2 us c2).tk = (TV.mk id c d t p' a1' ch' c1' a2' us' c2').tk) := fun z => h4 ((tk_eq _ _).1 z).2.2.2.2.1
    rw [decide_eq_false hq]
    clear hq i1 i2 j1 j2
    have d1 : (p == p') = false := by rw [beq_eq_false_iff_ne]; exact h4
    have d2 : (p != p') = true := by rw [bne, d1]; rfl
    go_enter Try.func17, Try.ntmps17
    go_wp2
    go_ret
    exact ⟨rfl, (by repeat (first | exact Below.refl _ _ | (with_reducible assumption) | refine bw_alloc ?_ _ | refine bw_drew ?_))⟩
  subst h4
  by_cases h5 : ch.length = ch'.length
  rotate_left
  · have hq : ¬ ((TV.mk id c d t p a1 ch c1 a2 us c2).tk = (TV.mk id c d t p a1' ch' c1' a2' us' c2').tk) := fun z => h5 (congrArg List.length ((tk_eq _ _).1 z).2.2.2.2.2.1)
    rw [decide_eq_false hq]
    clear hq i1 i2 j1 j2
    have d1 : ((ch.length : Int) == (ch'.length : Int)) = false := by rw [beq_eq_false_iff_ne]; omega
    have d2 : ((ch.length : Int) != (ch'.length : Int)) = true := by rw [bne, d1]; rfl
    go_enter Try.func17, Try.ntmps17
    go_wp2
    go_ret
    exact ⟨rfl, (by repeat (first | exact Below.refl _ _ | (with_reducible assumption) | refine bw_alloc ?_ _ | refine bw_drew ?_))⟩
  by_cases h6 : us.length = us'.length
  rotate_left
  · have hq : ¬ ((TV.mk id c d t p a1 ch c1 a2 us c2).tk = (TV.mk id c d t p a1' ch' c1' a2' us' c2').tk) := fun z => h6 (congrArg List.length ((tk_eq _ _).1 z).2.2.2.2.2.2)
    rw [decide_eq_false hq]
    clear hq i1 i2 j1 j2
    have d1 : ((us.length : Int) == (us'.length : Int)) = false := by rw [beq_eq_false_iff_ne]; omega
    have d2 : ((us.length : Int) != (us'.length : Int)) = true := by rw [bne, d1]; rfl
    go_enter Try.func17, Try.ntmps17
    go_wp2
    go_ret
    exact ⟨rfl, (by repeat (first | exact Below.refl _ _ | (with_reducible assumption) | refine bw_alloc ?_ _ | refine bw_drew ?_))⟩
  have hq : ((TV.mk id c d t p a1 ch c1 a2 us c2).tk = (TV.mk id c d t p a1' ch' c1' a2' us' c2').tk) ↔ ch = ch' ∧ us = us' := by
    simp [tk_eq]
  have HQ : Hid (decide ((TV.mk id c d t p a1 ch c1 a2 us c2).tk = (TV.mk id c d t p a1' ch' c1' a2' us' c2').tk) = decide (ch = ch' ∧ us = us')) := by
    show _ = _
    rw [decide_eq_decide]; exact hq
  clear hq
  obtain ⟨n, hn⟩ : ∃ n, ch.length = n := ⟨_, rfl⟩
  obtain ⟨m, hm⟩ : ∃ m, us.length = m := ⟨_, rfl⟩
  have HL := Lib.hid hn
  have HR := Lib.hid (h5.symm.trans hn)
  have HM := Lib.hid hm
  have HK := Lib.hid (h6.symm.trans hm)
  rw [HR.out, HK.out, hn, hm]
  rw [hn] at l1
  rw [hm] at l2
  have hn9 : (n : Int) ≤ 9223372036854775807 := by omega
  have hm9 : (m : Int) ≤ 9223372036854775807 := by omega
  have I1 := Lib.hid i1
  have I2 := Lib.hid i2
  have J1 := Lib.hid j1
  have J2 := Lib.hid j2
  clear i1 i2 j1 j2 l1 m1 l2 m2 k1 n1 k2 n2 hn hm h5 h6
  go_enter Try.func17, Try.ntmps17
  go_wp2
  refine gen_world (Boxes w a1 n c1 a2 m c2 a1' n c1' a2' m c2') boxes_new ?_
  intro W1 hw1
  have H1 := Lib.hid hw1
  clear hw1
  go_loopw [5] (fun u wr => ∃ k : Nat, k ≤ n ∧ u = .int .i64 k ∧ Hid (ch.take k = ch'.take k) ∧ Hid (Boxes w a1 n c1 a2 m c2 a1' n c1' a2' m c2' wr)) (fun u _ => (n - intOf u).toNat)
  case atStart => exact ⟨0, by omega, rfl, by show _ = _; simp, H1⟩
  case round =>
    obtain ⟨k, hk, rfl, HS, HP⟩ := hrel
    obtain ⟨_, x5, x6, y5, y6⟩ := HP.out
    by_cases hlt : k < n
    · obtain ⟨x, hx⟩ := nth_of HL.out hlt
      obtain ⟨y, hy⟩ := nth_of HR.out hlt
      obtain ⟨g, o, rfl, c0⟩ := (I1.out.below HP.out.low).at_ hx
      obtain ⟨g2, o2, rfl, d0⟩ := (J1.out.below HP.out.low).at_ hy
      have hk1 : (k : Int) < (n : Int) := by omega
      have hk0 : (0 : Int) ≤ (k : Int) := by omega
      by_cases hxy : x = y
      · have HS2 := Lib.hid (same_step HS.out hx hy hxy)
        subst hxy
        clear hx hy HS
        go_upto_region 6 with (fail)
        go_quiet (fail)
        go_wp2
        go_roundw
        case rel => exact ⟨k + 1, by omega, by go_num, HS2, HP.out.below (below_same (Below.refl _ _) rfl rfl rfl rfl)⟩
        case measure => simp [intOf]; omega
      · have HN := Lib.hid (same_not hx hy hxy)
        have d1 : (x == y) = false := by rw [beq_eq_false_iff_ne]; exact hxy
        have d2 : (x != y) = true := by rw [bne, d1]; rfl
        clear hx hy HS hxy
        go_upto_region 6 with (fail)
        go_quiet (fail)
        go_wp2
        go_ret
        rw [HQ.out, decide_eq_false (fun z => HN.out z.1)]
        exact ⟨rfl, below_same HP.out.low rfl rfl rfl rfl⟩
    · obtain rfl : n = k := by omega
      have HE := Lib.hid (same_end HS.out HL.out HR.out)
      have HP0 := HP
      go_wp2
      clear HP H1 x5 x6 y5 y6
      go_loopw [6] (fun u wr => ∃ k : Nat, k ≤ m ∧ u = .int .i64 k ∧ Hid (us.take k = us'.take k) ∧ Hid (Boxes w a1 n c1 a2 m c2 a1' n c1' a2' m c2' wr)) (fun u _ => (m - intOf u).toNat)
      case atStart => exact ⟨0, by omega, rfl, by show _ = _; simp, HP0⟩
      case round =>
        obtain ⟨k, hk, rfl, HS, HP⟩ := hrel
        obtain ⟨_, x5, x6, y5, y6⟩ := HP.out
        by_cases hlt : k < m
        · obtain ⟨x, hx⟩ := nth_of HM.out hlt
          obtain ⟨y, hy⟩ := nth_of HK.out hlt
          obtain ⟨g, o, rfl, c0⟩ := (I2.out.below HP.out.low).at_ hx
          obtain ⟨g2, o2, rfl, d0⟩ := (J2.out.below HP.out.low).at_ hy
          have hk1 : (k : Int) < (m : Int) := by omega
          have hk0 : (0 : Int) ≤ (k : Int) := by omega
          by_cases hxy : x = y
          · have HS2 := Lib.hid (same_step HS.out hx hy hxy)
            subst hxy
            clear hx hy HS
            go_upto_region 11 with (fail)
            go_quiet (fail)
            go_wp2
            go_roundw
            case rel => exact ⟨k + 1, by omega, by go_num, HS2, HP.out.below (below_same (Below.refl _ _) rfl rfl rfl rfl)⟩
            case measure => simp [intOf]; omega
          · have HN := Lib.hid (same_not hx hy hxy)
            have d1 : (x == y) = false := by rw [beq_eq_false_iff_ne]; exact hxy
            have d2 : (x != y) = true := by rw [bne, d1]; rfl
            clear hx hy HS hxy
            go_upto_region 11 with (fail)
            go_quiet (fail)
            go_wp2
            go_ret
            rw [HQ.out, decide_eq_false (fun z => HN.out z.2)]
            exact ⟨rfl, below_same HP.out.low rfl rfl rfl rfl⟩
        · obtain rfl : k = m := by omega
          have HE2 := Lib.hid (same_end HS.out HM.out HK.out)
          go_wp2
          go_ret
          rw [HQ.out, decide_eq_true ⟨HE.out, HE2.out⟩]
          exact ⟨rfl, HP.out.low⟩
end Go.Proofs.Ytknjldmpcokgfaa
