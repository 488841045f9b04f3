/-
  The walk over what is wrong with a system, by the document's own words.
-/
import Derived.Test.YtknjldmpcokgfaaKW8
import Derived.Test.YtknjldmpcokgfaaKW9
namespace Go.Proofs.Ytknjldmpcokgfaa
open Go.RowKit Go.Maps

/-- A system in a box. -/
structure SysB (w : World) (g : Nat) (s r : Int) (a : Option Addr) (n cap : Nat) (v : World) : Prop where
  low : Below w.heap.size w v
  s0 : v.cell? ⟨g, 0, none⟩ = some (.int .i64 s)
  s1 : v.cell? ⟨g, 1, none⟩ = some (.int .i64 r)
  s2 : v.cell? ⟨g, 2, none⟩ = some (.slice a n cap)
theorem SysB.below {w v v' : World} {g : Nat} {s r : Int} {a : Option Addr} {n cap : Nat} (h : SysB w g s r a n cap v) (hb : Below v.heap.size v v') : SysB w g s r a n cap v' :=
  ⟨below_up h.low hb, kept_cell hb h.s0, kept_cell hb h.s1, kept_cell hb h.s2⟩
theorem sysB_new {w : World} {s r : Int} {a : Option Addr} {n cap : Nat} {T : TypeId} : SysB w w.heap.size s r a n cap (w.alloc (.cells #[.int .i64 s, .int .i64 r, .slice a n cap] T)) :=
  ⟨(by repeat (first | exact Below.refl _ _ | (with_reducible assumption) | refine bw_alloc ?_ _ | refine bw_drew ?_)), by rw [World.cell?_alloc_new]; rfl, by rw [World.cell?_alloc_new]; rfl, by rw [World.cell?_alloc_new]; rfl⟩

theorem right_id {x : TV} {s : Int} (h : rightOf x s = 0) : 1 ≤ x.id := by
  unfold rightOf at h
  by_cases g : idBad x
  · rw [if_pos g] at h; omega
  · unfold idBad at g; omega
/-- The priorities ahead, the last one first; the last number ahead. -/
def seenOf (L : List TV) : List Int := (L.map TV.p).reverse
def lastOf (L : List TV) (k : Nat) : Int := match k with
  | 0 => 0
  | k + 1 => (L[k]?.map TV.id).getD 0
theorem seen_next {L : List TV} {k : Nat} {x : TV} (hx : L[k]? = some x) : seenOf (L.take (k + 1)) = x.p :: seenOf (L.take k) := by
  unfold seenOf
  rw [List.take_add_one, hx]
  simp
theorem seen_mem {L : List TV} {j k : Nat} {x : TV} (hx : L[j]? = some x) (hj : j < k) : x.p ∈ seenOf (L.take k) := by
  unfold seenOf
  rw [List.mem_reverse, List.mem_map]
  exact ⟨x, List.mem_of_getElem? (i := j) (by rw [List.getElem?_take, if_pos hj]; exact hx), rfl⟩
theorem seen_not {L : List TV} {k : Nat} {p : Int} (h : ∀ j y, j < k → L[j]? = some y → ¬ y.p = p) : ¬ p ∈ seenOf (L.take k) := by
  unfold seenOf
  rw [List.mem_reverse, List.mem_map]
  rintro ⟨y, hy, rfl⟩
  obtain ⟨j, hj⟩ := List.mem_iff_getElem?.1 hy
  rw [List.getElem?_take] at hj
  split at hj
  · rename_i q; exact h j y q hj rfl
  · cases hj

set_option maxRecDepth 100000 in
set_option maxHeartbeats 8000000 in
theorem rcheck_any {w : World} {a : Option Addr} {n cap : Nat} {L : List TV} (s r : Int) (ha : Tasks w a n cap L) :
    Calls Try.prog 13 #[.agg #[.int .i64 s, .int .i64 r, .slice a n cap]] w fun e w' => e = .returned (.int .i64 (checkOf s r L)) ∧ Below w.heap.size w w' := by
  have hl := ha.len
  have hn : (n : Int) ≤ 9223372036854775807 := by have := ha.le; have := ha.small; omega
  by_cases hbad : sysBad s r L
  · have hr : checkOf s r L = 1 := by unfold checkOf; rw [if_pos hbad]
    rw [hr]
    unfold sysBad at hbad
    have d : decide (s < 0) = true ∨ (decide (s < 0) = false ∧ decide (256 < s) = true) ∨ (decide (s < 0) = false ∧ decide (256 < s) = false ∧ decide (r < 0) = true) ∨ (decide (s < 0) = false ∧ decide (256 < s) = false ∧ decide (r < 0) = false ∧ decide (1000 < r) = true) ∨ (decide (s < 0) = false ∧ decide (256 < s) = false ∧ decide (r < 0) = false ∧ decide (1000 < r) = false ∧ ((n : Int) == 0) = true) := by
      simp only [decide_eq_true_eq, decide_eq_false_iff_not, beq_iff_eq]; omega
    clear hr hbad ha hl
    rcases d with d1 | ⟨d1, d2⟩ | ⟨d1, d2, d3⟩ | ⟨d1, d2, d3, d4⟩ | ⟨d1, d2, d3, d4, d5⟩
    all_goals
      go_enter Try.func13, Try.ntmps13
      go_wp2
      go_ret
      exact ⟨rfl, (by repeat (first | exact Below.refl _ _ | (with_reducible assumption) | refine bw_alloc ?_ _ | refine bw_drew ?_))⟩
  have hr : checkOf s r L = if 64 < L.length then 15 else firstOf s 0 [] L := by unfold checkOf; rw [if_neg hbad]
  rw [hr]
  unfold sysBad at hbad
  have d1 : decide (s < 0) = false := decide_eq_false (by omega)
  have d2 : decide (256 < s) = false := decide_eq_false (by omega)
  have d3 : decide (r < 0) = false := decide_eq_false (by omega)
  have d4 : decide (1000 < r) = false := decide_eq_false (by omega)
  have d5 : ((n : Int) == 0) = false := by rw [beq_eq_false_iff_ne]; omega
  by_cases h4 : 64 < n
  · rw [if_pos (by omega)]
    have h5 : (64 : Int) < (n : Int) := by omega
    clear hr hbad ha hl
    go_enter Try.func13, Try.ntmps13
    go_wp2
    go_ret
    exact ⟨rfl, (by repeat (first | exact Below.refl _ _ | (with_reducible assumption) | refine bw_alloc ?_ _ | refine bw_drew ?_))⟩
  rw [if_neg (by omega)]
  have h5 : ¬ (64 : Int) < (n : Int) := by omega
  have HA := Lib.hid ha
  generalize hR : firstOf s 0 [] L = R
  have HR := Lib.hid hR
  clear hr hbad ha hl hR h4
  go_enter Try.func13, Try.ntmps13
  go_wp2
  refine gen_world (SysB w w.heap.size s r a n cap) sysB_new ?_
  intro W1 hw1
  have H1 := Lib.hid hw1
  clear hw1
  go_loopw [3] (fun u wr => ∃ (k : Nat), k ≤ n ∧ u = .int .i64 k ∧ Hid (firstOf s (lastOf L k) (seenOf (L.take k)) (L.drop k) = R) ∧ Hid (SysB w w.heap.size s r a n cap wr)) (fun u _ => (n - intOf u).toNat)
  case atStart => exact ⟨0, by omega, rfl, by show _ = _; rw [List.drop_zero]; exact HR.out, H1⟩
  case round =>
    obtain ⟨k, hk, rfl, HS, HP⟩ := hrel
    obtain ⟨_, e0, e1, e2⟩ := HP.out
    by_cases hlt : k < n
    · obtain ⟨x, hx⟩ := nth_of HA.out.len hlt
      obtain ⟨g, o, rfl, ⟨c0, c1, c2, c3, c4, c5, c6⟩⟩ := (HA.out.view.below HP.out.low).at_ hx
      have hk1 : (k : Int) < (n : Int) := by omega
      have hk0 : (0 : Int) ≤ (k : Int) := by omega
      have hF := first_drop (s := s) (last := lastOf L k) (seen := seenOf (L.take k)) hx
      rw [HS.out] at hF
      have HX := Lib.hid ((HA.out.ok.at_ hx).below HP.out.low)
      have RX := Lib.hid (fun v (hb : Below wr.heap.size wr v) => rright_any x s v (HX.out.below hb))
      unfold TV.val at RX
      have HXX := Lib.hid hx
      clear hx
      by_cases h1 : rightOf x s = 0
      rotate_left
      · rw [if_pos h1] at hF
        have d6 : (rightOf x s == 0) = false := by rw [beq_eq_false_iff_ne]; exact h1
        have d7 : (rightOf x s != 0) = true := by rw [bne, d6]; rfl
        have HF := Lib.hid hF
        generalize rightOf x s = q at *
        clear hF h1
        go_upto_region 8 with fail
        go_still_tail 7, (by kernel_rfl)
        go_wp2_with (go_at_call 11; (with_reducible refine (RX.out _ (by repeat (first | exact Below.refl _ _ | (with_reducible assumption) | refine bw_alloc ?_ _ | refine bw_drew ?_))).mono ?_); rintro e w1 ⟨rfl, b1⟩; have B1 := Lib.hid (below_up (W := wr) (by repeat (first | exact Below.refl _ _ | (with_reducible assumption) | refine bw_alloc ?_ _ | refine bw_drew ?_)) b1); clear b1)
        go_ret
        rw [HF.out]
        exact ⟨rfl, below_up HP.out.low B1.out⟩
      rw [if_neg (fun z => z h1)] at hF
      rw [h1] at RX
      have HF := Lib.hid hF
      have HID := Lib.hid (right_id h1)
      clear hF h1
      go_upto_region 8 with fail
      go_still_tail 7, (by kernel_rfl)
      go_upto_region 11 with (go_at_call 11; (with_reducible refine (RX.out _ (by repeat (first | exact Below.refl _ _ | (with_reducible assumption) | refine bw_alloc ?_ _ | refine bw_drew ?_))).mono ?_); rintro e w1 ⟨rfl, b1⟩; have HP1 := Lib.hid (HP.out.below (below_up (W := wr) (by repeat (first | exact Below.refl _ _ | (with_reducible assumption) | refine bw_alloc ?_ _ | refine bw_drew ?_)) b1)); clear b1)
      clear HP c0 c1 c2 c3 c4 c5 c6 e0 e1 e2 RX HX
      obtain ⟨_, e0, e1, e2⟩ := HP1.out
      by_cases hk9 : k = 0
      · have HF2 : Hid (R = if x.p ∈ seenOf (L.take k) then 14 else firstOf s x.id (x.p :: seenOf (L.take k)) (L.drop (k + 1))) := by
          show _ = _
          have := HF.out
          rw [if_neg (by rw [hk9, lastOf]; have := HID.out; omega)] at this
          exact this
        have f1 : ¬ (0 : Int) < (k : Int) := by omega
        have f2 : ¬ 0 < k := by omega
        have f3 : decide ((0 : Int) < (k : Int)) = false := decide_eq_false f1
        clear hk9
        go_quiet (fail)
        go_wp2
        go_loopw [5] (fun u wr => ∃ (i : Nat), i ≤ k ∧ u = .int .i64 i ∧ Hid (∀ j y, j < i → L[j]? = some y → ¬ y.p = x.p) ∧ Hid (SysB w w.heap.size s r (some ⟨g, o, none⟩) n cap wr)) (fun u _ => (k - intOf u).toNat)
        case atStart => exact ⟨0, by omega, rfl, fun j y hj => absurd hj (Nat.not_lt_zero _), HP1.out.below (below_same (Below.refl _ _) rfl rfl rfl rfl)⟩
        case round =>
          obtain ⟨i, hi, rfl, HT, HQ⟩ := hrel
          obtain ⟨_, e0, e1, e2⟩ := HQ.out
          by_cases hlt2 : i < k
          · obtain ⟨y, hy⟩ := nth_of HA.out.len (show i < n by omega)
            obtain ⟨g', o', eq, ⟨b0, b1, b2, b3, b4, b5, b6⟩⟩ := (HA.out.view.below HQ.out.low).at_ hy
            cases eq
            obtain ⟨g', o', eq, ⟨c0, c1, c2, c3, c4, c5, c6⟩⟩ := (HA.out.view.below HQ.out.low).at_ HXX.out
            cases eq
            have hi1 : (i : Int) < (n : Int) := by omega
            have hi2 : (i : Int) < (k : Int) := by omega
            have hi0 : (0 : Int) ≤ (i : Int) := by omega
            by_cases hp : y.p = x.p
            · have hR : Hid (R = 14) := by
                show _ = _
                have := HF2.out
                rw [if_pos (hp ▸ seen_mem hy hlt2)] at this
                exact this
              have d6 : (y.p == x.p) = true := by rw [beq_iff_eq]; exact hp
              clear hy hp b0 b1 b2 b3 b5 b6 c0 c1 c2 c3 c5 c6 HT
              go_upto_region 16 with fail
              go_quiet (fail)
              go_wp2
              go_ret
              rw [hR.out]
              exact ⟨rfl, below_same HQ.out.low rfl rfl rfl rfl⟩
            · have HT2 : Hid (∀ j z, j < i + 1 → L[j]? = some z → ¬ z.p = x.p) := by
                intro j z hj hz
                rcases Nat.lt_succ_iff_lt_or_eq.1 hj with q | rfl
                · exact HT.out j z q hz
                · rw [hy] at hz; cases hz; exact hp
              have d6 : (y.p == x.p) = false := by rw [beq_eq_false_iff_ne]; exact hp
              clear hy hp b0 b1 b2 b3 b5 b6 c0 c1 c2 c3 c5 c6 HT
              go_upto_region 16 with fail
              go_quiet (fail)
              go_wp2
              go_roundw
              case rel => exact ⟨i + 1, by omega, by go_num, HT2, HQ.out.below (below_same (Below.refl _ _) rfl rfl rfl rfl)⟩
              case measure => simp [intOf]; omega
          · obtain rfl : i = k := by omega
            have HN : Hid (firstOf s (lastOf L (i + 1)) (seenOf (L.take (i + 1))) (L.drop (i + 1)) = R) := by
              show _ = _
              have := HF2.out
              rw [if_neg (seen_not HT.out)] at this
              rw [seen_next HXX.out, lastOf, HXX.out, this]
              rfl
            go_wp2
            go_roundw
            case rel => exact ⟨i + 1, by omega, by go_num, HN, HQ⟩
            case measure => simp [intOf]; omega
      · obtain ⟨j, hj⟩ : ∃ j, k = j + 1 := ⟨k - 1, by omega⟩
        obtain ⟨y, hy⟩ := nth_of HA.out.len (show j < n by omega)
        obtain ⟨g', o', eq, ⟨b0, b1, b2, b3, b4, b5, b6⟩⟩ := (HA.out.view.below HP1.out.low).at_ hy
        cases eq
        obtain ⟨g', o', eq, ⟨c0, c1, c2, c3, c4, c5, c6⟩⟩ := (HA.out.view.below HP1.out.low).at_ HXX.out
        cases eq
        have f1 : (0 : Int) < (k : Int) := by omega
        have f2 : 0 < k := by omega
        have f3 : decide ((0 : Int) < (k : Int)) = true := decide_eq_true f1
        have f4 : (j : Int) < (n : Int) := by omega
        have f5 : (0 : Int) ≤ (j : Int) := by omega
        have HL : Hid (lastOf L k = y.id) := by
          show _ = _
          rw [hj, lastOf, hy]; rfl
        have hw : IntKind.i64.wrap ((k : Int) - 1) = (j : Int) := by rw [hj]; exact (IntWalk.i64_in _ (by omega)).trans (by omega)
        clear hk9 hj b1 b2 b3 b4 b5 b6 c1 c2 c3 c4 c5 c6 hy
        by_cases hle : x.id ≤ y.id
        · have hR : Hid (R = 10) := by
            show _ = _
            have := HF.out
            rw [HL.out, if_pos hle] at this
            exact this
          have d6 : decide (x.id ≤ y.id) = true := decide_eq_true hle
          go_quiet (fail)
          go_wp2
          go_ret
          rw [hR.out]
          exact ⟨rfl, below_same HP1.out.low rfl rfl rfl rfl⟩
        have HF2 : Hid (R = if x.p ∈ seenOf (L.take k) then 14 else firstOf s x.id (x.p :: seenOf (L.take k)) (L.drop (k + 1))) := by
          show _ = _
          have := HF.out
          rw [HL.out, if_neg hle] at this
          exact this
        have d6 : decide (x.id ≤ y.id) = false := decide_eq_false hle
        go_quiet (fail)
        clear b0 c0
        go_wp2
        go_loopw [5] (fun u wr => ∃ (i : Nat), i ≤ k ∧ u = .int .i64 i ∧ Hid (∀ j y, j < i → L[j]? = some y → ¬ y.p = x.p) ∧ Hid (SysB w w.heap.size s r (some ⟨g, o, none⟩) n cap wr)) (fun u _ => (k - intOf u).toNat)
        case atStart => exact ⟨0, by omega, rfl, fun j y hj => absurd hj (Nat.not_lt_zero _), HP1.out.below (below_same (Below.refl _ _) rfl rfl rfl rfl)⟩
        case round =>
          obtain ⟨i, hi, rfl, HT, HQ⟩ := hrel
          obtain ⟨_, e0, e1, e2⟩ := HQ.out
          by_cases hlt2 : i < k
          · obtain ⟨y, hy⟩ := nth_of HA.out.len (show i < n by omega)
            obtain ⟨g', o', eq, ⟨b0, b1, b2, b3, b4, b5, b6⟩⟩ := (HA.out.view.below HQ.out.low).at_ hy
            cases eq
            obtain ⟨g', o', eq, ⟨c0, c1, c2, c3, c4, c5, c6⟩⟩ := (HA.out.view.below HQ.out.low).at_ HXX.out
            cases eq
            have hi1 : (i : Int) < (n : Int) := by omega
            have hi2 : (i : Int) < (k : Int) := by omega
            have hi0 : (0 : Int) ≤ (i : Int) := by omega
            by_cases hp : y.p = x.p
            · have hR : Hid (R = 14) := by
                show _ = _
                have := HF2.out
                rw [if_pos (hp ▸ seen_mem hy hlt2)] at this
                exact this
              have d6 : (y.p == x.p) = true := by rw [beq_iff_eq]; exact hp
              clear hy hp b0 b1 b2 b3 b5 b6 c0 c1 c2 c3 c5 c6 HT
              go_upto_region 16 with fail
              go_quiet (fail)
              go_wp2
              go_ret
              rw [hR.out]
              exact ⟨rfl, below_same HQ.out.low rfl rfl rfl rfl⟩
            · have HT2 : Hid (∀ j z, j < i + 1 → L[j]? = some z → ¬ z.p = x.p) := by
                intro j z hj hz
                rcases Nat.lt_succ_iff_lt_or_eq.1 hj with q | rfl
                · exact HT.out j z q hz
                · rw [hy] at hz; cases hz; exact hp
              have d6 : (y.p == x.p) = false := by rw [beq_eq_false_iff_ne]; exact hp
              clear hy hp b0 b1 b2 b3 b5 b6 c0 c1 c2 c3 c5 c6 HT
              go_upto_region 16 with fail
              go_quiet (fail)
              go_wp2
              go_roundw
              case rel => exact ⟨i + 1, by omega, by go_num, HT2, HQ.out.below (below_same (Below.refl _ _) rfl rfl rfl rfl)⟩
              case measure => simp [intOf]; omega
          · obtain rfl : i = k := by omega
            have HN : Hid (firstOf s (lastOf L (i + 1)) (seenOf (L.take (i + 1))) (L.drop (i + 1)) = R) := by
              show _ = _
              have := HF2.out
              rw [if_neg (seen_not HT.out)] at this
              rw [seen_next HXX.out, lastOf, HXX.out, this]
              rfl
            go_wp2
            go_roundw
            case rel => exact ⟨i + 1, by omega, by go_num, HN, HQ⟩
            case measure => simp [intOf]; omega
    · obtain rfl : n = k := by omega
      have HF : Hid (R = 0) := by
        show _ = _
        rw [← HS.out, List.drop_of_length_le (by rw [HA.out.len]; exact Nat.le_refl _), firstOf]
      go_wp2_with fail
      go_ret
      rw [HF.out]
      exact ⟨rfl, HP.out.low⟩
end Go.Proofs.Ytknjldmpcokgfaa
