/- Texts of this claim, put together: KW8, KW5, KW9, KW10, KW15, KW13, KW14, KN, KW16, KChk, YDef, YMem, YAs, LSeq, LPcs, Shelf. -/
import Derived.Test.YtlpffgmfgkleiaaGreatDoorProg
import Derived.Test.YtlpffgmfgkleiaaGreatDoorMZ1
import Derived.Maps.Views
import Derived.Recover
import Derived.Tactics2
import Derived.RangeFuncNested
import Derived.RangeFuncBound
import Derived.RangeFuncCalls
import Derived.RangeFuncLeaves
import Derived.RangeFuncBox
import Derived.Shelf.Strings.Builder1
import Derived.Shelf.Strings.Builder2
import Derived.Shelf.Strings.OnBuilder
import Derived.Shelf.Strings.BuilderF
import Derived.Shelf.Strings.BuilderK
import Derived.Shelf.Strconv.Itoa0
import Derived.Shelf.Strconv.Itoa1
import Derived.Shelf.LaysM
import Derived.Shelf.Strconv.Itoa2
import Derived.Shelf.Strconv.Itoa3
import Derived.Shelf.Strconv.Itoa4
import Derived.Shelf.Strings.Search1
import Derived.Shelf.Strings.Search2
import Derived.Shelf.Strings.Search3
import Derived.Shelf.Strings.Cut
import Derived.Shelf.Strings.Shaped
import Derived.Shelf.Unicode.Decode
import Derived.Shelf.Unicode.DecodeSlow
import Derived.Shelf.Unicode.DecodeAny
set_option linter.unusedVariables false
set_option linter.unusedSimpArgs false

/-
  The walk over what is wrong with a task, by the document's own words.
-/
namespace Go.Proofs.YtlpffgmfgkleiaaGreatDoor
open Go.RowKit Go.Maps

set_option maxRecDepth 100000 in
set_option maxHeartbeats 8000000 in
theorem rright_any (x : TV) (s : Int) (w : World) (hx : x.ok w) : Calls Tryz.prog 20 #[x.val, .int .i64 s] w fun e w' => e = .returned (.int .i64 (rightOf x s)) ∧ Below w.heap.size w w' := by
  obtain ⟨id, c, d, t, p, a1, ch, c1, a2, us, c2⟩ := x
  obtain ⟨i1, i2, l1, m1, l2, m2⟩ := hx
  simp only at i1 i2 l1 m1 l2 m2
  unfold TV.val
  simp only []
  by_cases h1 : idBad ⟨id, c, d, t, p, a1, ch, c1, a2, us, c2⟩
  · have hr : rightOf ⟨id, c, d, t, p, a1, ch, c1, a2, us, c2⟩ s = 1 := by unfold rightOf; rw [if_pos h1]
    rw [hr]
    clear hr i1 i2
    unfold idBad at h1
    simp only at h1
    have d : decide (id < 1) = true ∨ (decide (id < 1) = false ∧ decide (99 < id) = true) ∨ (decide (id < 1) = false ∧ decide (99 < id) = false ∧ decide (p < 1) = true) ∨ (decide (id < 1) = false ∧ decide (99 < id) = false ∧ decide (p < 1) = false ∧ decide (99 < p) = true) := by
      simp only [decide_eq_true_eq, decide_eq_false_iff_not]; omega
    clear h1
    rcases d with d1 | ⟨d1, d2⟩ | ⟨d1, d2, d3⟩ | ⟨d1, d2, d3, d4⟩
    all_goals
      go_enter Tryz.func20, Tryz.ntmps20
      go_wp2
      go_ret
      exact ⟨rfl, (by repeat (first | exact Below.refl _ _ | (with_reducible assumption) | refine bw_alloc ?_ _ | refine bw_drew ?_))⟩
  have hr0 : rightOf ⟨id, c, d, t, p, a1, ch, c1, a2, us, c2⟩ s = if cdBad ⟨id, c, d, t, p, a1, ch, c1, a2, us, c2⟩ then 10 else if chBad ⟨id, c, d, t, p, a1, ch, c1, a2, us, c2⟩ then 13 else if usBad ⟨id, c, d, t, p, a1, ch, c1, a2, us, c2⟩ s then 12 else 0 := by unfold rightOf; rw [if_neg h1]
  rw [hr0]
  unfold idBad at h1
  simp only at h1
  have x1 : decide (id < 1) = false := decide_eq_false (by omega)
  have x2 : decide (99 < id) = false := decide_eq_false (by omega)
  have x3 : decide (p < 1) = false := decide_eq_false (by omega)
  have x4 : decide (99 < p) = false := decide_eq_false (by omega)
  clear h1 hr0
  by_cases h3 : cdBad ⟨id, c, d, t, p, a1, ch, c1, a2, us, c2⟩
  · rw [if_pos h3]
    clear i1 i2
    unfold cdBad at h3
    simp only at h3
    have d : decide (c < 1) = true ∨ (decide (c < 1) = false ∧ decide (d < c) = true) ∨ (decide (c < 1) = false ∧ decide (d < c) = false ∧ decide (t < d) = true) ∨ (decide (c < 1) = false ∧ decide (d < c) = false ∧ decide (t < d) = false ∧ decide (1073741824 < t) = true) := by
      simp only [decide_eq_true_eq, decide_eq_false_iff_not]; omega
    clear h3
    rcases d with d1 | ⟨d1, d2⟩ | ⟨d1, d2, d3⟩ | ⟨d1, d2, d3, d4⟩
    all_goals
      go_enter Tryz.func20, Tryz.ntmps20
      go_wp2
      go_ret
      exact ⟨rfl, (by repeat (first | exact Below.refl _ _ | (with_reducible assumption) | refine bw_alloc ?_ _ | refine bw_drew ?_))⟩
  rw [if_neg h3]
  unfold cdBad at h3
  simp only at h3
  have hc1 : 1 ≤ c := by omega
  have hc2 : c ≤ 1073741824 := by omega
  have d1 : decide (c < 1) = false := decide_eq_false (by omega)
  have d2 : decide (d < c) = false := decide_eq_false (by omega)
  have d3 : decide (t < d) = false := decide_eq_false (by omega)
  have d4 : decide (1073741824 < t) = false := decide_eq_false (by omega)
  have I1 := Lib.hid i1
  have I2 := Lib.hid i2
  have HB : Hid ((fillB ch c = false ∧ 0 < ch.length) ∨ 64 < ch.length ↔ chBad ⟨id, c, d, t, p, a1, ch, c1, a2, us, c2⟩) := by
    show _ ↔ _
    unfold chBad
    simp only [ne_eq, ← List.length_eq_zero_iff]
    constructor
    · rintro (⟨h1, h2⟩ | h)
      · exact .inr ⟨by omega, h1⟩
      · exact .inl h
    · rintro (h | ⟨h1, h2⟩)
      · exact .inr h
      · exact .inl ⟨h2, by omega⟩
  have HU : Hid (us.any (badB s) = true ∨ 64 < us.length ↔ usBad ⟨id, c, d, t, p, a1, ch, c1, a2, us, c2⟩ s) := by
    show _ ↔ _
    unfold usBad
    exact or_comm
  generalize hcb : (if chBad ⟨id, c, d, t, p, a1, ch, c1, a2, us, c2⟩ then (13 : Int) else if usBad ⟨id, c, d, t, p, a1, ch, c1, a2, us, c2⟩ s then 12 else 0) = R
  have HR := Lib.hid hcb
  obtain ⟨n, hn⟩ : ∃ n, ch.length = n := ⟨_, rfl⟩
  obtain ⟨m, hm⟩ : ∃ m, us.length = m := ⟨_, rfl⟩
  rw [hn] at l1 HB ⊢
  rw [hm] at l2 HU ⊢
  have HL := Lib.hid hn
  have HM := Lib.hid hm
  have hn9 : (n : Int) ≤ 9223372036854775807 := by omega
  have hm9 : (m : Int) ≤ 9223372036854775807 := by omega
  clear i1 i2 hcb h3 hn hm l1 m1 l2 m2
  go_enter Tryz.func20, Tryz.ntmps20
  go_wp2
  go_loop [5, 6] (fun u v => ∃ (k : Nat) (c' : Int), k ≤ n ∧ v = .int .i64 k ∧ u = .int .i64 c' ∧ 0 ≤ c' ∧ c' ≤ 1073741824 ∧ Hid (fillB (ch.drop k) c' = fillB ch c)) (fun _ v => (n - intOf v).toNat)
  case atStart => exact ⟨0, c, by omega, rfl, rfl, by omega, by omega, by show _ = _; rw [List.drop_zero]⟩
  case round =>
    obtain ⟨k, c', hk, rfl, rfl, hc0, hc', HF⟩ := hrel
    by_cases hlt : k < n
    · obtain ⟨x, hx⟩ := nth_of HL.out hlt
      obtain ⟨g, o, rfl, z0⟩ := (I1.out.below (show Below w.heap.size w (w.alloc (.cells #[.int .i64 id, .int .i64 c, .int .i64 d, .int .i64 t, .int .i64 p, .slice a1 n c1, .slice a2 m c2] 26)) from (by repeat (first | exact Below.refl _ _ | (with_reducible assumption) | refine bw_alloc ?_ _ | refine bw_drew ?_)))).at_ hx
      have z1 : w.cell? ⟨g, o + k, none⟩ = some (.int .i64 x) := by
        obtain ⟨g', o', e, z1⟩ := I1.out.at_ hx
        cases e; exact z1
      have hk1 : (k : Int) < (n : Int) := by omega
      have hk0 : (0 : Int) ≤ (k : Int) := by omega
      have hg := block_of_cell z1
      by_cases hb : 1 ≤ x ∧ x ≤ c'
      · have y1 : decide (x < 1) = false := decide_eq_false (by omega)
        have y2 : decide (c' < x) = false := decide_eq_false (by omega)
        have HF2 : Hid (fillB (ch.drop (k + 1)) (c' - x) = fillB ch c) := by
          have := HF.out
          rw [fill_drop hx, if_pos hb] at this
          exact this
        have hw : IntKind.i64.wrap (c' - x) = c' - x := IntWalk.i64_in _ (by omega)
        have hx1 : 0 ≤ c' - x := by omega
        have hx2 : c' - x ≤ 1073741824 := by omega
        clear HF hb hx
        go_wp2
        go_round
        case rel => exact ⟨k + 1, c' - x, by omega, by go_num, by first | rfl | (rw [hw]), hx1, hx2, HF2⟩
        case measure => simp [intOf]; omega
      · have HF2 : Hid (fillB ch c = false) := by
          have := HF.out
          rw [fill_drop hx, if_neg hb] at this
          exact this.symm
        have hR : Hid (R = 13) := by
          show _ = _
          rw [← HR.out, if_pos (HB.out.1 (.inl ⟨HF2.out, by omega⟩))]
        have y : decide (x < 1) = true ∨ (decide (x < 1) = false ∧ decide (c' < x) = true) := by
          simp only [decide_eq_true_eq, decide_eq_false_iff_not]; omega
        clear HF hb hx
        rcases y with y1 | ⟨y1, y2⟩
        all_goals
          go_wp2
          go_ret
          rw [hR.out]
          exact ⟨rfl, (by repeat (first | exact Below.refl _ _ | (with_reducible assumption) | refine bw_alloc ?_ _ | refine bw_drew ?_))⟩
    · obtain rfl : n = k := by omega
      have HF2 : Hid ((c' == 0) = fillB ch c) := by
        have := HF.out
        rw [List.drop_of_length_le (by rw [HL.out]; exact Nat.le_refl _), fillB] at this
        exact this
      clear HF
      by_cases hbad : chBad ⟨id, c, d, t, p, a1, ch, c1, a2, us, c2⟩
      · have hR : Hid (R = 13) := by
          show _ = _
          rw [← HR.out, if_pos hbad]
        have y : decide ((64 : Int) < (n : Int)) = true ∨ (decide ((64 : Int) < (n : Int)) = false ∧ ¬ (64 : Int) < (n : Int) ∧ (0 : Int) < (n : Int) ∧ (c' == 0) = false) := by
          rcases HB.out.2 hbad with ⟨q1, q2⟩ | q
          · by_cases g : (64 : Int) < (n : Int)
            · exact .inl (decide_eq_true g)
            · exact .inr ⟨decide_eq_false g, g, by omega, HF2.out.trans q1⟩
          · exact .inl (decide_eq_true (by omega))
        clear hbad
        rcases y with y1 | ⟨y1, y2, y3, y4⟩
        · have y2 : (64 : Int) < (n : Int) := of_decide_eq_true y1
          go_wp2
          go_ret
          rw [hR.out]
          exact ⟨rfl, (by repeat (first | exact Below.refl _ _ | (with_reducible assumption) | refine bw_alloc ?_ _ | refine bw_drew ?_))⟩
        · have y5 : (c' != 0) = true := by rw [bne, y4]; rfl
          have y6 : 0 < n := by omega
          go_wp2
          go_ret
          rw [hR.out]
          exact ⟨rfl, (by repeat (first | exact Below.refl _ _ | (with_reducible assumption) | refine bw_alloc ?_ _ | refine bw_drew ?_))⟩
      · have HR2 : Hid ((if usBad ⟨id, c, d, t, p, a1, ch, c1, a2, us, c2⟩ s then (12 : Int) else 0) = R) := by
          show _ = _
          rw [← HR.out, if_neg hbad]
        have y1 : ¬ (64 : Int) < (n : Int) := fun z => hbad (HB.out.1 (.inr (by omega)))
        have y : (n = 0) ∨ (0 < n ∧ c' = 0) := by
          rcases Nat.eq_zero_or_pos n with z | z
          · exact .inl z
          · refine .inr ⟨z, ?_⟩
            by_cases g : c' = 0
            · exact g
            · exfalso
              refine hbad (HB.out.1 (.inl ⟨?_, z⟩))
              rw [← HF2.out, beq_eq_false_iff_ne]; exact g
        clear hbad HB HF2 HR
        have y' : (¬ (0 : Int) < (n : Int) ∧ ¬ 0 < n) ∨ ((0 : Int) < (n : Int) ∧ 0 < n ∧ (c' != 0) = false) := by
          rcases y with z | ⟨z, rfl⟩
          · exact .inl ⟨by omega, by omega⟩
          · exact .inr ⟨by omega, z, rfl⟩
        clear y
        rcases y' with ⟨y2, y3⟩ | ⟨y2, y3, y4⟩
        all_goals
          go_wp2
          go_loop [7] (fun u => ∃ k : Nat, k ≤ m ∧ u = .int .i64 k ∧ Hid ((us.take k).any (badB s) = false)) (fun u => (m - intOf u).toNat)
          case atStart => exact ⟨0, by omega, rfl, by show _ = _; simp⟩
          case round =>
            obtain ⟨k, hk, rfl, HS⟩ := hrel
            by_cases hlt2 : k < m
            · obtain ⟨x, hx⟩ := nth_of HM.out hlt2
              obtain ⟨g, o, rfl, z1⟩ := I2.out.at_ hx
              have hk1 : (k : Int) < (m : Int) := by omega
              have hk0 : (0 : Int) ≤ (k : Int) := by omega
              have hg := block_of_cell z1
              by_cases hf : badB s x = true
              · have HF := Lib.hid (any_found hx hf)
                have hR : Hid (R = 12) := by
                  show _ = _
                  rw [← HR2.out, if_pos (HU.out.1 (.inl HF.out))]
                have yy : decide (x < 0) = true ∨ (decide (x < 0) = false ∧ decide (s ≤ x) = true) := by
                  unfold badB at hf
                  simp only [decide_eq_true_eq, decide_eq_false_iff_not] at hf ⊢; omega
                clear hx hf HS
                rcases yy with y6 | ⟨y6, y7⟩
                all_goals
                  go_wp2
                  go_ret
                  rw [hR.out]
                  exact ⟨rfl, (by repeat (first | exact Below.refl _ _ | (with_reducible assumption) | refine bw_alloc ?_ _ | refine bw_drew ?_))⟩
              · have hf2 : badB s x = false := by simpa using hf
                have HS2 := Lib.hid (any_take HS.out hx hf2)
                unfold badB at hf2
                have y6 : decide (x < 0) = false := by simp only [decide_eq_false_iff_not] at hf2 ⊢; omega
                have y7 : decide (s ≤ x) = false := by simp only [decide_eq_false_iff_not] at hf2 ⊢; omega
                clear hx hf hf2 HS
                go_wp2
                go_round
                case rel => exact ⟨k + 1, by omega, by go_num, HS2⟩
                case measure => simp [intOf]; omega
            · obtain rfl : m = k := by omega
              have HF := Lib.hid (any_all HS.out HM.out)
              by_cases h9 : (64 : Int) < (m : Int)
              · have hR : Hid (R = 12) := by
                  show _ = _
                  rw [← HR2.out, if_pos (HU.out.1 (.inr (by omega)))]
                go_wp2
                go_ret
                rw [hR.out]
                exact ⟨rfl, (by repeat (first | exact Below.refl _ _ | (with_reducible assumption) | refine bw_alloc ?_ _ | refine bw_drew ?_))⟩
              · have hR : Hid (R = 0) := by
                  show _ = _
                  rw [← HR2.out, if_neg]
                  intro z
                  rcases HU.out.2 z with q | q
                  · rw [HF.out] at q; cases q
                  · omega
                go_wp2
                go_ret
                rw [hR.out]
                exact ⟨rfl, (by repeat (first | exact Below.refl _ _ | (with_reducible assumption) | refine bw_alloc ?_ _ | refine bw_drew ?_))⟩
end Go.Proofs.YtlpffgmfgkleiaaGreatDoor

/-
  The walks over whether two rows of tasks, and two systems, are the same.
-/
namespace Go.Proofs.YtlpffgmfgkleiaaGreatDoor
open Go.RowKit Go.Maps

theorem row_step {L M : List TV} {k : Nat} {x y : TV} (h : (L.take k).map TV.tk = (M.take k).map TV.tk) (hx : L[k]? = some x) (hy : M[k]? = some y) (e : x.tk = y.tk) : (L.take (k + 1)).map TV.tk = (M.take (k + 1)).map TV.tk := by
  rw [List.take_add_one, List.take_add_one, List.map_append, List.map_append, h, hx, hy]
  simp [e]
theorem row_end {L M : List TV} {k : Nat} (h : (L.take k).map TV.tk = (M.take k).map TV.tk) (hl : L.length = k) (hm : M.length = k) : L.map TV.tk = M.map TV.tk := by
  rwa [List.take_of_length_le (by omega), List.take_of_length_le (by omega)] at h
theorem row_not {L M : List TV} {k : Nat} {x y : TV} (hx : L[k]? = some x) (hy : M[k]? = some y) (e : ¬ x.tk = y.tk) : ¬ L.map TV.tk = M.map TV.tk := by
  intro h
  have h1 : (L.map TV.tk)[k]? = some x.tk := by simp [hx]
  have h2 : (M.map TV.tk)[k]? = some y.tk := by simp [hy]
  rw [h, h2] at h1; exact e (Option.some.inj h1).symm
theorem row_len {L M : List TV} (h : ¬ L.length = M.length) : ¬ L.map TV.tk = M.map TV.tk := by
  intro z
  have := congrArg List.length z
  simp at this; exact h this
end Go.Proofs.YtlpffgmfgkleiaaGreatDoor

/-
  The walks over what is wrong with a system.
-/
namespace Go.Proofs.YtlpffgmfgkleiaaGreatDoor
open Go.RowKit Go.Maps

theorem lawK : Keyed Tryz.prog 3 := int_keyed Tryz.underlying3
theorem zeroK (w : World) : (zeroValue 3).run Tryz.prog w = .ok (.int .i64 0) w := by kernel_rfl

/-- What the entries read as. -/
def IsF (D : DataW Unit) (f : Int → Option Int) : Prop :=
  ∀ k : Int, Maps.has D (.int .i64 k) = (f k).isSome ∧ D.atKey (.int .i64 k) (.lit (.int .i64 0)) = .lit (.int .i64 ((f k).getD 0))
/-- A block is a map of at most N entries, that are f. -/
def MapIs (w : World) (bm N : Nat) (f : Int → Option Int) : Prop := ∃ D : DataW Unit, w.ownsMap Tryz.prog 3 (plainElem Tryz.prog 3) bm N D ∧ IsF D f
/-- One entry set; one struck. -/
def fput (f : Int → Option Int) (k v : Int) (x : Int) : Option Int := if x = k then some v else f x
def fdel (f : Int → Option Int) (k : Int) (x : Int) : Option Int := if x = k then none else f x

theorem IsF.put {D : DataW Unit} {f : Int → Option Int} (h : IsF D f) (hD : IsMap D) (k v : Int) : IsF (D.put (.int .i64 k) (.lit (.int .i64 v))) (fput f k v) := by
  intro x
  unfold fput
  by_cases e : x = k
  · subst e
    rw [if_pos rfl, has_put_same hD (by trivial), atKey_put_same hD (by trivial)]
    exact ⟨rfl, rfl⟩
  · rw [if_neg e, has_put_other (by simp [e]), atKey_put_other (by simp [e])]
    exact h x
theorem IsF.del {D : DataW Unit} {f : Int → Option Int} (h : IsF D f) (k : Int) : IsF (D.del (.int .i64 k)) (fdel f k) := by
  intro x
  unfold fdel
  by_cases e : x = k
  · subst e
    rw [if_pos rfl, has_del_same, atKey_del_same]
    exact ⟨rfl, rfl⟩
  · rw [if_neg e, has_del_other (by simp [e]), atKey_del_other (by simp [e])]
    exact h x

theorem owns_tight {w : World} {bm n m : Nat} {D : DataW Unit} {R : Value → Option (DataW Unit × List MemPlace)} {P : Program} {k : TypeId} (h : w.ownsMap P k R bm n D) (hm : Maps.size D ≤ m) : w.ownsMap P k R bm m D := by
  obtain ⟨es, clock, hb, F, hs, rfl⟩ := h
  refine ⟨es, clock, hb, F, ?_, rfl⟩
  have : Maps.size (DataW.map ((es.toList.map (WideElems.rg P k R)).foldr DataW.insert [])) = es.size := by simp [Maps.size, length_sorted]
  omega

/-- Behind a store. -/
theorem MapIs.stored {w' : World} {bm N : Nat} {D : DataW Unit} {f : Int → Option Int} {k v : Int} (hf : IsF D f) (ht : Tidy D) (hs : Maps.size D ≤ N)
    (h : w'.ownsMap Tryz.prog 3 (plainElem Tryz.prog 3) bm (N + 1) (D.put (.int .i64 k) (.lit (.int .i64 v)))) : MapIs w' bm (if (f k).isSome then N else N + 1) (fput f k v) := by
  refine ⟨_, ?_, hf.put ht.isMap k v⟩
  split
  · rename_i hk
    refine owns_tight h ?_
    rw [size_put ht, if_pos ((hf k).1.trans hk)]; exact hs
  · exact h

theorem MapIs.lt {w : World} {bm N : Nat} {f : Int → Option Int} (h : MapIs w bm N f) : bm < w.heap.size := by
  obtain ⟨D, h, _⟩ := h; exact h.lt
theorem MapIs.obj {w : World} {bm N : Nat} {f : Int → Option Int} (h : MapIs w bm N f) : ∃ es clock, w.heap[bm]? = some (.map es clock) := by
  obtain ⟨D, ⟨es, clock, hb, _⟩, _⟩ := h; exact ⟨es, clock, hb⟩
theorem MapIs.ne_cells {w : World} {bm N b : Nat} {f : Int → Option Int} {cs : Array Value} {T : TypeId} {fr : Nat × Nat} (h : MapIs w bm N f) (hb : w.heap[b]? = some (.cells cs T fr)) : b ≠ bm := by
  obtain ⟨es, clock, h⟩ := h.obj
  rintro rfl
  rw [h] at hb; cases hb
theorem MapIs.ext {w : World} {bm N : Nat} {f f' : Int → Option Int} (h : MapIs w bm N f) (he : ∀ k, f k = f' k) : MapIs w bm N f' := by
  obtain ⟨D, h, hf⟩ := h
  exact ⟨D, h, fun k => by rw [← he]; exact hf k⟩
theorem MapIs.mono {w : World} {bm N M : Nat} {f : Int → Option Int} (h : MapIs w bm N f) (hm : N ≤ M) : MapIs w bm M f := by
  obtain ⟨D, h, hf⟩ := h
  exact ⟨D, h.mono hm, hf⟩


theorem I64.wf {x : Int} (h : I64 x) : (Lit.int .i64 x).wf = true := by
  unfold I64 at h
  simp [Lit.wf, IntKind.min, IntKind.max, IntKind.signed, IntKind.bits]; omega
theorem new_map (w : World) : MapIs (w.alloc (.map #[] 0)) w.heap.size 0 (fun _ => none) := ⟨.map [], World.ownsMap_made w _ _ _, fun _ => ⟨rfl, rfl⟩⟩
theorem MapIs.below {w w' : World} {bm N : Nat} {f : Int → Option Int} (h : MapIs w bm N f) (hb : Below w.heap.size w w') : MapIs w' bm N f := by
  obtain ⟨D, ⟨es, clock, hm, r⟩, hf⟩ := h
  exact ⟨D, ⟨es, clock, kept_obj hb hm, r⟩, hf⟩

/-- What is wrong with the tasks of a system. -/
def firstOf (s : Int) : Int → List Int → List TV → Int
  | _, _, [] => 0
  | last, seen, x :: l => if rightOf x s ≠ 0 then rightOf x s else if x.id ≤ last then 10 else if x.p ∈ seen then 14 else firstOf s x.id (x.p :: seen) l
def sysBad (s r : Int) (L : List TV) : Prop := ¬ (0 ≤ s ∧ s ≤ 256 ∧ 0 ≤ r ∧ r ≤ 1000) ∨ L.length = 0
instance (s r : Int) (L : List TV) : Decidable (sysBad s r L) := by unfold sysBad; infer_instance
def checkOf (s r : Int) (L : List TV) : Int := if sysBad s r L then 1 else if 64 < L.length then 15 else firstOf s 0 [] L
theorem first_drop {s last : Int} {seen : List Int} {L : List TV} {k : Nat} {x : TV} (hx : L[k]? = some x) :
    firstOf s last seen (L.drop k) = if rightOf x s ≠ 0 then rightOf x s else if x.id ≤ last then 10 else if x.p ∈ seen then 14 else firstOf s x.id (x.p :: seen) (L.drop (k + 1)) := by
  obtain ⟨h2, h3⟩ := List.getElem?_eq_some_iff.1 hx
  rw [List.drop_eq_getElem_cons h2, h3, firstOf]

/-- The keys of a map. -/
def Seen (w : World) (bm N : Nat) (seen : List Int) : Prop := ∃ f, MapIs w bm N f ∧ ∀ k, (f k).isSome = decide (k ∈ seen)
/-- Where the rounds stand. -/
structure Rounds (w : World) (s r : Int) (a : Option Addr) (n cap bm N : Nat) (seen : List Int) (v : World) : Prop where
  low : Below w.heap.size w v
  s0 : v.cell? ⟨w.heap.size, 0, none⟩ = some (.int .i64 s)
  s2 : v.cell? ⟨w.heap.size, 2, none⟩ = some (.slice a n cap)
  map : Seen v bm N seen
  new : w.heap.size ≤ bm
theorem Rounds.below {w v v' : World} {s r : Int} {a : Option Addr} {n cap bm N : Nat} {seen : List Int} (h : Rounds w s r a n cap bm N seen v) (hb : Below v.heap.size v v') : Rounds w s r a n cap bm N seen v' := by
  obtain ⟨f, hm, hf⟩ := h.map
  exact ⟨below_up h.low hb, kept_cell hb h.s0, kept_cell hb h.s2, ⟨f, hm.below hb, hf⟩, h.new⟩
theorem rounds_new {w : World} {s r : Int} {a : Option Addr} {n cap : Nat} {T : TypeId} : Rounds w s r a n cap (w.heap.size + 1) 0 [] ((w.alloc (.cells #[.int .i64 s, .int .i64 r, .slice a n cap] T)).alloc (.map #[] 0)) := by
  refine ⟨(by repeat (first | exact Below.refl _ _ | (with_reducible assumption) | refine bw_alloc ?_ _ | refine bw_drew ?_)), (new_first w _ _ _ 0).trans rfl, (new_first w _ _ _ 2).trans rfl, ⟨fun _ => none, ?_, fun k => by simp⟩, by omega⟩
  have := new_map (w.alloc (.cells #[.int .i64 s, .int .i64 r, .slice a n cap] T))
  rwa [World.size_alloc] at this
/-- What a store into the map leaves. -/
theorem Rounds.put {w v v' : World} {s r : Int} {a : Option Addr} {n cap bm N : Nat} {seen : List Int} {D : DataW Unit} {f : Int → Option Int} {k y : Int} (h : Rounds w s r a n cap bm N seen v) (hD : v.ownsMap Tryz.prog 3 (plainElem Tryz.prog 3) bm N D) (hf : IsF D f) (hs : ∀ k, (f k).isSome = decide (k ∈ seen))
    (h1 : v'.ownsMap Tryz.prog 3 (plainElem Tryz.prog 3) bm (N + 1) (D.put (.int .i64 k) (.lit (.int .i64 y)))) (ht : v.mapTurned v' bm) : Rounds w s r a n cap bm (N + 1) (k :: seen) v' := by
  have hm := (MapIs.stored (w' := v') (bm := bm) (N := N) (k := k) (v := y) hf (hD.tidy lawK) hD.size_le h1).mono (M := N + 1) (by split <;> omega)
  have hg : v.grownBy v' (some bm) := World.mapTurned.grown ht
  obtain ⟨es, clock, hb, _⟩ := hD
  have hne : ∀ o x, v.cell? ⟨w.heap.size, o, none⟩ = some x → w.heap.size ≠ bm := by
    rintro o x hx rfl
    rw [World.cell?] at hx
    simp [hb] at hx
  have hk : ∀ o x, v.cell? ⟨w.heap.size, o, none⟩ = some x → v'.cell? ⟨w.heap.size, o, none⟩ = some x := by
    intro o x hx
    rw [← hx]
    exact World.cell?_of_block (hg.block _ (block_of_cell hx) (fun e => hne o x hx (Option.some.inj e)))
  refine ⟨h.low.grown hg h.low.size (fun k hk => by cases hk; exact h.new), hk _ _ h.s0, hk _ _ h.s2, ⟨_, hm, fun x => ?_⟩, h.new⟩
  unfold fput
  by_cases e : x = k
  · subst e; simp
  · rw [if_neg e, hs]; simp [e]

set_option maxRecDepth 100000 in
set_option maxHeartbeats 8000000 in
theorem first_any {w : World} {a : Option Addr} {n cap : Nat} {L : List TV} (s r : Int) (ha : Tasks w a n cap L) (hw : ∀ x ∈ L, I64 x.p ∧ I64 x.id) (hn64 : n ≤ 64) :
    Calls Tryz.prog 55 #[.agg #[.int .i64 s, .int .i64 r, .slice a n cap]] w fun e w' => e = .returned (.int .i64 (firstOf s 0 [] L)) ∧ Below w.heap.size w w' := by
  have HA := Lib.hid ha
  have HW := Lib.hid hw
  generalize hR : firstOf s 0 [] L = R
  have HR := Lib.hid hR
  have hmm := @run_makeMap Tryz.prog
  have hn : (n : Int) ≤ 9223372036854775807 := by omega
  clear ha hw hR
  go_enter Tryz.func55, Tryz.ntmps55
  go_wp2
  go_step3
  go_wp2
  go_step3
  go_wp2
  refine gen_world (Rounds w s r a n cap (w.heap.size + 1) 0 []) rounds_new ?_
  intro W1 hw1
  have H1 := Lib.hid hw1
  clear hw1 hmm
  generalize w.heap.size + 1 = bm at H1 ⊢
  go_loopw [3, 4, 14] (fun v t u wr => ∃ (k : Nat) (last : Int) (seen : List Int), k ≤ n ∧ u = .int .i64 k ∧ t = .int .i64 last ∧ v = .int .i64 0 ∧ Hid (firstOf s last seen (L.drop k) = R) ∧ Hid (Rounds w s r a n cap bm k seen wr)) (fun _ _ u _ => (n - intOf u).toNat)
  case atStart => exact ⟨0, 0, [], by omega, rfl, rfl, rfl, by show _ = _; rw [List.drop_zero]; exact HR.out, H1⟩
  case round =>
    obtain ⟨k, last, seen, hk, rfl, rfl, rfl, HS, HP⟩ := hrel
    obtain ⟨f, ⟨D, hown, hf⟩, hs⟩ := HP.out.map
    have e0 := HP.out.s0
    have e2 := HP.out.s2
    have e9 := block_of_cell e0
    by_cases hlt : k < n
    · obtain ⟨x, hx⟩ := nth_of HA.out.len hlt
      obtain ⟨g, o, rfl, ⟨c0, c1, c2, c3, c4, c5, c6⟩⟩ := (HA.out.view.below HP.out.low).at_ hx
      have hk1 : (k : Int) < (n : Int) := by omega
      have hk0 : (0 : Int) ≤ (k : Int) := by omega
      have hwf := HW.out x (List.mem_of_getElem? hx)
      have hkey := keyOf_int_mk Tryz.underlying3 hwf.1.wf
      have hwv : (Lit.int .i64 x.id).wf = true := hwf.2.wf
      have hh : Maps.has D (.int .i64 x.p) = decide (x.p ∈ seen) := by rw [(hf x.p).1, hs]
      have hF := first_drop (s := s) (last := last) (seen := seen) hx
      rw [HS.out] at hF
      have HX := Lib.hid ((HA.out.ok.at_ hx).below HP.out.low)
      have RX := Lib.hid (fun v (hb : Below wr.heap.size wr v) => right_any x s v (HX.out.below hb))
      unfold TV.val at RX
      clear hx hwf
      by_cases h1 : rightOf x s = 0
      rotate_left
      · rw [if_pos h1] at hF
        have d1 : (rightOf x s == 0) = false := by rw [beq_eq_false_iff_ne]; exact h1
        have d2 : (rightOf x s != 0) = true := by rw [bne, d1]; rfl
        have HF := Lib.hid hF
        generalize rightOf x s = q at *
        clear hF h1 hs hf
        go_wp2_with (first
            | (at_lookup; refine wpList_lookup_own_ok_int _ rfl _ _ 136 rfl 3 3 .i64 lawK Tryz.underlying136 Tryz.underlying3 (zeroK _) bm k D rfl (hown.alloc _) _ _ rfl hkey ?_; rw [hh]; intro c _ _)
            | (go_at_call 15; (with_reducible refine (RX.out _ (by repeat (first | exact Below.refl _ _ | (with_reducible assumption) | refine bw_alloc ?_ _ | refine bw_drew ?_))).mono ?_); rintro e wx ⟨rfl, bx⟩; have BX := Lib.hid (bw_alloc (Below.refl _ wr) (.cells #[.int .i64 x.id, .int .i64 x.c, .int .i64 x.d, .int .i64 x.t, .int .i64 x.p, .slice x.a1 x.ch.length x.c1, .slice x.a2 x.us.length x.c2] 26)); have k0 := kept_cell (v := .int .i64 x.id) bx ((atB_new _ x _).c0); have k4 := kept_cell (v := .int .i64 x.p) bx ((atB_new _ x _).c4); have HB := Lib.hid (below_up BX.out bx); clear bx BX))
        rw [Exit.noGoto_ret]
        go_ret
        rw [HF.out]
        exact ⟨rfl, (HP.out.below HB.out).low⟩
      rw [if_neg (fun z => z h1)] at hF
      rw [h1] at RX
      by_cases h2 : x.id ≤ last
      · rw [if_pos h2] at hF
        have d1 : decide (x.id ≤ last) = true := decide_eq_true h2
        have HF := Lib.hid hF
        clear hF h1 hs hf
        go_wp2_with (first
            | (at_lookup; refine wpList_lookup_own_ok_int _ rfl _ _ 136 rfl 3 3 .i64 lawK Tryz.underlying136 Tryz.underlying3 (zeroK _) bm k D rfl (hown.alloc _) _ _ rfl hkey ?_; rw [hh]; intro c _ _)
            | (go_at_call 15; (with_reducible refine (RX.out _ (by repeat (first | exact Below.refl _ _ | (with_reducible assumption) | refine bw_alloc ?_ _ | refine bw_drew ?_))).mono ?_); rintro e wx ⟨rfl, bx⟩; have BX := Lib.hid (bw_alloc (Below.refl _ wr) (.cells #[.int .i64 x.id, .int .i64 x.c, .int .i64 x.d, .int .i64 x.t, .int .i64 x.p, .slice x.a1 x.ch.length x.c1, .slice x.a2 x.us.length x.c2] 26)); have k0 := kept_cell (v := .int .i64 x.id) bx ((atB_new _ x _).c0); have k4 := kept_cell (v := .int .i64 x.p) bx ((atB_new _ x _).c4); have HB := Lib.hid (below_up BX.out bx); clear bx BX))
        rw [Exit.noGoto_ret]
        go_ret
        rw [HF.out]
        exact ⟨rfl, (HP.out.below HB.out).low⟩
      rw [if_neg h2] at hF
      have d1 : decide (x.id ≤ last) = false := decide_eq_false h2
      by_cases h3 : x.p ∈ seen
      · rw [if_pos h3] at hF
        rw [decide_eq_true h3] at hh
        have HF := Lib.hid hF
        clear hF h1 hs hf h3
        go_wp2_with (first
            | (at_lookup; refine wpList_lookup_own_ok_int _ rfl _ _ 136 rfl 3 3 .i64 lawK Tryz.underlying136 Tryz.underlying3 (zeroK _) bm k D rfl (hown.alloc _) _ _ rfl hkey ?_; rw [hh]; intro c _ _)
            | (go_at_call 15; (with_reducible refine (RX.out _ (by repeat (first | exact Below.refl _ _ | (with_reducible assumption) | refine bw_alloc ?_ _ | refine bw_drew ?_))).mono ?_); rintro e wx ⟨rfl, bx⟩; have BX := Lib.hid (bw_alloc (Below.refl _ wr) (.cells #[.int .i64 x.id, .int .i64 x.c, .int .i64 x.d, .int .i64 x.t, .int .i64 x.p, .slice x.a1 x.ch.length x.c1, .slice x.a2 x.us.length x.c2] 26)); have k0 := kept_cell (v := .int .i64 x.id) bx ((atB_new _ x _).c0); have k4 := kept_cell (v := .int .i64 x.p) bx ((atB_new _ x _).c4); have HB := Lib.hid (below_up BX.out bx); clear bx BX))
        rw [Exit.noGoto_ret]
        go_ret
        rw [HF.out]
        exact ⟨rfl, (HP.out.below HB.out).low⟩
      · rw [if_neg h3] at hF
        rw [decide_eq_false h3] at hh
        have HF : Hid (firstOf s x.id (x.p :: seen) (L.drop (k + 1)) = R) := hF.symm
        have HS3 := Lib.hid hs
        have HF3 := Lib.hid hf
        have HN3 : k < maxLen := by unfold maxLen; omega
        have HPUT : Hid (∀ v v', Below wr.heap.size wr v → v.ownsMap Tryz.prog 3 (plainElem Tryz.prog 3) bm k D → v'.ownsMap Tryz.prog 3 (plainElem Tryz.prog 3) bm (k + 1) (D.put (.int .i64 x.p) (.lit (.int .i64 x.id))) → v.mapTurned v' bm → Rounds w s r (some ⟨g, o, none⟩) n cap bm (k + 1) (x.p :: seen) v') :=
          fun v v' hb ho h1 h2 => (HP.out.below hb).put ho hf hs h1 h2
        have HOWN : Hid (∀ v, Below wr.heap.size wr v → v.ownsMap Tryz.prog 3 (plainElem Tryz.prog 3) bm k D) := fun v hb => by
          obtain ⟨es, clock, hm, q⟩ := hown
          exact ⟨es, clock, kept_obj hb hm, q⟩
        clear hF h1 hs hf h3
        go_wp2_with (first
            | (at_mapUpdate; refine wpList_mapUpdate_in _ rfl _ _ _ 136 rfl 3 3 lawK Tryz.underlying136 _ bm k D rfl (HOWN.out _ HB.out) HN3 _ _ _ rfl rfl hkey _ [] (plainElem_int Tryz.underlying3 hwv) ?_; intro w5 hown1 hturn1; have H5 := Lib.hid (HPUT.out _ _ HB.out (HOWN.out _ HB.out) hown1 hturn1); clear hown1 hturn1)
            | (at_lookup; refine wpList_lookup_own_ok_int _ rfl _ _ 136 rfl 3 3 .i64 lawK Tryz.underlying136 Tryz.underlying3 (zeroK _) bm k D rfl (hown.alloc _) _ _ rfl hkey ?_; rw [hh]; intro c _ _)
            | (go_at_call 15; (with_reducible refine (RX.out _ (by repeat (first | exact Below.refl _ _ | (with_reducible assumption) | refine bw_alloc ?_ _ | refine bw_drew ?_))).mono ?_); rintro e wx ⟨rfl, bx⟩; have BX := Lib.hid (bw_alloc (Below.refl _ wr) (.cells #[.int .i64 x.id, .int .i64 x.c, .int .i64 x.d, .int .i64 x.t, .int .i64 x.p, .slice x.a1 x.ch.length x.c1, .slice x.a2 x.us.length x.c2] 26)); have k0 := kept_cell (v := .int .i64 x.id) bx ((atB_new _ x _).c0); have k4 := kept_cell (v := .int .i64 x.p) bx ((atB_new _ x _).c4); have HB := Lib.hid (below_up BX.out bx); clear bx BX))
        go_roundw
        case rel => exact ⟨k + 1, x.id, x.p :: seen, by omega, by go_num, rfl, rfl, HF, H5⟩
        case measure => simp [intOf]; omega
    · obtain rfl : n = k := by omega
      have HF : Hid (R = 0) := by
        show _ = _
        rw [← HS.out, List.drop_of_length_le (by rw [HA.out.len]; exact Nat.le_refl _), firstOf]
      go_wp2_with fail
      go_ret
      rw [HF.out]
      exact ⟨rfl, HP.out.low⟩

set_option maxRecDepth 100000 in
set_option maxHeartbeats 4000000 in
theorem check_any {w : World} {a : Option Addr} {n cap : Nat} {L : List TV} (s r : Int) (ha : Tasks w a n cap L) (hw : ∀ x ∈ L, I64 x.p ∧ I64 x.id) :
    Calls Tryz.prog 27 #[.agg #[.int .i64 s, .int .i64 r, .slice a n cap]] w fun e w' => e = .returned (.int .i64 (checkOf s r L)) ∧ Below w.heap.size w w' := by
  have hl := ha.len
  have hn : (n : Int) ≤ 9223372036854775807 := by have := ha.le; have := ha.small; omega
  by_cases h1 : 0 ≤ s ∧ s ≤ 256
  rotate_left
  · have hr : checkOf s r L = 1 := by unfold checkOf; rw [if_pos]; unfold sysBad; omega
    rw [hr]
    have C := Lib.hid (fun w => within_no s 0 256 h1 w)
    clear hr h1 ha hw hl
    go_enter Tryz.func27, Tryz.ntmps27
    go_wp2_with (go_at_call 34; (with_reducible refine (C.out _).mono ?_); rintro e w1 ⟨rfl, rfl⟩)
    go_ret
    exact ⟨rfl, (by repeat (first | exact Below.refl _ _ | (with_reducible assumption) | refine bw_alloc ?_ _ | refine bw_drew ?_))⟩
  have C := Lib.hid (fun w => within_yes s 0 256 h1.1 h1.2 w)
  by_cases h2 : 0 ≤ r ∧ r ≤ 1000
  rotate_left
  · have hr : checkOf s r L = 1 := by unfold checkOf; rw [if_pos]; unfold sysBad; omega
    rw [hr]
    have D := Lib.hid (fun w => within64_no r 0 1000 h2 w)
    clear hr h1 h2 ha hw hl
    go_enter Tryz.func27, Tryz.ntmps27
    go_wp2_with (first
      | (go_at_call 34; (with_reducible refine (C.out _).mono ?_); rintro e w1 ⟨rfl, rfl⟩)
      | (go_at_call 54; (with_reducible refine (D.out _).mono ?_); rintro e w1 ⟨rfl, rfl⟩))
    go_ret
    exact ⟨rfl, (by repeat (first | exact Below.refl _ _ | (with_reducible assumption) | refine bw_alloc ?_ _ | refine bw_drew ?_))⟩
  have D := Lib.hid (fun w => within64_yes r 0 1000 h2.1 h2.2 w)
  by_cases h3 : n = 0
  · have hr : checkOf s r L = 1 := by unfold checkOf; rw [if_pos]; unfold sysBad; omega
    rw [hr]
    have d1 : ((n : Int) == 0) = true := by rw [beq_iff_eq]; omega
    clear hr h1 h2 h3 ha hw hl
    go_enter Tryz.func27, Tryz.ntmps27
    go_wp2_with (first
      | (go_at_call 34; (with_reducible refine (C.out _).mono ?_); rintro e w1 ⟨rfl, rfl⟩)
      | (go_at_call 54; (with_reducible refine (D.out _).mono ?_); rintro e w1 ⟨rfl, rfl⟩))
    go_ret
    exact ⟨rfl, (by repeat (first | exact Below.refl _ _ | (with_reducible assumption) | refine bw_alloc ?_ _ | refine bw_drew ?_))⟩
  have hr : checkOf s r L = if 64 < L.length then 15 else firstOf s 0 [] L := by unfold checkOf; rw [if_neg]; unfold sysBad; omega
  rw [hr]
  have d1 : ((n : Int) == 0) = false := by rw [beq_eq_false_iff_ne]; omega
  by_cases h4 : 64 < n
  · rw [if_pos (by omega)]
    have h5 : (64 : Int) < (n : Int) := by omega
    clear hr h1 h2 h3 ha hw hl
    go_enter Tryz.func27, Tryz.ntmps27
    go_wp2_with (first
      | (go_at_call 34; (with_reducible refine (C.out _).mono ?_); rintro e w1 ⟨rfl, rfl⟩)
      | (go_at_call 54; (with_reducible refine (D.out _).mono ?_); rintro e w1 ⟨rfl, rfl⟩))
    go_ret
    exact ⟨rfl, (by repeat (first | exact Below.refl _ _ | (with_reducible assumption) | refine bw_alloc ?_ _ | refine bw_drew ?_))⟩
  · rw [if_neg (by omega)]
    have h5 : ¬ (64 : Int) < (n : Int) := by omega
    have F : Hid (∀ v, Below w.heap.size w v → _) := fun v hb => first_any s r (ha.below hb) hw (by omega)
    clear hr h1 h2 h3 ha hw hl
    go_enter Tryz.func27, Tryz.ntmps27
    go_wp2_with (first
      | (go_at_call 34; (with_reducible refine (C.out _).mono ?_); rintro e w1 ⟨rfl, rfl⟩)
      | (go_at_call 54; (with_reducible refine (D.out _).mono ?_); rintro e w1 ⟨rfl, rfl⟩)
      | (go_at_call 55; (with_reducible refine (F.out _ (by repeat (first | exact Below.refl _ _ | (with_reducible assumption) | refine bw_alloc ?_ _ | refine bw_drew ?_))).mono ?_); rintro e w1 ⟨rfl, b1⟩; have B1 := Lib.hid b1; clear b1))
    go_ret
    exact ⟨rfl, below_up (by repeat (first | exact Below.refl _ _ | (with_reducible assumption) | refine bw_alloc ?_ _ | refine bw_drew ?_)) B1.out⟩
end Go.Proofs.YtlpffgmfgkleiaaGreatDoor

/-
  The walk over what is wrong with a system, by the document's own words.
-/
namespace Go.Proofs.YtlpffgmfgkleiaaGreatDoor
open Go.RowKit Go.Maps

/-- A system in a box. -/
structure SysB (w : World) (g : Nat) (s r : Int) (a : Option Addr) (n cap : Nat) (v : World) : Prop where
  low : Below w.heap.size w v
  s0 : v.cell? ⟨g, 0, none⟩ = some (.int .i64 s)
  s1 : v.cell? ⟨g, 1, none⟩ = some (.int .i64 r)
  s2 : v.cell? ⟨g, 2, none⟩ = some (.slice a n cap)
theorem SysB.below {w v v' : World} {g : Nat} {s r : Int} {a : Option Addr} {n cap : Nat} (h : SysB w g s r a n cap v) (hb : Below v.heap.size v v') : SysB w g s r a n cap v' :=
  ⟨below_up h.low hb, kept_cell hb h.s0, kept_cell hb h.s1, kept_cell hb h.s2⟩
theorem sysB_new {w : World} {s r : Int} {a : Option Addr} {n cap : Nat} {T : TypeId} : SysB w w.heap.size s r a n cap (w.alloc (.cells #[.int .i64 s, .int .i64 r, .slice a n cap] T)) :=
  ⟨(by repeat (first | exact Below.refl _ _ | (with_reducible assumption) | refine bw_alloc ?_ _ | refine bw_drew ?_)), by rw [World.cell?_alloc_new]; rfl, by rw [World.cell?_alloc_new]; rfl, by rw [World.cell?_alloc_new]; rfl⟩

theorem right_id {x : TV} {s : Int} (h : rightOf x s = 0) : 1 ≤ x.id := by
  unfold rightOf at h
  by_cases g : idBad x
  · rw [if_pos g] at h; omega
  · unfold idBad at g; omega
/-- The priorities ahead, the last one first; the last number ahead. -/
def seenOf (L : List TV) : List Int := (L.map TV.p).reverse
def lastOf (L : List TV) (k : Nat) : Int := match k with
  | 0 => 0
  | k + 1 => (L[k]?.map TV.id).getD 0
theorem seen_next {L : List TV} {k : Nat} {x : TV} (hx : L[k]? = some x) : seenOf (L.take (k + 1)) = x.p :: seenOf (L.take k) := by
  unfold seenOf
  rw [List.take_add_one, hx]
  simp
theorem seen_mem {L : List TV} {j k : Nat} {x : TV} (hx : L[j]? = some x) (hj : j < k) : x.p ∈ seenOf (L.take k) := by
  unfold seenOf
  rw [List.mem_reverse, List.mem_map]
  exact ⟨x, List.mem_of_getElem? (i := j) (by rw [List.getElem?_take, if_pos hj]; exact hx), rfl⟩
theorem seen_not {L : List TV} {k : Nat} {p : Int} (h : ∀ j y, j < k → L[j]? = some y → ¬ y.p = p) : ¬ p ∈ seenOf (L.take k) := by
  unfold seenOf
  rw [List.mem_reverse, List.mem_map]
  rintro ⟨y, hy, rfl⟩
  obtain ⟨j, hj⟩ := List.mem_iff_getElem?.1 hy
  rw [List.getElem?_take] at hj
  split at hj
  · rename_i q; exact h j y q hj rfl
  · cases hj

set_option maxRecDepth 100000 in
set_option maxHeartbeats 8000000 in
theorem rcheck_any {w : World} {a : Option Addr} {n cap : Nat} {L : List TV} (s r : Int) (ha : Tasks w a n cap L) :
    Calls Tryz.prog 30 #[.agg #[.int .i64 s, .int .i64 r, .slice a n cap]] w fun e w' => e = .returned (.int .i64 (checkOf s r L)) ∧ Below w.heap.size w w' := by
  have hl := ha.len
  have hn : (n : Int) ≤ 9223372036854775807 := by have := ha.le; have := ha.small; omega
  by_cases hbad : sysBad s r L
  · have hr : checkOf s r L = 1 := by unfold checkOf; rw [if_pos hbad]
    rw [hr]
    unfold sysBad at hbad
    have d : decide (s < 0) = true ∨ (decide (s < 0) = false ∧ decide (256 < s) = true) ∨ (decide (s < 0) = false ∧ decide (256 < s) = false ∧ decide (r < 0) = true) ∨ (decide (s < 0) = false ∧ decide (256 < s) = false ∧ decide (r < 0) = false ∧ decide (1000 < r) = true) ∨ (decide (s < 0) = false ∧ decide (256 < s) = false ∧ decide (r < 0) = false ∧ decide (1000 < r) = false ∧ ((n : Int) == 0) = true) := by
      simp only [decide_eq_true_eq, decide_eq_false_iff_not, beq_iff_eq]; omega
    clear hr hbad ha hl
    rcases d with d1 | ⟨d1, d2⟩ | ⟨d1, d2, d3⟩ | ⟨d1, d2, d3, d4⟩ | ⟨d1, d2, d3, d4, d5⟩
    all_goals
      go_enter Tryz.func30, Tryz.ntmps30
      go_wp2
      go_ret
      exact ⟨rfl, (by repeat (first | exact Below.refl _ _ | (with_reducible assumption) | refine bw_alloc ?_ _ | refine bw_drew ?_))⟩
  have hr : checkOf s r L = if 64 < L.length then 15 else firstOf s 0 [] L := by unfold checkOf; rw [if_neg hbad]
  rw [hr]
  unfold sysBad at hbad
  have d1 : decide (s < 0) = false := decide_eq_false (by omega)
  have d2 : decide (256 < s) = false := decide_eq_false (by omega)
  have d3 : decide (r < 0) = false := decide_eq_false (by omega)
  have d4 : decide (1000 < r) = false := decide_eq_false (by omega)
  have d5 : ((n : Int) == 0) = false := by rw [beq_eq_false_iff_ne]; omega
  by_cases h4 : 64 < n
  · rw [if_pos (by omega)]
    have h5 : (64 : Int) < (n : Int) := by omega
    clear hr hbad ha hl
    go_enter Tryz.func30, Tryz.ntmps30
    go_wp2
    go_ret
    exact ⟨rfl, (by repeat (first | exact Below.refl _ _ | (with_reducible assumption) | refine bw_alloc ?_ _ | refine bw_drew ?_))⟩
  rw [if_neg (by omega)]
  have h5 : ¬ (64 : Int) < (n : Int) := by omega
  have HA := Lib.hid ha
  generalize hR : firstOf s 0 [] L = R
  have HR := Lib.hid hR
  clear hr hbad ha hl hR h4
  go_enter Tryz.func30, Tryz.ntmps30
  go_wp2
  refine gen_world (SysB w w.heap.size s r a n cap) sysB_new ?_
  intro W1 hw1
  have H1 := Lib.hid hw1
  clear hw1
  go_loopw [3] (fun u wr => ∃ (k : Nat), k ≤ n ∧ u = .int .i64 k ∧ Hid (firstOf s (lastOf L k) (seenOf (L.take k)) (L.drop k) = R) ∧ Hid (SysB w w.heap.size s r a n cap wr)) (fun u _ => (n - intOf u).toNat)
  case atStart => exact ⟨0, by omega, rfl, by show _ = _; rw [List.drop_zero]; exact HR.out, H1⟩
  case round =>
    obtain ⟨k, hk, rfl, HS, HP⟩ := hrel
    obtain ⟨_, e0, e1, e2⟩ := HP.out
    by_cases hlt : k < n
    · obtain ⟨x, hx⟩ := nth_of HA.out.len hlt
      obtain ⟨g, o, rfl, ⟨c0, c1, c2, c3, c4, c5, c6⟩⟩ := (HA.out.view.below HP.out.low).at_ hx
      have hk1 : (k : Int) < (n : Int) := by omega
      have hk0 : (0 : Int) ≤ (k : Int) := by omega
      have hF := first_drop (s := s) (last := lastOf L k) (seen := seenOf (L.take k)) hx
      rw [HS.out] at hF
      have HX := Lib.hid ((HA.out.ok.at_ hx).below HP.out.low)
      have RX := Lib.hid (fun v (hb : Below wr.heap.size wr v) => rright_any x s v (HX.out.below hb))
      unfold TV.val at RX
      have HXX := Lib.hid hx
      clear hx
      by_cases h1 : rightOf x s = 0
      rotate_left
      · rw [if_pos h1] at hF
        have d6 : (rightOf x s == 0) = false := by rw [beq_eq_false_iff_ne]; exact h1
        have d7 : (rightOf x s != 0) = true := by rw [bne, d6]; rfl
        have HF := Lib.hid hF
        generalize rightOf x s = q at *
        clear hF h1
        go_upto_region 8 with fail
        go_still_tail 7, (by kernel_rfl)
        go_wp2_with (go_at_call 20; (with_reducible refine (RX.out _ (by repeat (first | exact Below.refl _ _ | (with_reducible assumption) | refine bw_alloc ?_ _ | refine bw_drew ?_))).mono ?_); rintro e w1 ⟨rfl, b1⟩; have B1 := Lib.hid (below_up (W := wr) (by repeat (first | exact Below.refl _ _ | (with_reducible assumption) | refine bw_alloc ?_ _ | refine bw_drew ?_)) b1); clear b1)
        go_ret
        rw [HF.out]
        exact ⟨rfl, below_up HP.out.low B1.out⟩
      rw [if_neg (fun z => z h1)] at hF
      rw [h1] at RX
      have HF := Lib.hid hF
      have HID := Lib.hid (right_id h1)
      clear hF h1
      go_upto_region 8 with fail
      go_still_tail 7, (by kernel_rfl)
      go_upto_region 11 with (go_at_call 20; (with_reducible refine (RX.out _ (by repeat (first | exact Below.refl _ _ | (with_reducible assumption) | refine bw_alloc ?_ _ | refine bw_drew ?_))).mono ?_); rintro e w1 ⟨rfl, b1⟩; have HP1 := Lib.hid (HP.out.below (below_up (W := wr) (by repeat (first | exact Below.refl _ _ | (with_reducible assumption) | refine bw_alloc ?_ _ | refine bw_drew ?_)) b1)); clear b1)
      clear HP c0 c1 c2 c3 c4 c5 c6 e0 e1 e2 RX HX
      obtain ⟨_, e0, e1, e2⟩ := HP1.out
      by_cases hk9 : k = 0
      · have HF2 : Hid (R = if x.p ∈ seenOf (L.take k) then 14 else firstOf s x.id (x.p :: seenOf (L.take k)) (L.drop (k + 1))) := by
          show _ = _
          have := HF.out
          rw [if_neg (by rw [hk9, lastOf]; have := HID.out; omega)] at this
          exact this
        have f1 : ¬ (0 : Int) < (k : Int) := by omega
        have f2 : ¬ 0 < k := by omega
        have f3 : decide ((0 : Int) < (k : Int)) = false := decide_eq_false f1
        clear hk9
        go_quiet (fail)
        go_wp2
        go_loopw [5] (fun u wr => ∃ (i : Nat), i ≤ k ∧ u = .int .i64 i ∧ Hid (∀ j y, j < i → L[j]? = some y → ¬ y.p = x.p) ∧ Hid (SysB w w.heap.size s r (some ⟨g, o, none⟩) n cap wr)) (fun u _ => (k - intOf u).toNat)
        case atStart => exact ⟨0, by omega, rfl, fun j y hj => absurd hj (Nat.not_lt_zero _), HP1.out.below (below_same (Below.refl _ _) rfl rfl rfl rfl)⟩
        case round =>
          obtain ⟨i, hi, rfl, HT, HQ⟩ := hrel
          obtain ⟨_, e0, e1, e2⟩ := HQ.out
          by_cases hlt2 : i < k
          · obtain ⟨y, hy⟩ := nth_of HA.out.len (show i < n by omega)
            obtain ⟨g', o', eq, ⟨b0, b1, b2, b3, b4, b5, b6⟩⟩ := (HA.out.view.below HQ.out.low).at_ hy
            cases eq
            obtain ⟨g', o', eq, ⟨c0, c1, c2, c3, c4, c5, c6⟩⟩ := (HA.out.view.below HQ.out.low).at_ HXX.out
            cases eq
            have hi1 : (i : Int) < (n : Int) := by omega
            have hi2 : (i : Int) < (k : Int) := by omega
            have hi0 : (0 : Int) ≤ (i : Int) := by omega
            by_cases hp : y.p = x.p
            · have hR : Hid (R = 14) := by
                show _ = _
                have := HF2.out
                rw [if_pos (hp ▸ seen_mem hy hlt2)] at this
                exact this
              have d6 : (y.p == x.p) = true := by rw [beq_iff_eq]; exact hp
              clear hy hp b0 b1 b2 b3 b5 b6 c0 c1 c2 c3 c5 c6 HT
              go_upto_region 16 with fail
              go_quiet (fail)
              go_wp2
              go_ret
              rw [hR.out]
              exact ⟨rfl, below_same HQ.out.low rfl rfl rfl rfl⟩
            · have HT2 : Hid (∀ j z, j < i + 1 → L[j]? = some z → ¬ z.p = x.p) := by
                intro j z hj hz
                rcases Nat.lt_succ_iff_lt_or_eq.1 hj with q | rfl
                · exact HT.out j z q hz
                · rw [hy] at hz; cases hz; exact hp
              have d6 : (y.p == x.p) = false := by rw [beq_eq_false_iff_ne]; exact hp
              clear hy hp b0 b1 b2 b3 b5 b6 c0 c1 c2 c3 c5 c6 HT
              go_upto_region 16 with fail
              go_quiet (fail)
              go_wp2
              go_roundw
              case rel => exact ⟨i + 1, by omega, by go_num, HT2, HQ.out.below (below_same (Below.refl _ _) rfl rfl rfl rfl)⟩
              case measure => simp [intOf]; omega
          · obtain rfl : i = k := by omega
            have HN : Hid (firstOf s (lastOf L (i + 1)) (seenOf (L.take (i + 1))) (L.drop (i + 1)) = R) := by
              show _ = _
              have := HF2.out
              rw [if_neg (seen_not HT.out)] at this
              rw [seen_next HXX.out, lastOf, HXX.out, this]
              rfl
            go_wp2
            go_roundw
            case rel => exact ⟨i + 1, by omega, by go_num, HN, HQ⟩
            case measure => simp [intOf]; omega
      · obtain ⟨j, hj⟩ : ∃ j, k = j + 1 := ⟨k - 1, by omega⟩
        obtain ⟨y, hy⟩ := nth_of HA.out.len (show j < n by omega)
        obtain ⟨g', o', eq, ⟨b0, b1, b2, b3, b4, b5, b6⟩⟩ := (HA.out.view.below HP1.out.low).at_ hy
        cases eq
        obtain ⟨g', o', eq, ⟨c0, c1, c2, c3, c4, c5, c6⟩⟩ := (HA.out.view.below HP1.out.low).at_ HXX.out
        cases eq
        have f1 : (0 : Int) < (k : Int) := by omega
        have f2 : 0 < k := by omega
        have f3 : decide ((0 : Int) < (k : Int)) = true := decide_eq_true f1
        have f4 : (j : Int) < (n : Int) := by omega
        have f5 : (0 : Int) ≤ (j : Int) := by omega
        have HL : Hid (lastOf L k = y.id) := by
          show _ = _
          rw [hj, lastOf, hy]; rfl
        have hw : IntKind.i64.wrap ((k : Int) - 1) = (j : Int) := by rw [hj]; exact (IntWalk.i64_in _ (by omega)).trans (by omega)
        clear hk9 hj b1 b2 b3 b4 b5 b6 c1 c2 c3 c4 c5 c6 hy
        by_cases hle : x.id ≤ y.id
        · have hR : Hid (R = 10) := by
            show _ = _
            have := HF.out
            rw [HL.out, if_pos hle] at this
            exact this
          have d6 : decide (x.id ≤ y.id) = true := decide_eq_true hle
          go_quiet (fail)
          go_wp2
          go_ret
          rw [hR.out]
          exact ⟨rfl, below_same HP1.out.low rfl rfl rfl rfl⟩
        have HF2 : Hid (R = if x.p ∈ seenOf (L.take k) then 14 else firstOf s x.id (x.p :: seenOf (L.take k)) (L.drop (k + 1))) := by
          show _ = _
          have := HF.out
          rw [HL.out, if_neg hle] at this
          exact this
        have d6 : decide (x.id ≤ y.id) = false := decide_eq_false hle
        go_quiet (fail)
        clear b0 c0
        go_wp2
        go_loopw [5] (fun u wr => ∃ (i : Nat), i ≤ k ∧ u = .int .i64 i ∧ Hid (∀ j y, j < i → L[j]? = some y → ¬ y.p = x.p) ∧ Hid (SysB w w.heap.size s r (some ⟨g, o, none⟩) n cap wr)) (fun u _ => (k - intOf u).toNat)
        case atStart => exact ⟨0, by omega, rfl, fun j y hj => absurd hj (Nat.not_lt_zero _), HP1.out.below (below_same (Below.refl _ _) rfl rfl rfl rfl)⟩
        case round =>
          obtain ⟨i, hi, rfl, HT, HQ⟩ := hrel
          obtain ⟨_, e0, e1, e2⟩ := HQ.out
          by_cases hlt2 : i < k
          · obtain ⟨y, hy⟩ := nth_of HA.out.len (show i < n by omega)
            obtain ⟨g', o', eq, ⟨b0, b1, b2, b3, b4, b5, b6⟩⟩ := (HA.out.view.below HQ.out.low).at_ hy
            cases eq
            obtain ⟨g', o', eq, ⟨c0, c1, c2, c3, c4, c5, c6⟩⟩ := (HA.out.view.below HQ.out.low).at_ HXX.out
            cases eq
            have hi1 : (i : Int) < (n : Int) := by omega
            have hi2 : (i : Int) < (k : Int) := by omega
            have hi0 : (0 : Int) ≤ (i : Int) := by omega
            by_cases hp : y.p = x.p
            · have hR : Hid (R = 14) := by
                show _ = _
                have := HF2.out
                rw [if_pos (hp ▸ seen_mem hy hlt2)] at this
                exact this
              have d6 : (y.p == x.p) = true := by rw [beq_iff_eq]; exact hp
              clear hy hp b0 b1 b2 b3 b5 b6 c0 c1 c2 c3 c5 c6 HT
              go_upto_region 16 with fail
              go_quiet (fail)
              go_wp2
              go_ret
              rw [hR.out]
              exact ⟨rfl, below_same HQ.out.low rfl rfl rfl rfl⟩
            · have HT2 : Hid (∀ j z, j < i + 1 → L[j]? = some z → ¬ z.p = x.p) := by
                intro j z hj hz
                rcases Nat.lt_succ_iff_lt_or_eq.1 hj with q | rfl
                · exact HT.out j z q hz
                · rw [hy] at hz; cases hz; exact hp
              have d6 : (y.p == x.p) = false := by rw [beq_eq_false_iff_ne]; exact hp
              clear hy hp b0 b1 b2 b3 b5 b6 c0 c1 c2 c3 c5 c6 HT
              go_upto_region 16 with fail
              go_quiet (fail)
              go_wp2
              go_roundw
              case rel => exact ⟨i + 1, by omega, by go_num, HT2, HQ.out.below (below_same (Below.refl _ _) rfl rfl rfl rfl)⟩
              case measure => simp [intOf]; omega
          · obtain rfl : i = k := by omega
            have HN : Hid (firstOf s (lastOf L (i + 1)) (seenOf (L.take (i + 1))) (L.drop (i + 1)) = R) := by
              show _ = _
              have := HF2.out
              rw [if_neg (seen_not HT.out)] at this
              rw [seen_next HXX.out, lastOf, HXX.out, this]
              rfl
            go_wp2
            go_roundw
            case rel => exact ⟨i + 1, by omega, by go_num, HN, HQ⟩
            case measure => simp [intOf]; omega
    · obtain rfl : n = k := by omega
      have HF : Hid (R = 0) := by
        show _ = _
        rw [← HS.out, List.drop_of_length_le (by rw [HA.out.len]; exact Nat.le_refl _), firstOf]
      go_wp2_with fail
      go_ret
      rw [HF.out]
      exact ⟨rfl, HP.out.low⟩
end Go.Proofs.YtlpffgmfgkleiaaGreatDoor

/-
  Tasks by plain numbers: what a number's task is, in words.
-/
namespace Go.Proofs.YtlpffgmfgkleiaaGreatDoor
open Go.RowKit Go.Maps

/-- A task's plain numbers as they stand in memory. -/
structure NV where
  C : Int
  D : Int
  T : Int
  P : Int
  K : Int
  a : Option Addr
  us : List Int
  c : Nat
def NV.cells (x : NV) : List Value := [.int .i64 x.C, .int .i64 x.D, .int .i64 x.T, .int .i64 x.P, .int .i64 x.K, .slice x.a x.us.length x.c]
structure NV.ok (w : World) (x : NV) : Prop where
  row : Ints w x.a x.us
  le : x.us.length ≤ x.c
  small : (x.c : Int) ≤ 9223372036854775807
theorem NV.ok.below {w w' : World} {x : NV} (h : x.ok w) (hb : Below w.heap.size w w') : x.ok w' := ⟨h.row.below hb, h.le, h.small⟩
/-- The cells of a task's plain numbers, from a place on. -/
structure NAt (w : World) (g o : Nat) (x : NV) : Prop where
  c0 : w.cell? ⟨g, o, none⟩ = some (.int .i64 x.C)
  c1 : w.cell? ⟨g, o + 1, none⟩ = some (.int .i64 x.D)
  c2 : w.cell? ⟨g, o + 2, none⟩ = some (.int .i64 x.T)
  c3 : w.cell? ⟨g, o + 3, none⟩ = some (.int .i64 x.P)
  c4 : w.cell? ⟨g, o + 4, none⟩ = some (.int .i64 x.K)
  c5 : w.cell? ⟨g, o + 5, none⟩ = some (.slice x.a x.us.length x.c)
theorem NAt.below {w w' : World} {g o : Nat} {x : NV} (h : NAt w g o x) (hb : Below w.heap.size w w') : NAt w' g o x :=
  ⟨kept_cell hb h.c0, kept_cell hb h.c1, kept_cell hb h.c2, kept_cell hb h.c3, kept_cell hb h.c4, kept_cell hb h.c5⟩

/-- What is promised of the task that a number means: at place i, for so many sets. -/
structure Good (i : Int) (sets : Int) (y : TV) : Prop where
  id : y.id = i + 1
  c1 : 1 ≤ y.c
  cd : y.c ≤ y.d
  dt : y.d ≤ y.t
  t24 : y.t ≤ 24
  p1 : 10 ≤ y.p
  p99 : y.p ≤ 90 + i
  pi : (y.p - i) % 10 = 0
  ch : y.ch = [] ∨ fillB y.ch y.c = true
  us : ∀ u ∈ y.us, 0 ≤ u ∧ u < sets
  us5 : y.us.length ≤ 5

theorem fill_sum : ∀ (l : List Int) (c : Int), (∀ x ∈ l, 1 ≤ x) → l.sum = c → fillB l c = true
  | [], c, _, h => by simp at h; subst h; rfl
  | x :: l, c, hp, h => by
    have h1 : 1 ≤ x := hp x (by simp)
    have hs : ∀ (l : List Int), (∀ x ∈ l, 1 ≤ x) → 0 ≤ l.sum := by
      intro l
      induction l with
      | nil => intro _; simp
      | cons y l ih =>
        intro hl
        have := ih (fun z hz => hl z (by simp [hz]))
        have := hl y (by simp)
        simp only [List.sum_cons]; omega
    have h2 := hs l (fun z hz => hp z (by simp [hz]))
    simp only [List.sum_cons] at h
    rw [fillB, if_pos ⟨h1, by omega⟩]
    exact fill_sum l (c - x) (fun z hz => hp z (by simp [hz])) (by omega)

theorem and_small (n : Int) (m : Nat) (hm : m < 1000) : ∃ j : Nat, j ≤ m ∧ bits .and .i64 n (m : Int) = (j : Int) := by
  have hm2 : (BitVec.ofInt 64 (m : Int)).toNat = m := by
    rw [BitVec.toNat_ofInt]; omega
  have h : (BitVec.ofInt 64 n &&& BitVec.ofInt 64 (m : Int)).toNat ≤ m := by
    rw [BitVec.toNat_and, hm2]; exact Nat.and_le_right
  refine ⟨_, h, ?_⟩
  show IntKind.i64.wrap _ = _
  exact IntWalk.i64_in _ (by show _ ∧ ((BitVec.ofInt 64 n &&& BitVec.ofInt 64 (m : Int)).toNat : Int) ≤ _; omega)
theorem and7 (n : Int) : ∃ j : Nat, j < 8 ∧ bits .and .i64 n 7 = (j : Int) := by
  obtain ⟨j, h1, h2⟩ := and_small n 7 (by omega)
  exact ⟨j, by omega, h2⟩
theorem period (j : Nat) (hj : j < 8) : ∃ t : Int, [(4 : Int), 5, 6, 8, 10, 12, 20, 24][j]? = some t ∧ 4 ≤ t ∧ t ≤ 24 := by
  match j, hj with
  | 0, _ => exact ⟨4, rfl, by omega, by omega⟩
  | 1, _ => exact ⟨5, rfl, by omega, by omega⟩
  | 2, _ => exact ⟨6, rfl, by omega, by omega⟩
  | 3, _ => exact ⟨8, rfl, by omega, by omega⟩
  | 4, _ => exact ⟨10, rfl, by omega, by omega⟩
  | 5, _ => exact ⟨12, rfl, by omega, by omega⟩
  | 6, _ => exact ⟨20, rfl, by omega, by omega⟩
  | 7, _ => exact ⟨24, rfl, by omega, by omega⟩
theorem ints_block (w : World) (l : List Int) (T : TypeId) : Ints (w.alloc (.cells (vi l).toArray T)) (some ⟨w.heap.size, 0, none⟩) l :=
  .inr ⟨_, 0, rfl, fun j u hj => by rw [Nat.zero_add, World.cell?_alloc_new]; simpa using vi_at hj⟩

/-- The plain numbers in a box; the task that comes back in another one. -/
structure NumAt (w : World) (x : NV) (W : World) : Prop where
  low : Below w.heap.size w W
  c0 : W.cell? ⟨w.heap.size, 0, none⟩ = some (.int .i64 x.C)
  c1 : W.cell? ⟨w.heap.size, 1, none⟩ = some (.int .i64 x.D)
  c2 : W.cell? ⟨w.heap.size, 2, none⟩ = some (.int .i64 x.T)
  c3 : W.cell? ⟨w.heap.size, 3, none⟩ = some (.int .i64 x.P)
  c4 : W.cell? ⟨w.heap.size, 4, none⟩ = some (.int .i64 x.K)
  c5 : W.cell? ⟨w.heap.size, 5, none⟩ = some (.slice x.a x.us.length x.c)
  res : W.heap[w.heap.size + 1]? = some (.cells #[.int .i64 0, .int .i64 0, .int .i64 0, .int .i64 0, .int .i64 0, .slice none 0 0, .slice none 0 0] TT (0, 0))
theorem NumAt.below {w W W' : World} {x : NV} (h : NumAt w x W) (hb : Below W.heap.size W W') : NumAt w x W' :=
  ⟨below_up h.low hb, kept_cell hb h.c0, kept_cell hb h.c1, kept_cell hb h.c2, kept_cell hb h.c3, kept_cell hb h.c4, kept_cell hb h.c5, kept_obj hb h.res⟩
theorem NumAt.belowB {B : Nat} {w W W' : World} {x : NV} (h : NumAt w x W) (hB : w.heap.size + 1 < B) (hb : Below B W W') : NumAt w x W' :=
  ⟨h.low.trans (hb.mono (by omega)), kept_cellB hb (by omega) h.c0, kept_cellB hb (by omega) h.c1, kept_cellB hb (by omega) h.c2, kept_cellB hb (by omega) h.c3, kept_cellB hb (by omega) h.c4, kept_cellB hb (by omega) h.c5, (hb.block _ hB).trans h.res⟩
theorem numAt_new {w : World} {x : NV} {T : TypeId} : NumAt w x ((w.alloc (.cells #[.int .i64 x.C, .int .i64 x.D, .int .i64 x.T, .int .i64 x.P, .int .i64 x.K, .slice x.a x.us.length x.c] T)).alloc (.cells #[.int .i64 0, .int .i64 0, .int .i64 0, .int .i64 0, .int .i64 0, .slice none 0 0, .slice none 0 0] TT)) := by
  refine ⟨(by repeat (first | exact Below.refl _ _ | (with_reducible assumption) | refine bw_alloc ?_ _ | refine bw_drew ?_)), (new_first w _ _ _ 0).trans rfl, (new_first w _ _ _ 1).trans rfl, (new_first w _ _ _ 2).trans rfl, (new_first w _ _ _ 3).trans rfl, (new_first w _ _ _ 4).trans rfl, (new_first w _ _ _ 5).trans rfl, ?_⟩
  have := heap_alloc_new (w.alloc (.cells #[.int .i64 x.C, .int .i64 x.D, .int .i64 x.T, .int .i64 x.P, .int .i64 x.K, .slice x.a x.us.length x.c] T)) (.cells #[.int .i64 0, .int .i64 0, .int .i64 0, .int .i64 0, .int .i64 0, .slice none 0 0, .slice none 0 0] TT)
  rwa [World.size_alloc] at this

/-- A task that is being made, in a box of its own. -/
structure TaskAt (w : World) (x : NV) (g : Nat) (id c d t p : Int) (v1 : Value) (R1 : List Int) (v2 : Value) (R2 : List Int) (W : World) : Prop where
  num : NumAt w x W
  gl : w.heap.size + 1 < g
  box : W.heap[g]? = some (.cells #[.int .i64 id, .int .i64 c, .int .i64 d, .int .i64 t, .int .i64 p, v1, v2] TT (0, 0))
  own1 : OwnI W 2 (g + 1) v1 R1
  own2 : OwnI W 3 (g + 1) v2 R2
theorem TaskAt.below {w W W' : World} {x : NV} {g : Nat} {id c d t p : Int} {v1 v2 : Value} {R1 R2 : List Int} (h : TaskAt w x g id c d t p v1 R1 v2 R2 W) (hb : Below W.heap.size W W') : TaskAt w x g id c d t p v1 R1 v2 R2 W' :=
  ⟨h.num.below hb, h.gl, kept_obj hb h.box, h.own1.below hb, h.own2.below hb⟩
theorem OwnI.set {w : World} {e : TypeId} {B : Nat} {v : Value} {l : List Int} (h : OwnI w e B v l) {a : Addr} (ha : a.block < B) (u : Value) : OwnI (w.setCell a u) e B v l := ownsRow_setCell_below h ha u
theorem own_set7 {w : World} {e : TypeId} {B b : Nat} {v : Value} {l : List Int} (h : OwnI w e B v l) (hb : b < B) (x0 x1 x2 x3 x4 x5 x6 : Value) : OwnI ((((((((w.setCell ⟨b, 0, none⟩ x0).setCell ⟨b, 1, none⟩ x1).setCell ⟨b, 2, none⟩ x2).setCell ⟨b, 3, none⟩ x3).setCell ⟨b, 4, none⟩ x4).setCell ⟨b, 5, none⟩ x5).setCell ⟨b, 6, none⟩ x6)) e B v l := by
  have h0 := h.set (a := ⟨b, 0, none⟩) hb x0
  have h1 := h0.set (a := ⟨b, 1, none⟩) hb x1
  have h2 := h1.set (a := ⟨b, 2, none⟩) hb x2
  have h3 := h2.set (a := ⟨b, 3, none⟩) hb x3
  have h4 := h3.set (a := ⟨b, 4, none⟩) hb x4
  have h5 := h4.set (a := ⟨b, 5, none⟩) hb x5
  exact h5.set (a := ⟨b, 6, none⟩) hb x6
theorem below_set7 {W w : World} {B b : Nat} (h : Below B W w) (hb : B ≤ b) (x0 x1 x2 x3 x4 x5 x6 : Value) : Below B W ((((((((w.setCell ⟨b, 0, none⟩ x0).setCell ⟨b, 1, none⟩ x1).setCell ⟨b, 2, none⟩ x2).setCell ⟨b, 3, none⟩ x3).setCell ⟨b, 4, none⟩ x4).setCell ⟨b, 5, none⟩ x5).setCell ⟨b, 6, none⟩ x6)) := by
  have h0 := h.setCell (p := ⟨b, 0, none⟩) hb x0
  have h1 := h0.setCell (p := ⟨b, 1, none⟩) hb x1
  have h2 := h1.setCell (p := ⟨b, 2, none⟩) hb x2
  have h3 := h2.setCell (p := ⟨b, 3, none⟩) hb x3
  have h4 := h3.setCell (p := ⟨b, 4, none⟩) hb x4
  have h5 := h4.setCell (p := ⟨b, 5, none⟩) hb x5
  exact h5.setCell (p := ⟨b, 6, none⟩) hb x6
theorem NumAt.set {w W : World} {x : NV} (h : NumAt w x W) {g o : Nat} (hg : w.heap.size + 1 < g) (u : Value) : NumAt w x (W.setCell ⟨g, o, none⟩ u) :=
  h.belowB (B := g) hg ((Below.refl _ _).setCell (p := ⟨g, o, none⟩) (Nat.le_refl _) u)
theorem TaskAt.push1 {w W w3 : World} {x : NV} {g : Nat} {id c d t p : Int} {v1 v' : Value} {R1 R' : List Int} (h : TaskAt w x g id c d t p v1 R1 (.slice none 0 0) [] W) (hg : W.grownBy w3 v1.ownBlock) (ho : OwnI w3 2 (g + 1) v' R') :
    TaskAt w x g id c d t p v' R' (.slice none 0 0) [] (w3.setCell ⟨g, 5, none⟩ v') ∧ w3.cell? ⟨g, 5, none⟩ = some v1 ∧ w3.frozen? ⟨g, 5, none⟩ = false := by
  have hs : g + 1 ≤ W.heap.size := lt_of_block h.box
  have hb : Below (g + 1) W w3 := (Below.refl _ W).grown hg hs (fun k hk => (h.own1.new hk).1)
  have h3 := kept_objB hb (by omega) h.box
  exact ⟨⟨(h.num.belowB (by have := h.gl; omega) hb).set h.gl _, h.gl, (blk_set h3 _).trans rfl, ho.set (by simp) _, OwnI.nil _ _ _⟩, by rw [blk_cell h3]; rfl, blk_free h3 5⟩
theorem TaskAt.push2 {w W w3 : World} {x : NV} {g : Nat} {id c d t p : Int} {v1 v2 v' : Value} {R1 R2 R' : List Int} (h : TaskAt w x g id c d t p v1 R1 v2 R2 W) (hg : W.grownBy w3 v2.ownBlock) (ho : OwnI w3 3 (g + 1) v' R') :
    TaskAt w x g id c d t p v1 R1 v' R' (w3.setCell ⟨g, 6, none⟩ v') ∧ w3.cell? ⟨g, 6, none⟩ = some v2 ∧ w3.frozen? ⟨g, 6, none⟩ = false := by
  have hs : g + 1 ≤ W.heap.size := lt_of_block h.box
  have hb : Below (g + 1) W w3 := (Below.refl _ W).grown hg hs (fun k hk => (h.own2.new hk).1)
  have h3 := kept_objB hb (by omega) h.box
  have h1 : OwnI w3 2 (g + 1) v1 R1 := by
    rcases h.own1 with ⟨h0, q | ⟨k, cap, cur, e, hB, h3, r⟩⟩
    · exact ⟨h0, .inl q⟩
    · refine ⟨h0, .inr ⟨k, cap, cur, e, hB, ?_, r⟩⟩
      rw [hg.block k (lt_of_block h3) ?_]; exact h3
      intro z
      rcases h.own2 with ⟨_, q | ⟨k', cap', cur', e', hB', h3', _⟩⟩
      · rw [q.1] at z; cases z
      · rw [e'] at z
        simp [Value.ownBlock] at z
        subst z
        rw [h3] at h3'
        simp at h3'
  exact ⟨⟨(h.num.belowB (by have := h.gl; omega) hb).set h.gl _, h.gl, (blk_set h3 _).trans rfl, h1.set (by simp) _, ho.set (by simp) _⟩, by rw [blk_cell h3]; rfl, blk_free h3 6⟩
theorem taskAt_new {w W : World} {x : NV} {id c d t p : Int} (h : NumAt w x W) (hg : w.heap.size + 1 < W.heap.size) : TaskAt w x W.heap.size id c d t p (.slice none 0 0) [] (.slice none 0 0) [] (W.alloc (.cells #[.int .i64 id, .int .i64 c, .int .i64 d, .int .i64 t, .int .i64 p, .slice none 0 0, .slice none 0 0] TT)) :=
  ⟨h.below (by repeat (first | exact Below.refl _ _ | (with_reducible assumption) | refine bw_alloc ?_ _ | refine bw_drew ?_)), hg, heap_alloc_new W _, OwnI.nil _ _ _, OwnI.nil _ _ _⟩
/-- Chunks so far: from 1 on, of that sum. -/
def Chunks (R : List Int) (f : Int) : Prop := (∀ x ∈ R, 1 ≤ x) ∧ R.sum = f
theorem Chunks.push {R : List Int} {f k : Int} (h : Chunks R f) (hk : f < k) : Chunks (R ++ [k - f]) k := by
  refine ⟨fun x hx => ?_, ?_⟩
  · rcases List.mem_append.1 hx with q | q
    · exact h.1 x q
    · simp at q; omega
  · rw [List.sum_append, h.2]; simp; omega
theorem Chunks.len {R : List Int} {f : Int} (h : Chunks R f) (hf : 0 ≤ f) : (R.length : Int) ≤ f := fill_len R f hf (fill_sum R f h.1 h.2)
/-- The row lies in a block of numbers. -/
def IsI (w : World) (a : Option Addr) (l : List Int) : Prop := l = [] ∨ ∀ g o, a = some ⟨g, o, none⟩ → ∃ cs T fr, w.heap[g]? = some (.cells cs T fr) ∧ (T = 2 ∨ T = 3)
theorem IsI.below {w w' : World} {a : Option Addr} {l : List Int} (h : IsI w a l) (hb : Below w.heap.size w w') : IsI w' a l := by
  rcases h with h | h
  · exact .inl h
  · refine .inr fun g o e => ?_
    obtain ⟨cs, T, fr, h1, h2⟩ := h g o e
    exact ⟨cs, T, fr, kept_obj hb h1, h2⟩
theorem OwnI.isI {w : World} {e : TypeId} {B n c : Nat} {a : Option Addr} {l : List Int} (h : OwnI w e B (.slice a n c) l) (he : e = 2 ∨ e = 3) : IsI w a l := by
  rcases h.2 with ⟨h1, h0⟩ | ⟨g, cap, cur, h1, _, h3, _⟩
  · exact .inl (List.length_eq_zero_iff.1 h0)
  · refine .inr fun g' o e' => ?_
    cases h1; cases e'
    exact ⟨_, _, _, h3, he⟩
/-- The task that comes back. -/
def TaskBack (i sets : Int) (w : World) (e : Ending) (w' : World) : Prop :=
  ∃ y : TV, e = .returned (.agg #[.int .i64 y.id, .int .i64 y.c, .int .i64 y.d, .int .i64 y.t, .int .i64 y.p, .slice y.a1 y.ch.length y.c1, .slice y.a2 y.us.length y.c2]) ∧ y.ok w' ∧ Good i sets y ∧ Below w.heap.size w w' ∧ IsI w' y.a1 y.ch ∧ IsI w' y.a2 y.us

set_option maxRecDepth 100000 in
set_option maxHeartbeats 4000000 in
theorem task_any (x : NV) (i sets : Int) (hi : 0 ≤ i ∧ i < 6) (hs : 1 ≤ sets ∧ sets ≤ 8) (w : World) (hx : x.ok w) : Calls Tryz.prog 44 #[.agg #[.int .i64 x.C, .int .i64 x.D, .int .i64 x.T, .int .i64 x.P, .int .i64 x.K, .slice x.a x.us.length x.c], .int .i64 i, .int .i64 sets] w (TaskBack i sets w) := by
  have hz := zeroTask
  obtain ⟨j, hj, hj2⟩ := and7 x.T
  obtain ⟨t, ht, ht1, ht2⟩ := period j hj
  go_enter Tryz.func44, Tryz.ntmps44
  go_upto_region 1 with fail
  refine gen_world (NumAt w x) numAt_new ?_
  intro W1 hw1
  have H1 := Lib.hid hw1
  clear hw1
  go_upto_region 2 with fail
  have hcell : (W1.alloc (.cells #[.int .i64 4, .int .i64 5, .int .i64 6, .int .i64 8, .int .i64 10, .int .i64 12, .int .i64 20, .int .i64 24] 118)).cell? ⟨W1.heap.size, j, none⟩ = some (.int .i64 t) := by
    obtain ⟨g, o, e, h⟩ := (ints_block W1 [4, 5, 6, 8, 10, 12, 20, 24] 118).at_ ht
    cases e; rw [Nat.zero_add] at h; exact h
  refine gen_world (fun v => NumAt w x v ∧ v.cell? ⟨W1.heap.size, j, none⟩ = some (.int .i64 t)) ⟨H1.out.below (by repeat (first | exact Below.refl _ _ | (with_reducible assumption) | refine bw_alloc ?_ _ | refine bw_drew ?_)), hcell⟩ ?_
  intro W2 ⟨hw2, hcell2⟩
  clear hcell
  have H2 := Lib.hid hw2
  obtain ⟨_, c0, c1, c2, c3, c4, c5, _⟩ := hw2
  have hj1 : (j : Int) < 8 := by omega
  have hj0 : (0 : Int) ≤ (j : Int) := by omega
  have HT := Lib.hid ht
  clear ht
  obtain ⟨d, hd⟩ : ∃ d, restI x.D t = d := ⟨_, rfl⟩
  have R1 := Lib.hid (fun w => hd ▸ rest_any x.D t (by omega) (by omega) w)
  have hd0 : 0 ≤ d := by rw [← hd]; exact Int.emod_nonneg _ (by omega)
  have hd1 : d < t := by rw [← hd]; exact Int.emod_lt_of_pos _ (by omega)
  have hw1 : IntKind.i64.wrap (1 + d) = 1 + d := IntWalk.i64_in _ (by omega)
  obtain ⟨c, hc⟩ : ∃ c, restI x.C (1 + d) = c := ⟨_, rfl⟩
  have R2 := Lib.hid (fun w => hc ▸ rest_any x.C (1 + d) (by omega) (by omega) w)
  have hc0 : 0 ≤ c := by rw [← hc]; exact Int.emod_nonneg _ (by omega)
  have hc1 : c < 1 + d := by rw [← hc]; exact Int.emod_lt_of_pos _ (by omega)
  have hw2 : IntKind.i64.wrap (1 + c) = 1 + c := IntWalk.i64_in _ (by omega)
  obtain ⟨p, hp⟩ : ∃ p, restI x.P 9 = p := ⟨_, rfl⟩
  have R3 := Lib.hid (fun w => hp ▸ rest_any x.P 9 (by omega) (by omega) w)
  have hp0 : 0 ≤ p := by rw [← hp]; exact Int.emod_nonneg _ (by omega)
  have hp1 : p < 9 := by rw [← hp]; exact Int.emod_lt_of_pos _ (by omega)
  have hw3 : IntKind.i64.wrap (1 + p) = 1 + p := IntWalk.i64_in _ (by omega)
  have hw4 : IntKind.i64.wrap (10 * (1 + p)) = 10 * (1 + p) := IntWalk.i64_in _ (by omega)
  have hw5 : IntKind.i64.wrap (10 * (1 + p) + i) = 10 * (1 + p) + i := IntWalk.i64_in _ (by omega)
  have hw6 : IntKind.i64.wrap (i + 1) = i + 1 := IntWalk.i64_in _ (by omega)
  clear hd hc hp
  go_upto_region 6 with (first
    | (go_at_call 43; (with_reducible refine (R1.out _).mono ?_); rintro e w3 ⟨rfl, rfl⟩)
    | (go_at_call 43; (with_reducible refine (R2.out _).mono ?_); rintro e w3 ⟨rfl, rfl⟩)
    | (go_at_call 43; (with_reducible refine (R3.out _).mono ?_); rintro e w3 ⟨rfl, rfl⟩))
  have hgl0 : w.heap.size + 1 < W2.heap.size := lt_of_block H2.out.res
  refine gen_world (TaskAt w x W2.heap.size (i + 1) (1 + c) (1 + d) t (10 * (1 + p) + i) (.slice none 0 0) [] (.slice none 0 0) []) (taskAt_new H2.out hgl0) ?_
  intro W3 hw3s
  have H3 := Lib.hid hw3s
  have hp9 : (10 * (1 + p) + i - i) % 10 = 0 := by omega
  have hp10 : 10 ≤ 10 * (1 + p) + i := by omega
  have hp99 : 10 * (1 + p) + i ≤ 90 + i := by omega
  have HP9 := Lib.hid hp9
  have HM : Hid (∀ sx : Unit, IntKind.i64.wrap (i + 1) = i + 1) := fun _ => hw6
  have HX := Lib.hid hx
  have hcc : 1 ≤ 1 + c := by omega
  have hcd : 1 + c ≤ 1 + d := by omega
  have hdt : 1 + d ≤ t := by omega
  have HI : Hid (i + 1 = i + 1) := rfl
  clear hw3s hw1 hw2 hw3 hw4 hw5 hw6 hp9 HT hcell2 c0 c1 c2 c3 c4 c5 R1 R2 R3 hj0 hj1 hj2 hj hx hc0 hc1 hd0 hd1 hp0 hp1 H1 H2
  generalize 1 + c = C at *
  generalize 1 + d = D at *
  generalize 10 * (1 + p) + i = P at *
  generalize W2.heap.size = g at *
  clear hgl0
  go_wp2_with fail
  go_loopw [12, 13] (fun u v wr => ∃ (f k : Int) (v1 : Value) (R1 : List Int), 1 ≤ k ∧ k ≤ C ∧ 0 ≤ f ∧ f < k ∧ v = .int .i64 k ∧ u = .int .i64 f ∧ Hid (Chunks R1 f) ∧ Hid (TaskAt w x g (i + 1) C D t P v1 R1 (.slice none 0 0) [] wr)) (fun _ v _ => (C - intOf v).toNat)
  case atStart => exact ⟨0, 1, _, [], by omega, hcc, by omega, by omega, rfl, rfl, ⟨(fun x hx => by cases hx), rfl⟩, H3⟩
  case round =>
    obtain ⟨f, k, v1, R1, hk1, hkC, hf0, hfk, rfl, rfl, HC, HP⟩ := hrel
    clear H3
    have c4 := HP.out.num.c4
    have b5 : wr.cell? ⟨g, 5, none⟩ = some v1 := by rw [blk_cell HP.out.box]; rfl
    have hgw : g < wr.heap.size := lt_of_block HP.out.box
    by_cases hlt : k < C
    · have hu : IntKind.u64.wrap k = k := by rw [IntKind.wrap_u64]; omega
      have hk24 : k ≤ 64 := by omega
      have hk0 : 0 ≤ k := by omega
      have hku : k ≤ 18446744073709551615 := by omega
      obtain ⟨q, hq⟩ : ∃ q, bits .and .i64 (x.K / 2 ^ k.toNat) 1 = q := ⟨_, rfl⟩
      by_cases hq1 : q = 1
      · obtain ⟨a5, cp5, rfl, _⟩ := HP.out.own1.slice
        have HLN := Lib.hid (HC.out.len hf0)
        have HSM : Hid (((R1.length : Int) + ((1 : Nat) : Int)) ≤ 17592186044416) := by show _ ≤ _; have := HLN.out; omega
        have HSZ : Hid (g + 1 ≤ (wr.alloc (.cells #[.int .i64 (k - f)] 2)).heap.size) := by show _ ≤ _; rw [World.size_alloc]; omega
        have HW : Hid (IntKind.i64.wrap (k - f) = k - f) := IntWalk.i64_in _ (by omega)
        have HC2 := Lib.hid (HC.out.push hfk)
        have d1 : (q == 1) = true := by rw [beq_iff_eq]; exact hq1
        have hkk : k < k + 1 := by omega
        have hk2 : k + 1 ≤ C := by omega
        have hk3 : 1 ≤ k + 1 := by omega
        have HMS : Hid ((C - (k + 1)).toNat < (C - k).toNat) := by show _ < _; omega
        have HW1 : Hid (IntKind.i64.wrap (k + 1) = k + 1) := IntWalk.i64_in _ (by omega)
        clear hq1
        have hw := HW.out
        have hw1 := HW1.out
        go_wp2_with (at_builtin; refine wp_ints (m := 1) (l := [k - f]) numL rfl _ _ rfl rfl rfl (HP.out.below (by repeat (first | exact Below.refl _ _ | (with_reducible assumption) | refine bw_alloc ?_ _ | refine bw_drew ?_))).own1 HSZ.out (ints_new _ _ _) rfl HSM.out (fun z => by cases z) (R1.length + 1) rfl ?_; intro a3 k3 w3 o3 g3 l3; obtain ⟨hn, z1, z2⟩ := (HP.out.below (by repeat (first | exact Below.refl _ _ | (with_reducible assumption) | refine bw_alloc ?_ _ | refine bw_drew ?_))).push1 g3 o3; have HN := Lib.hid hn; clear hn o3 g3 l3)
        go_roundw
        case rel => exact ⟨k, k + 1, _, R1 ++ [k - f], hk3, hk2, hk0, hkk, by first | rfl | (rw [hw1]), rfl, HC2, HN⟩
        case measure => simp only [intOf]; exact HMS.out
      · have d1 : (q == 1) = false := by rw [beq_eq_false_iff_ne]; exact hq1
        have hfk2 : f < k + 1 := by omega
        have hk2 : k + 1 ≤ C := by omega
        have hk3 : 1 ≤ k + 1 := by omega
        have HMS : Hid ((C - (k + 1)).toNat < (C - k).toNat) := by show _ < _; omega
        have HW1 : Hid (IntKind.i64.wrap (k + 1) = k + 1) := IntWalk.i64_in _ (by omega)
        clear hq1
        have hw1 := HW1.out
        go_wp2_with fail
        go_roundw
        case rel => exact ⟨f, k + 1, _, R1, hk3, hk2, hf0, hfk2, by first | rfl | (rw [hw1]), rfl, HC, HP⟩
        case measure => simp only [intOf]; exact HMS.out
    · go_upto_region 13 with fail
      obtain rfl : C = k := by omega
      by_cases hf : 0 < f
      · obtain ⟨a5, cp5, rfl, _⟩ := HP.out.own1.slice
        have HLN := Lib.hid (HC.out.len hf0)
        have HSM : Hid (((R1.length : Int) + ((1 : Nat) : Int)) ≤ 17592186044416) := by show _ ≤ _; have := HLN.out; omega
        have HSZ : Hid (g + 1 ≤ (wr.alloc (.cells #[.int .i64 (C - f)] 2)).heap.size) := by show _ ≤ _; rw [World.size_alloc]; omega
        have HW : Hid (IntKind.i64.wrap (C - f) = C - f) := IntWalk.i64_in _ (by omega)
        have HC2 := Lib.hid (HC.out.push hfk)
        have hw := HW.out
        go_upto_region 16 with (at_builtin; refine wp_ints (m := 1) (l := [C - f]) numL rfl _ _ rfl rfl rfl (HP.out.below (by repeat (first | exact Below.refl _ _ | (with_reducible assumption) | refine bw_alloc ?_ _ | refine bw_drew ?_))).own1 HSZ.out (ints_new _ _ _) rfl HSM.out (fun z => by cases z) (R1.length + 1) rfl ?_; intro a3 k3 w3 o3 g3 l3; obtain ⟨hn, z1, z2⟩ := (HP.out.below (by repeat (first | exact Below.refl _ _ | (with_reducible assumption) | refine bw_alloc ?_ _ | refine bw_drew ?_))).push1 g3 o3; have HQ := Lib.hid hn; clear hn o3 g3 l3)
        have HCH : Hid (R1 ++ [C - f] = [] ∨ fillB (R1 ++ [C - f]) C = true) := .inr (fill_sum _ _ HC2.out.1 HC2.out.2)
        clear HP HC HC2 HLN HSM HSZ hw HW b5 c4 z1 z2
        generalize R1 ++ [C - f] = R1 at *
        generalize Value.slice a3 _ k3 = v1 at *
        obtain ⟨m, hm⟩ : ∃ m, m = min x.us.length 5 := ⟨_, rfl⟩
        have hm1 : m ≤ x.us.length := by omega
        have hm5 : m ≤ 5 := by omega
        have hor : m = x.us.length ∨ (m = 5 ∧ 5 < x.us.length) := by omega
        have hul : (x.us.length : Int) ≤ 9223372036854775807 := by have := HX.out.le; have := HX.out.small; omega
        have HOR := Lib.hid hor
        clear hm hor
        go_loopw [14] (fun u wr => ∃ (k : Nat) (v2 : Value) (R2 : List Int), k ≤ m ∧ u = .int .i64 k ∧ Hid (R2.length = k) ∧ Hid (∀ u ∈ R2, 0 ≤ u ∧ u < sets) ∧ Hid (TaskAt w x g (i + 1) C D t P v1 R1 v2 R2 wr)) (fun u _ => (m - intOf u).toNat)
        case atStart => exact ⟨0, _, [], by omega, rfl, rfl, (fun u hu => by cases hu), HQ⟩
        case round =>
          obtain ⟨k, v2, R2, hk, rfl, HR2, HU, HP⟩ := hrel
          clear HQ
          have c5 := HP.out.num.c5
          have b6 : wr.cell? ⟨g, 6, none⟩ = some v2 := by rw [blk_cell HP.out.box]; rfl
          have hgw : g < wr.heap.size := lt_of_block HP.out.box
          by_cases hlt : k < m
          · obtain ⟨u, hu⟩ := nth_of (rfl : x.us.length = x.us.length) (show k < x.us.length by omega)
            obtain ⟨g', o', ea, z0⟩ := (HX.out.row.below HP.out.num.low).at_ hu
            have hk1 : (k : Int) < (x.us.length : Int) := by omega
            have hk5 : (k : Int) < 5 := by omega
            have hk0 : (0 : Int) ≤ (k : Int) := by omega
            obtain ⟨r, hr⟩ : ∃ r, restI u sets = r := ⟨_, rfl⟩
            have R4 := Lib.hid (fun w => hr ▸ rest_any u sets (by omega) (by omega) w)
            have HRR : Hid (0 ≤ r ∧ r < sets) := by
              show _ ∧ _
              rw [← hr]; exact ⟨Int.emod_nonneg _ (by omega), Int.emod_lt_of_pos _ (by omega)⟩
            rw [ea] at c5
            obtain ⟨a6, cp6, rfl, _⟩ := HP.out.own2.slice
            rw [HR2.out] at b6
            have HPK : Hid (TaskAt w x g (i + 1) C D t P v1 R1 (.slice a6 k cp6) R2 wr) := by
              have := HP.out; rw [HR2.out] at this; exact this
            have HSM : Hid (((R2.length : Int) + ((1 : Nat) : Int)) ≤ 17592186044416) := by show _ ≤ _; have := HR2.out; omega
            have HSZ : Hid (g + 1 ≤ wr.heap.size) := hgw
            have HNN : Hid (R2.length + 1 = k + 1) := by show _ = _; rw [HR2.out]
            have HU2 : Hid (∀ u ∈ R2 ++ [r], 0 ≤ u ∧ u < sets) := fun u hu => by
              rcases List.mem_append.1 hu with q | q
              · exact HU.out u q
              · simp at q; rw [q]; exact HRR.out
            have HL2 : Hid ((R2 ++ [r]).length = k + 1) := by show _ = _; rw [List.length_append, HR2.out]; rfl
            clear hr hu HP HU ea
            go_upto_region 18 with fail
            go_region_law (first
              | (refine step_ints (m := 1) (l := [r]) numI rfl (.tmp 87) (.tmp 95) rfl (by rfl) (by rfl) (HPK.out.below (by repeat (first | exact Below.refl _ _ | (with_reducible assumption) | refine bw_alloc ?_ _ | refine bw_drew ?_))).own2 (Nat.le_trans HSZ.out ((by repeat (first | exact Below.refl _ _ | (with_reducible assumption) | refine bw_alloc ?_ _ | refine bw_drew ?_)) : Below wr.heap.size wr _).size) (by first | exact ints_new _ _ _ | exact (ints_new _ _ _).below (by repeat (first | exact Below.refl _ _ | (with_reducible assumption) | refine bw_alloc ?_ _ | refine bw_drew ?_))) rfl HSM.out (fun z => by cases z) (k + 1) HNN.out ?_
                 intro a3 k3 w3 o3 g3 l3
                 obtain ⟨hn, z1, z2⟩ := (HPK.out.below (by repeat (first | exact Below.refl _ _ | (with_reducible assumption) | refine bw_alloc ?_ _ | refine bw_drew ?_))).push2 g3 o3
                 have HN := Lib.hid hn
                 clear hn o3 g3 l3)
              | (go_simp; (with_reducible refine (R4.out _).mono ?_); rintro e w3 ⟨rfl, rfl⟩))
            all_goals
              go_wp2
              go_roundw
              case rel => exact ⟨k + 1, _, R2 ++ [r], by omega, by go_num, HL2, HU2, HN⟩
              case measure => simp [intOf]; omega
          · obtain rfl : m = k := by omega
            obtain ⟨a5, cp5, rfl, i5, l5, m5⟩ := HP.out.own1.slice
            obtain ⟨a6, cp6, rfl, i6, l6, m6⟩ := HP.out.own2.slice
            have HFIN : Hid (∀ x0 x1 x2 x3 x4 x5 x6, TaskBack i sets w (.returned (.agg #[.int .i64 (i + 1), .int .i64 C, .int .i64 D, .int .i64 t, .int .i64 P, .slice a5 R1.length cp5, .slice a6 R2.length cp6])) ((((((((wr.setCell ⟨w.heap.size + 1, 0, none⟩ x0).setCell ⟨w.heap.size + 1, 1, none⟩ x1).setCell ⟨w.heap.size + 1, 2, none⟩ x2).setCell ⟨w.heap.size + 1, 3, none⟩ x3).setCell ⟨w.heap.size + 1, 4, none⟩ x4).setCell ⟨w.heap.size + 1, 5, none⟩ x5).setCell ⟨w.heap.size + 1, 6, none⟩ x6))) := by
              intro x0 x1 x2 x3 x4 x5 x6
              have hlow := HP.out.num.low
              have hb : Below w.heap.size w ((((((((wr.setCell ⟨w.heap.size + 1, 0, none⟩ x0).setCell ⟨w.heap.size + 1, 1, none⟩ x1).setCell ⟨w.heap.size + 1, 2, none⟩ x2).setCell ⟨w.heap.size + 1, 3, none⟩ x3).setCell ⟨w.heap.size + 1, 4, none⟩ x4).setCell ⟨w.heap.size + 1, 5, none⟩ x5).setCell ⟨w.heap.size + 1, 6, none⟩ x6)) := below_set7 hlow (Nat.le_succ _) x0 x1 x2 x3 x4 x5 x6
              have hg9 := HP.out.gl
              have o1 : OwnI ((((((((wr.setCell ⟨w.heap.size + 1, 0, none⟩ x0).setCell ⟨w.heap.size + 1, 1, none⟩ x1).setCell ⟨w.heap.size + 1, 2, none⟩ x2).setCell ⟨w.heap.size + 1, 3, none⟩ x3).setCell ⟨w.heap.size + 1, 4, none⟩ x4).setCell ⟨w.heap.size + 1, 5, none⟩ x5).setCell ⟨w.heap.size + 1, 6, none⟩ x6)) 2 (g + 1) (.slice a5 R1.length cp5) R1 := own_set7 HP.out.own1 (Nat.lt_succ_of_lt hg9) x0 x1 x2 x3 x4 x5 x6
              have o2 : OwnI ((((((((wr.setCell ⟨w.heap.size + 1, 0, none⟩ x0).setCell ⟨w.heap.size + 1, 1, none⟩ x1).setCell ⟨w.heap.size + 1, 2, none⟩ x2).setCell ⟨w.heap.size + 1, 3, none⟩ x3).setCell ⟨w.heap.size + 1, 4, none⟩ x4).setCell ⟨w.heap.size + 1, 5, none⟩ x5).setCell ⟨w.heap.size + 1, 6, none⟩ x6)) 3 (g + 1) (.slice a6 R2.length cp6) R2 := own_set7 HP.out.own2 (Nat.lt_succ_of_lt hg9) x0 x1 x2 x3 x4 x5 x6
              obtain ⟨a5', cp5', e5, i5, l5, m5⟩ := o1.slice
              cases e5
              obtain ⟨a6', cp6', e6, i6, l6, m6⟩ := o2.slice
              cases e6
              exact ⟨⟨i + 1, C, D, t, P, a5, R1, cp5, a6, R2, cp6⟩, rfl, ⟨i5, i6, l5, m5, l6, m6⟩, ⟨rfl, hcc, hcd, hdt, ht2, hp10, hp99, HP9.out, HCH.out, HU.out, by have := HR2.out; show R2.length ≤ 5; omega⟩, hb, o1.isI (.inl rfl), o2.isI (.inr rfl)⟩
            have hr1 : w.heap.size + 1 < wr.heap.size := lt_of_block HP.out.num.res
            have b0 : wr.cell? ⟨g, 0, none⟩ = some (.int .i64 (i + 1)) := by rw [blk_cell HP.out.box]; rfl
            have b1 : wr.cell? ⟨g, 1, none⟩ = some (.int .i64 C) := by rw [blk_cell HP.out.box]; rfl
            have b2 : wr.cell? ⟨g, 2, none⟩ = some (.int .i64 D) := by rw [blk_cell HP.out.box]; rfl
            have b3 : wr.cell? ⟨g, 3, none⟩ = some (.int .i64 t) := by rw [blk_cell HP.out.box]; rfl
            have b4 : wr.cell? ⟨g, 4, none⟩ = some (.int .i64 P) := by rw [blk_cell HP.out.box]; rfl
            have b5 : wr.cell? ⟨g, 5, none⟩ = some (.slice a5 R1.length cp5) := by rw [blk_cell HP.out.box]; rfl
            have r0 : wr.cell? ⟨w.heap.size + 1, 0, none⟩ = some (.int .i64 0) := by rw [blk_cell HP.out.num.res]; rfl
            have r1 : wr.cell? ⟨w.heap.size + 1, 1, none⟩ = some (.int .i64 0) := by rw [blk_cell HP.out.num.res]; rfl
            have r2 : wr.cell? ⟨w.heap.size + 1, 2, none⟩ = some (.int .i64 0) := by rw [blk_cell HP.out.num.res]; rfl
            have r3 : wr.cell? ⟨w.heap.size + 1, 3, none⟩ = some (.int .i64 0) := by rw [blk_cell HP.out.num.res]; rfl
            have r4 : wr.cell? ⟨w.heap.size + 1, 4, none⟩ = some (.int .i64 0) := by rw [blk_cell HP.out.num.res]; rfl
            have r5 : wr.cell? ⟨w.heap.size + 1, 5, none⟩ = some (.slice none 0 0) := by rw [blk_cell HP.out.num.res]; rfl
            have r6 : wr.cell? ⟨w.heap.size + 1, 6, none⟩ = some (.slice none 0 0) := by rw [blk_cell HP.out.num.res]; rfl
            have f0 := blk_free HP.out.num.res 0
            have f1 := blk_free HP.out.num.res 1
            have f2 := blk_free HP.out.num.res 2
            have f3 := blk_free HP.out.num.res 3
            have f4 := blk_free HP.out.num.res 4
            have f5 := blk_free HP.out.num.res 5
            have f6 := blk_free HP.out.num.res 6
            have q1 : ¬ ((m : Int) < (x.us.length : Int)) ∨ ((m : Int) < (x.us.length : Int) ∧ ¬ ((m : Int) < 5)) := by
              rcases HOR.out with h | ⟨h1, h2⟩
              · left; omega
              · right; omega
            clear HCH HU
            rcases q1 with q1 | ⟨q1, q2⟩
            all_goals
              go_wp2_with fail
              exact bodyPost_ret (v := .agg #[.int .i64 (i + 1), .int .i64 C, .int .i64 D, .int .i64 t, .int .i64 P, .slice a5 R1.length cp5, .slice a6 R2.length cp6]) (by simp [results, Tryz.results44, go_sem, r0, r1, r2, r3, r4, r5, r6]) rfl (HFIN.out _ _ _ _ _ _ _)
      · obtain rfl : f = 0 := by omega
        have HCH : Hid (R1 = [] ∨ fillB R1 C = true) := .inl (List.length_eq_zero_iff.1 (by have := HC.out.len (Int.le_refl 0); omega))
        have HQ := HP
        go_upto_region 16 with fail
        clear HP HC b5 c4
        obtain ⟨m, hm⟩ : ∃ m, m = min x.us.length 5 := ⟨_, rfl⟩
        have hm1 : m ≤ x.us.length := by omega
        have hm5 : m ≤ 5 := by omega
        have hor : m = x.us.length ∨ (m = 5 ∧ 5 < x.us.length) := by omega
        have hul : (x.us.length : Int) ≤ 9223372036854775807 := by have := HX.out.le; have := HX.out.small; omega
        have HOR := Lib.hid hor
        clear hm hor
        go_loopw [14] (fun u wr => ∃ (k : Nat) (v2 : Value) (R2 : List Int), k ≤ m ∧ u = .int .i64 k ∧ Hid (R2.length = k) ∧ Hid (∀ u ∈ R2, 0 ≤ u ∧ u < sets) ∧ Hid (TaskAt w x g (i + 1) C D t P v1 R1 v2 R2 wr)) (fun u _ => (m - intOf u).toNat)
        case atStart => exact ⟨0, _, [], by omega, rfl, rfl, (fun u hu => by cases hu), HQ⟩
        case round =>
          obtain ⟨k, v2, R2, hk, rfl, HR2, HU, HP⟩ := hrel
          clear HQ
          have c5 := HP.out.num.c5
          have b6 : wr.cell? ⟨g, 6, none⟩ = some v2 := by rw [blk_cell HP.out.box]; rfl
          have hgw : g < wr.heap.size := lt_of_block HP.out.box
          by_cases hlt : k < m
          · obtain ⟨u, hu⟩ := nth_of (rfl : x.us.length = x.us.length) (show k < x.us.length by omega)
            obtain ⟨g', o', ea, z0⟩ := (HX.out.row.below HP.out.num.low).at_ hu
            have hk1 : (k : Int) < (x.us.length : Int) := by omega
            have hk5 : (k : Int) < 5 := by omega
            have hk0 : (0 : Int) ≤ (k : Int) := by omega
            obtain ⟨r, hr⟩ : ∃ r, restI u sets = r := ⟨_, rfl⟩
            have R4 := Lib.hid (fun w => hr ▸ rest_any u sets (by omega) (by omega) w)
            have HRR : Hid (0 ≤ r ∧ r < sets) := by
              show _ ∧ _
              rw [← hr]; exact ⟨Int.emod_nonneg _ (by omega), Int.emod_lt_of_pos _ (by omega)⟩
            rw [ea] at c5
            obtain ⟨a6, cp6, rfl, _⟩ := HP.out.own2.slice
            rw [HR2.out] at b6
            have HPK : Hid (TaskAt w x g (i + 1) C D t P v1 R1 (.slice a6 k cp6) R2 wr) := by
              have := HP.out; rw [HR2.out] at this; exact this
            have HSM : Hid (((R2.length : Int) + ((1 : Nat) : Int)) ≤ 17592186044416) := by show _ ≤ _; have := HR2.out; omega
            have HSZ : Hid (g + 1 ≤ wr.heap.size) := hgw
            have HNN : Hid (R2.length + 1 = k + 1) := by show _ = _; rw [HR2.out]
            have HU2 : Hid (∀ u ∈ R2 ++ [r], 0 ≤ u ∧ u < sets) := fun u hu => by
              rcases List.mem_append.1 hu with q | q
              · exact HU.out u q
              · simp at q; rw [q]; exact HRR.out
            have HL2 : Hid ((R2 ++ [r]).length = k + 1) := by show _ = _; rw [List.length_append, HR2.out]; rfl
            clear hr hu HP HU ea
            go_upto_region 18 with fail
            go_region_law (first
              | (refine step_ints (m := 1) (l := [r]) numI rfl (.tmp 87) (.tmp 95) rfl (by rfl) (by rfl) (HPK.out.below (by repeat (first | exact Below.refl _ _ | (with_reducible assumption) | refine bw_alloc ?_ _ | refine bw_drew ?_))).own2 (Nat.le_trans HSZ.out ((by repeat (first | exact Below.refl _ _ | (with_reducible assumption) | refine bw_alloc ?_ _ | refine bw_drew ?_)) : Below wr.heap.size wr _).size) (by first | exact ints_new _ _ _ | exact (ints_new _ _ _).below (by repeat (first | exact Below.refl _ _ | (with_reducible assumption) | refine bw_alloc ?_ _ | refine bw_drew ?_))) rfl HSM.out (fun z => by cases z) (k + 1) HNN.out ?_
                 intro a3 k3 w3 o3 g3 l3
                 obtain ⟨hn, z1, z2⟩ := (HPK.out.below (by repeat (first | exact Below.refl _ _ | (with_reducible assumption) | refine bw_alloc ?_ _ | refine bw_drew ?_))).push2 g3 o3
                 have HN := Lib.hid hn
                 clear hn o3 g3 l3)
              | (go_simp; (with_reducible refine (R4.out _).mono ?_); rintro e w3 ⟨rfl, rfl⟩))
            all_goals
              go_wp2
              go_roundw
              case rel => exact ⟨k + 1, _, R2 ++ [r], by omega, by go_num, HL2, HU2, HN⟩
              case measure => simp [intOf]; omega
          · obtain rfl : m = k := by omega
            obtain ⟨a5, cp5, rfl, i5, l5, m5⟩ := HP.out.own1.slice
            obtain ⟨a6, cp6, rfl, i6, l6, m6⟩ := HP.out.own2.slice
            have HFIN : Hid (∀ x0 x1 x2 x3 x4 x5 x6, TaskBack i sets w (.returned (.agg #[.int .i64 (i + 1), .int .i64 C, .int .i64 D, .int .i64 t, .int .i64 P, .slice a5 R1.length cp5, .slice a6 R2.length cp6])) ((((((((wr.setCell ⟨w.heap.size + 1, 0, none⟩ x0).setCell ⟨w.heap.size + 1, 1, none⟩ x1).setCell ⟨w.heap.size + 1, 2, none⟩ x2).setCell ⟨w.heap.size + 1, 3, none⟩ x3).setCell ⟨w.heap.size + 1, 4, none⟩ x4).setCell ⟨w.heap.size + 1, 5, none⟩ x5).setCell ⟨w.heap.size + 1, 6, none⟩ x6))) := by
              intro x0 x1 x2 x3 x4 x5 x6
              have hlow := HP.out.num.low
              have hb : Below w.heap.size w ((((((((wr.setCell ⟨w.heap.size + 1, 0, none⟩ x0).setCell ⟨w.heap.size + 1, 1, none⟩ x1).setCell ⟨w.heap.size + 1, 2, none⟩ x2).setCell ⟨w.heap.size + 1, 3, none⟩ x3).setCell ⟨w.heap.size + 1, 4, none⟩ x4).setCell ⟨w.heap.size + 1, 5, none⟩ x5).setCell ⟨w.heap.size + 1, 6, none⟩ x6)) := below_set7 hlow (Nat.le_succ _) x0 x1 x2 x3 x4 x5 x6
              have hg9 := HP.out.gl
              have o1 : OwnI ((((((((wr.setCell ⟨w.heap.size + 1, 0, none⟩ x0).setCell ⟨w.heap.size + 1, 1, none⟩ x1).setCell ⟨w.heap.size + 1, 2, none⟩ x2).setCell ⟨w.heap.size + 1, 3, none⟩ x3).setCell ⟨w.heap.size + 1, 4, none⟩ x4).setCell ⟨w.heap.size + 1, 5, none⟩ x5).setCell ⟨w.heap.size + 1, 6, none⟩ x6)) 2 (g + 1) (.slice a5 R1.length cp5) R1 := own_set7 HP.out.own1 (Nat.lt_succ_of_lt hg9) x0 x1 x2 x3 x4 x5 x6
              have o2 : OwnI ((((((((wr.setCell ⟨w.heap.size + 1, 0, none⟩ x0).setCell ⟨w.heap.size + 1, 1, none⟩ x1).setCell ⟨w.heap.size + 1, 2, none⟩ x2).setCell ⟨w.heap.size + 1, 3, none⟩ x3).setCell ⟨w.heap.size + 1, 4, none⟩ x4).setCell ⟨w.heap.size + 1, 5, none⟩ x5).setCell ⟨w.heap.size + 1, 6, none⟩ x6)) 3 (g + 1) (.slice a6 R2.length cp6) R2 := own_set7 HP.out.own2 (Nat.lt_succ_of_lt hg9) x0 x1 x2 x3 x4 x5 x6
              obtain ⟨a5', cp5', e5, i5, l5, m5⟩ := o1.slice
              cases e5
              obtain ⟨a6', cp6', e6, i6, l6, m6⟩ := o2.slice
              cases e6
              exact ⟨⟨i + 1, C, D, t, P, a5, R1, cp5, a6, R2, cp6⟩, rfl, ⟨i5, i6, l5, m5, l6, m6⟩, ⟨rfl, hcc, hcd, hdt, ht2, hp10, hp99, HP9.out, HCH.out, HU.out, by have := HR2.out; show R2.length ≤ 5; omega⟩, hb, o1.isI (.inl rfl), o2.isI (.inr rfl)⟩
            have hr1 : w.heap.size + 1 < wr.heap.size := lt_of_block HP.out.num.res
            have b0 : wr.cell? ⟨g, 0, none⟩ = some (.int .i64 (i + 1)) := by rw [blk_cell HP.out.box]; rfl
            have b1 : wr.cell? ⟨g, 1, none⟩ = some (.int .i64 C) := by rw [blk_cell HP.out.box]; rfl
            have b2 : wr.cell? ⟨g, 2, none⟩ = some (.int .i64 D) := by rw [blk_cell HP.out.box]; rfl
            have b3 : wr.cell? ⟨g, 3, none⟩ = some (.int .i64 t) := by rw [blk_cell HP.out.box]; rfl
            have b4 : wr.cell? ⟨g, 4, none⟩ = some (.int .i64 P) := by rw [blk_cell HP.out.box]; rfl
            have b5 : wr.cell? ⟨g, 5, none⟩ = some (.slice a5 R1.length cp5) := by rw [blk_cell HP.out.box]; rfl
            have r0 : wr.cell? ⟨w.heap.size + 1, 0, none⟩ = some (.int .i64 0) := by rw [blk_cell HP.out.num.res]; rfl
            have r1 : wr.cell? ⟨w.heap.size + 1, 1, none⟩ = some (.int .i64 0) := by rw [blk_cell HP.out.num.res]; rfl
            have r2 : wr.cell? ⟨w.heap.size + 1, 2, none⟩ = some (.int .i64 0) := by rw [blk_cell HP.out.num.res]; rfl
            have r3 : wr.cell? ⟨w.heap.size + 1, 3, none⟩ = some (.int .i64 0) := by rw [blk_cell HP.out.num.res]; rfl
            have r4 : wr.cell? ⟨w.heap.size + 1, 4, none⟩ = some (.int .i64 0) := by rw [blk_cell HP.out.num.res]; rfl
            have r5 : wr.cell? ⟨w.heap.size + 1, 5, none⟩ = some (.slice none 0 0) := by rw [blk_cell HP.out.num.res]; rfl
            have r6 : wr.cell? ⟨w.heap.size + 1, 6, none⟩ = some (.slice none 0 0) := by rw [blk_cell HP.out.num.res]; rfl
            have f0 := blk_free HP.out.num.res 0
            have f1 := blk_free HP.out.num.res 1
            have f2 := blk_free HP.out.num.res 2
            have f3 := blk_free HP.out.num.res 3
            have f4 := blk_free HP.out.num.res 4
            have f5 := blk_free HP.out.num.res 5
            have f6 := blk_free HP.out.num.res 6
            have q1 : ¬ ((m : Int) < (x.us.length : Int)) ∨ ((m : Int) < (x.us.length : Int) ∧ ¬ ((m : Int) < 5)) := by
              rcases HOR.out with h | ⟨h1, h2⟩
              · left; omega
              · right; omega
            clear HCH HU
            rcases q1 with q1 | ⟨q1, q2⟩
            all_goals
              go_wp2_with fail
              exact bodyPost_ret (v := .agg #[.int .i64 (i + 1), .int .i64 C, .int .i64 D, .int .i64 t, .int .i64 P, .slice a5 R1.length cp5, .slice a6 R2.length cp6]) (by simp [results, Tryz.results44, go_sem, r0, r1, r2, r3, r4, r5, r6]) rfl (HFIN.out _ _ _ _ _ _ _)
end Go.Proofs.YtlpffgmfgkleiaaGreatDoor

/-
  The walks over what is cut of tasks and systems that came in.
-/
namespace Go.Proofs.YtlpffgmfgkleiaaGreatDoor
open Go.RowKit Go.Maps

/-- A task with at most 66 chunks and 66 used sets. -/
def cut (x : TV) : TV := { x with ch := x.ch.take 66, us := x.us.take 66 }
theorem cut_ok {w : World} {x : TV} (h : x.ok w) : (cut x).ok w :=
  ⟨h.one.take 66, h.two.take 66, by have := h.l1; simp only [cut, List.length_take]; omega, h.m1, by have := h.l2; simp only [cut, List.length_take]; omega, h.m2⟩

end Go.Proofs.YtlpffgmfgkleiaaGreatDoor

/-
  The walk over a system that came in, cut to 66 tasks.
-/
namespace Go.Proofs.YtlpffgmfgkleiaaGreatDoor
open Go.RowKit Go.Maps

/-- A system in a box, one that comes back, and a row of one's own. -/
structure FewAt (w : World) (s r : Int) (a : Option Addr) (n cap : Nat) (v : Value) (R : List TV) (W : World) : Prop where
  low : Below w.heap.size w W
  box : W.heap[w.heap.size]? = some (.cells #[.int .i64 s, .int .i64 r, .slice a n cap] 29 (0, 0))
  res : W.heap[w.heap.size + 1]? = some (.cells #[.int .i64 0, .int .i64 0, .slice none 0 0] 29 (0, 0))
  own : OwnT W (w.heap.size + 2) v R
theorem FewAt.below {w W W' : World} {s r : Int} {a : Option Addr} {n cap : Nat} {v : Value} {R : List TV} (h : FewAt w s r a n cap v R W) (hb : Below W.heap.size W W') : FewAt w s r a n cap v R W' :=
  ⟨below_up h.low hb, kept_obj hb h.box, kept_obj hb h.res, h.own.below hb⟩
theorem FewAt.size {w W : World} {s r : Int} {a : Option Addr} {n cap : Nat} {v : Value} {R : List TV} (h : FewAt w s r a n cap v R W) : w.heap.size + 2 ≤ W.heap.size := lt_of_block h.res
theorem FewAt.grown {w W W' : World} {s r : Int} {a : Option Addr} {n cap : Nat} {v v' : Value} {R R' : List TV} (h : FewAt w s r a n cap v R W) (hg : W.grownBy W' v.ownBlock) (ho : OwnT W' (w.heap.size + 2) v' R') : FewAt w s r a n cap v' R' W' := by
  have hb : Below (w.heap.size + 2) W W' := (Below.refl _ W).grown hg h.size (fun k hk => (h.own.new hk).1)
  exact ⟨h.low.trans (hb.mono (by omega)), kept_objB hb (by omega) h.box, kept_objB hb (by omega) h.res, ho⟩
theorem fewAt_new {w : World} {s r : Int} {a : Option Addr} {n cap : Nat} : FewAt w s r a n cap (.slice none 0 0) [] ((w.alloc (.cells #[.int .i64 s, .int .i64 r, .slice a n cap] 29)).alloc (.cells #[.int .i64 0, .int .i64 0, .slice none 0 0] 29)) := by
  refine ⟨(by repeat (first | exact Below.refl _ _ | (with_reducible assumption) | refine bw_alloc ?_ _ | refine bw_drew ?_)), ?_, ?_, OwnT.nil _ _⟩
  · rw [Below.heap_alloc _ _ _ (by simp)]
    exact heap_alloc_new w _
  · have := heap_alloc_new (w.alloc (.cells #[.int .i64 s, .int .i64 r, .slice a n cap] 29)) (.cells #[.int .i64 0, .int .i64 0, .slice none 0 0] 29)
    rwa [World.size_alloc] at this
theorem zeroSys (w : World) : (zeroValue 29).run Tryz.prog w = .ok (.agg #[.int .i64 0, .int .i64 0, .slice none 0 0]) w := by kernel_rfl

/-- A system that comes back. -/
def SysBack (s r : Int) (m : Nat) (L : List TV) (w : World) (e : Ending) (w' : World) : Prop :=
  ∃ a c, e = .returned (.agg #[.int .i64 s, .int .i64 r, .slice a m c]) ∧ Tasks w' a m c L ∧ Below w.heap.size w w'

end Go.Proofs.YtlpffgmfgkleiaaGreatDoor

/-
  Rows of plain numbers of tasks.
-/
namespace Go.Proofs.YtlpffgmfgkleiaaGreatDoor
open Go.RowKit Go.Maps

/-- The cells of a row of tasks. -/
def nflat : List NV → List Value
  | [] => []
  | x :: l => x.cells ++ nflat l
theorem ncells_len (x : NV) : x.cells.length = 6 := rfl
theorem nflat_len : ∀ l : List NV, (nflat l).length = l.length * 6
  | [] => rfl
  | x :: l => by simp [nflat, nflat_len l, ncells_len]; omega
theorem nflat_append : ∀ l m : List NV, nflat (l ++ m) = nflat l ++ nflat m
  | [], _ => rfl
  | x :: l, m => by simp [nflat, nflat_append l m]
theorem nflat_at : ∀ (l : List NV) (k : Nat) (x : NV), l[k]? = some x → ∀ i, i < 6 → (nflat l)[k * 6 + i]? = x.cells[i]?
  | [], k, x, h => by simp at h
  | y :: l, 0, x, h => by
    simp at h; subst h
    intro i hi
    rw [Nat.zero_mul, Nat.zero_add, nflat, List.getElem?_append_left (by rw [ncells_len]; exact hi)]
  | y :: l, k + 1, x, h => by
    intro i hi
    have := nflat_at l k x (by simpa using h) i hi
    rw [show (k + 1) * 6 + i = 6 + (k * 6 + i) by omega, nflat, List.getElem?_append_right (by rw [ncells_len]; omega), ncells_len, ← this]
    congr 1; omega
theorem nflat_one : ∀ (l : List NV), ∀ u ∈ nflat l, u.oneCell' = true
  | [], u, h => by simp [nflat] at h
  | x :: l, u, h => by
    rcases List.mem_append.1 h with h | h
    · simp [NV.cells] at h
      rcases h with rfl | rfl | rfl | rfl | rfl | rfl <;> rfl
    · exact nflat_one l u h
theorem nflat_drop : ∀ (k : Nat) (l : List NV), nflat (l.drop k) = (nflat l).drop (k * 6)
  | 0, l => by simp
  | k + 1, [] => by simp [nflat]
  | k + 1, x :: l => by
    rw [List.drop_succ_cons, nflat_drop k l, nflat, List.drop_append, show (k + 1) * 6 = 6 + k * 6 by omega]
    simp [ncells_len]
theorem nflat_take : ∀ (k : Nat) (l : List NV), nflat (l.take k) = (nflat l).take (k * 6)
  | 0, l => by simp [nflat]
  | k + 1, [] => by simp [nflat]
  | k + 1, x :: l => by
    rw [List.take_succ_cons, nflat, nflat, nflat_take k l, List.take_append, show (k + 1) * 6 = 6 + k * 6 by omega]
    simp [ncells_len]
    rw [List.take_of_length_le (by rw [ncells_len]; omega)]

/-- A row of tasks that can be read. -/
def NView (w : World) (a : Option Addr) (l : List NV) : Prop :=
  l = [] ∨ ∃ g o, a = some ⟨g, o, none⟩ ∧ ∀ j u, (nflat l)[j]? = some u → w.cell? ⟨g, o + j, none⟩ = some u
theorem NView.nil {w : World} {a : Option Addr} : NView w a [] := .inl rfl
theorem NView.at_ {w : World} {a : Option Addr} {l : List NV} (h : NView w a l) {k : Nat} {x : NV} (hx : l[k]? = some x) : ∃ g o, a = some ⟨g, o, none⟩ ∧ NAt w g (o + k * 6) x := by
  rcases h with rfl | ⟨g, o, rfl, hc⟩
  · simp at hx
  · have f := nflat_at l k x hx
    refine ⟨g, o, rfl, ⟨?_, ?_, ?_, ?_, ?_, ?_⟩⟩
    · exact hc _ _ (f 0 (by omega))
    · exact hc _ _ (f 1 (by omega))
    · exact hc _ _ (f 2 (by omega))
    · exact hc _ _ (f 3 (by omega))
    · exact hc _ _ (f 4 (by omega))
    · exact hc _ _ (f 5 (by omega))
theorem NView.below {w w' : World} {a : Option Addr} {l : List NV} (h : NView w a l) (hb : Below w.heap.size w w') : NView w' a l := by
  rcases h with rfl | ⟨g, o, rfl, hc⟩
  · exact .inl rfl
  · exact .inr ⟨g, o, rfl, fun j u hj => kept_cell hb (hc j u hj)⟩
theorem NView.drop {w : World} {g o : Nat} {l : List NV} (h : NView w (some ⟨g, o, none⟩) l) (k : Nat) : NView w (some ⟨g, o + k * 6, none⟩) (l.drop k) := by
  rcases h with rfl | ⟨g', o', e, hc⟩
  · left; simp
  · cases e
    refine .inr ⟨_, _, rfl, fun j u hj => ?_⟩
    rw [nflat_drop, List.getElem?_drop] at hj
    rw [Nat.add_assoc]
    exact hc _ u hj
theorem NView.take {w : World} {a : Option Addr} {l : List NV} (h : NView w a l) (k : Nat) : NView w a (l.take k) := by
  rcases h with rfl | ⟨g, o, rfl, hc⟩
  · left; simp
  · refine .inr ⟨g, o, rfl, fun j u hj => ?_⟩
    rw [nflat_take, List.getElem?_take] at hj
    split at hj
    · exact hc j u hj
    · cases hj
theorem NView.of_at {w : World} {g o : Nat} {x : NV} (h : NAt w g o x) : NView w (some ⟨g, o, none⟩) [x] := by
  refine .inr ⟨g, o, rfl, fun j u hj => ?_⟩
  simp only [nflat, List.append_nil, NV.cells] at hj
  match j, hj with
  | 0, hj => simp at hj; subst hj; exact h.c0
  | 1, hj => simp at hj; subst hj; exact h.c1
  | 2, hj => simp at hj; subst hj; exact h.c2
  | 3, hj => simp at hj; subst hj; exact h.c3
  | 4, hj => simp at hj; subst hj; exact h.c4
  | 5, hj => simp at hj; subst hj; exact h.c5
  | j + 6, hj => simp at hj
abbrev NT : TypeId := 57
def OwnN (w : World) (B : Nat) (v : Value) (l : List NV) : Prop := w.ownsRow B NT 6 v l.length (nflat l)
theorem OwnN.nil (w : World) (B : Nat) : OwnN w B (.slice none 0 0) [] := World.ownsRow_nil _ _ _ _
theorem OwnN.made (w : World) : OwnN (w.alloc (.cells #[] NT)) w.heap.size (.slice (some ⟨w.heap.size, 0, none⟩) 0 0) [] :=
  World.ownsRow_made (w := w) #[] 0 (Nat.le_refl _) (by decide) rfl
theorem OwnN.low {w : World} {B B' : Nat} {v : Value} {l : List NV} (h : OwnN w B v l) (hB : B' ≤ B) : OwnN w B' v l := by
  rcases h with ⟨h0, h | ⟨g, cap, cur, rfl, hb, r⟩⟩
  · exact ⟨h0, .inl h⟩
  · exact ⟨h0, .inr ⟨g, cap, cur, rfl, by omega, r⟩⟩
theorem OwnN.slice {w : World} {B : Nat} {v : Value} {l : List NV} (h : OwnN w B v l) : ∃ a cap, v = .slice a l.length cap ∧ NView w a l ∧ l.length ≤ cap ∧ (cap : Int) ≤ 9223372036854775807 := by
  rcases h.2 with ⟨rfl, h0⟩ | ⟨g, cap, cur, rfl, _, h3, h1, h2, h4, h5⟩
  · exact ⟨none, 0, by rw [h0], .inl (List.length_eq_zero_iff.1 h0), by omega, by omega⟩
  · refine ⟨_, cap, rfl, .inr ⟨g, 0, rfl, fun j u hj => ?_⟩, h1, by unfold maxLen at h2; omega⟩
    rw [Nat.zero_add, blk_cell h3]
    rw [← h5] at hj
    rw [List.getElem?_take] at hj
    split at hj
    · simpa using hj
    · cases hj
theorem OwnN.new {w : World} {B : Nat} {v : Value} {l : List NV} (h : OwnN w B v l) {k : Nat} (hk : v.ownBlock = some k) : B ≤ k ∧ k < w.heap.size := World.ownsRow.lt h k hk
theorem OwnN.below {w w' : World} {B : Nat} {v : Value} {l : List NV} (h : OwnN w B v l) (hb : Below w.heap.size w w') : OwnN w' B v l := by
  rcases h with ⟨h0, h | ⟨g, cap, cur, rfl, hB, h3, r⟩⟩
  · exact ⟨h0, .inl h⟩
  · exact ⟨h0, .inr ⟨g, cap, cur, rfl, hB, kept_obj hb h3, r⟩⟩
theorem OwnN.none_len {w : World} {B n c : Nat} {l : List NV} (h : OwnN w B (.slice none n c) l) : n = 0 := by
  rcases h.2 with ⟨h1, h0⟩ | ⟨g, cap, cur, h1, _⟩
  · cases h1; rfl
  · cases h1

theorem infoNum : (Tryz.prog.info? NT).map (fun i => (i.zero, i.size, i.bytes)) = some (some (.agg #[.int .i64 0, .int .i64 0, .int .i64 0, .int .i64 0, .int .i64 0, .slice none 0 0]), 6, 64) := by kernel_rfl
theorem zeroNum (w : World) : (zeroValue NT).run Tryz.prog w = .ok (.agg #[.int .i64 0, .int .i64 0, .int .i64 0, .int .i64 0, .int .i64 0, .slice none 0 0]) w := by kernel_rfl
theorem ninfoParts : ∃ i, Tryz.prog.info? NT = some i ∧ i.zero = some (.agg #[.int .i64 0, .int .i64 0, .int .i64 0, .int .i64 0, .int .i64 0, .slice none 0 0]) ∧ i.size = 6 ∧ i.bytes = 64 := by
  obtain ⟨i, h1, h2⟩ := Option.map_eq_some_iff.1 infoNum
  simp only [Prod.mk.injEq] at h2
  exact ⟨i, h1, h2.1, h2.2.1, h2.2.2⟩

/-- A row that was appended to: what it holds, where it lies. -/
theorem append_nview {w : World} {B m c : Nat} {v : Value} {q l : List NV} {ad : Option Addr} (h : OwnN w B v q) (hB : B ≤ w.heap.size) (hv : NView w ad l) (hl : l.length = m) (hs : q.length + m ≤ 2000000) (hn : ad = none → m = 0) (ty : TypeId) :
    ∃ v' w', (Builtin.append_ #[53, 53] ty #[v, .slice ad m c]).run Tryz.prog w = .ok v' w' ∧ OwnN w' B v' (q ++ l) ∧ w.grownBy w' v.ownBlock ∧ ∀ k, v'.ownBlock = some k → v.ownBlock = some k ∨ w.heap.size ≤ k := by
  obtain ⟨i0, hi, hz0, hz1, hz2⟩ := ninfoParts
  cases ad with
  | none =>
    obtain rfl := hn rfl
    obtain rfl : l = [] := List.length_eq_zero_iff.1 hl
    refine ⟨v, w, ?_, by rw [List.append_nil]; exact h, ⟨rfl, rfl, rfl, Nat.le_refl _, fun _ _ _ => rfl⟩, fun k hk => .inl hk⟩
    rcases h.2 with ⟨rfl, h0⟩ | ⟨g, cap, cur, rfl, _, h3, h1, h2, h4, h5⟩
    · have hs := Src.ofNil (w := w) (size := i0.size) Tryz.underlying53 c
      simp [Builtin.append_, run_underlying Tryz.underlying53, sizeOf, typeInfo, hi, hs.len, hs.cells]
    · have := run_append_room_src (P := Tryz.prog) (w := w) 53 53 ty NT i0 Tryz.underlying53 hi g 0 q.length cap (.slice none 0 c) 0 [] (Src.ofNil w Tryz.underlying53 c) (by omega) (fun j hj => absurd hj (Nat.not_lt_zero _)) (fun j hj => absurd hj (Nat.not_lt_zero _))
      simpa [World.setCells] using this
  | some x =>
    have hnews : ∀ j u, (nflat l)[j]? = some u → w.cell? (x.add j) = some u := by
      intro j u hj
      rcases hv with rfl | ⟨g, o, e, hc⟩
      · simp [nflat] at hj
      · cases e
        rw [addr_at]; exact hc j u hj
    obtain ⟨v', w', h1, h2, h3, _, h5⟩ := run_append_own_at (P := Tryz.prog) w B 53 ty NT i0 _ 6 64 Tryz.underlying53 hi hz0 hz1 hz2 rfl (by decide) v q.length (nflat q) h x m c (nflat l) (by rw [nflat_len, hl]) hnews (nflat_one l) (by unfold maxLen; omega) (by omega) hB
    refine ⟨v', w', h1, ?_, h3, fun k hk => ?_⟩
    · unfold OwnN
      rw [List.length_append, nflat_append, hl]
      exact h2
    · rcases h5 with z | z
      · left; rw [← z]; exact hk
      · right; rw [z] at hk; cases hk; exact Nat.le_refl _

theorem nstep_append {w : World} {ops : Array Oper} {o : Oper} {a : Act} {K : Act → World → Prop} {Q : Exit → Act → World → Prop} {E : Prop} (hgd : o.guard = none) (s x : Operand)
    (ho : o.op = .call { callee := .builtin .append, args := #[s, x], argTypes := #[53, 53] }) {B m c : Nat} {v : Value} {q l : List NV} {ad : Option Addr} (hs : a.eval s = v) (hx : a.eval x = .slice ad m c)
    (hown : OwnN w B v q) (hB : B ≤ w.heap.size) (hv : NView w ad l) (hl : l.length = m) (hsm : q.length + m ≤ 2000000) (hn : ad = none → m = 0) (N : Nat) (hN : q.length + m = N)
    (h : ∀ a' cp' w', OwnN w' B (.slice a' N cp') (q ++ l) → w.grownBy w' v.ownBlock → (∀ k, (Value.slice a' N cp').ownBlock = some k → v.ownBlock = some k ∨ w.heap.size ≤ k) → K (a.put o.dst (.slice a' N cp')) w') :
    if Region.wanted o (yielded ops a.tmps) = true then Oper.wp Tryz.prog o a w K Q else E := by
  have hw : Region.wanted o (yielded ops a.tmps) = true := by simp [Region.wanted, hgd]
  rw [if_pos hw]
  obtain ⟨v', w', hr, h2, h3, h4⟩ := append_nview (c := c) hown hB hv hl hsm hn o.type
  obtain ⟨a', cp', hv', _⟩ := h2.slice
  rw [List.length_append, hl, hN] at hv'
  subst hv'
  unfold Oper.wp execOp
  simp only [ho, resolve, invoke, builtin, Sem.run_bind, Sem.run_pure, Result.andThen_ok, List.map_toArray, List.map_cons, List.map_nil, hs, hx, hr]
  exact h a' cp' w' h2 h3 h4
theorem wp_nappend {ops : Array Oper} {rest : List Oper} {o : Oper} {a : Act} {Q : Exit → Act → World → Prop} {w : World} (hgd : o.guard = none) (s x : Operand)
    (ho : o.op = .call { callee := .builtin .append, args := #[s, x], argTypes := #[53, 53] }) {B m c : Nat} {v : Value} {q l : List NV} {ad : Option Addr} (hs : a.eval s = v) (hx : a.eval x = .slice ad m c)
    (hown : OwnN w B v q) (hB : B ≤ w.heap.size) (hv : NView w ad l) (hl : l.length = m) (hsm : q.length + m ≤ 2000000) (hn : ad = none → m = 0) (N : Nat) (hN : q.length + m = N)
    (h : ∀ a' cp' w', OwnN w' B (.slice a' N cp') (q ++ l) → w.grownBy w' v.ownBlock → (∀ k, (Value.slice a' N cp').ownBlock = some k → v.ownBlock = some k ∨ w.heap.size ≤ k) → wpList Tryz.prog ops Q rest (a.put o.dst (.slice a' N cp')) w') : wpList Tryz.prog ops Q (o :: rest) a w :=
  wpList_step fun _ hK => nstep_append hgd s x ho hs hx hown hB hv hl hsm hn N hN (fun a' cp' w' o' g' l' => hK _ _ (h a' cp' w' o' g' l'))


/-- A slice of tasks' plain numbers that can be read. -/
structure Nums (w : World) (a : Option Addr) (n cap : Nat) (L : List NV) : Prop where
  len : L.length = n
  view : NView w a L
  ok : ∀ x ∈ L, x.ok w
  small : (n : Int) ≤ 9223372036854775807
theorem Nums.below {w w' : World} {a : Option Addr} {n cap : Nat} {L : List NV} (h : Nums w a n cap L) (hb : Below w.heap.size w w') : Nums w' a n cap L := ⟨h.len, h.view.below hb, fun x hx => (h.ok x hx).below hb, h.small⟩
theorem nat_new (w : World) (x : NV) (T : TypeId) : NAt (w.alloc (.cells #[.int .i64 x.C, .int .i64 x.D, .int .i64 x.T, .int .i64 x.P, .int .i64 x.K, .slice x.a x.us.length x.c] T)) w.heap.size 0 x :=
  ⟨by rw [World.cell?_alloc_new]; rfl, by rw [World.cell?_alloc_new]; rfl, by rw [World.cell?_alloc_new]; rfl, by rw [World.cell?_alloc_new]; rfl, by rw [World.cell?_alloc_new]; rfl, by rw [World.cell?_alloc_new]; rfl⟩
end Go.Proofs.YtlpffgmfgkleiaaGreatDoor

/-
  The walk over the system that plain numbers mean.
-/
namespace Go.Proofs.YtlpffgmfgkleiaaGreatDoor
open Go.RowKit Go.Maps

/-- What is promised of a system by plain numbers. -/
structure Made (sets r : Int) (L : List TV) : Prop where
  s1 : 1 ≤ sets
  s8 : sets ≤ 8
  r0 : 0 ≤ r
  r3 : r ≤ 3
  pos : 0 < L.length
  six : L.length ≤ 6
  good : ∀ (k : Nat) (x : TV), L[k]? = some x → Good k sets x
/-- The system that comes back. -/
def MadeBack (w : World) (e : Ending) (w' : World) : Prop :=
  ∃ (s r : Int) (a : Option Addr) (n c : Nat) (L : List TV), e = .returned (.agg #[.int .i64 s, .int .i64 r, .slice a n c]) ∧ OwnT w' w.heap.size (.slice a n c) L ∧ AllOk w' L ∧ (∀ x ∈ L, IsI w' x.a1 x.ch ∧ IsI w' x.a2 x.us) ∧ Made s r L ∧ Below w.heap.size w w'

/-- Plain numbers in a box, a system that comes back, one that is being made. -/
structure MakeAt (w : World) (S R : Int) (a : Option Addr) (n cap : Nat) (g : Nat) (s r : Int) (v : Value) (L : List TV) (W : World) : Prop where
  low : Below w.heap.size w W
  gl : w.heap.size + 1 < g
  src : W.heap[w.heap.size]? = some (.cells #[.int .i64 S, .int .i64 R, .slice a n cap] 55 (0, 0))
  res : W.heap[w.heap.size + 1]? = some (.cells #[.int .i64 0, .int .i64 0, .slice none 0 0] 29 (0, 0))
  box : W.heap[g]? = some (.cells #[.int .i64 s, .int .i64 r, v] 29 (0, 0))
  own : OwnT W (g + 1) v L
  ok : AllOk W L
  ints : ∀ x ∈ L, IsI W x.a1 x.ch ∧ IsI W x.a2 x.us
theorem MakeAt.below {w W W' : World} {S R s r : Int} {a : Option Addr} {n cap g : Nat} {v : Value} {L : List TV} (h : MakeAt w S R a n cap g s r v L W) (hb : Below W.heap.size W W') : MakeAt w S R a n cap g s r v L W' :=
  ⟨below_up h.low hb, h.gl, kept_obj hb h.src, kept_obj hb h.res, kept_obj hb h.box, h.own.below hb, h.ok.below hb, fun x hx => ⟨(h.ints x hx).1.below hb, (h.ints x hx).2.below hb⟩⟩
theorem makeAt_new {w W : World} {S R s r : Int} {a : Option Addr} {n cap : Nat} (hl : Below w.heap.size w W) (h1 : W.heap[w.heap.size]? = some (.cells #[.int .i64 S, .int .i64 R, .slice a n cap] 55 (0, 0))) (h2 : W.heap[w.heap.size + 1]? = some (.cells #[.int .i64 0, .int .i64 0, .slice none 0 0] 29 (0, 0))) :
    MakeAt w S R a n cap W.heap.size s r (.slice none 0 0) [] (W.alloc (.cells #[.int .i64 s, .int .i64 r, .slice none 0 0] 29)) :=
  ⟨below_up hl (by repeat (first | exact Below.refl _ _ | (with_reducible assumption) | refine bw_alloc ?_ _ | refine bw_drew ?_)), lt_of_block h2, kept_obj (by repeat (first | exact Below.refl _ _ | (with_reducible assumption) | refine bw_alloc ?_ _ | refine bw_drew ?_)) h1, kept_obj (by repeat (first | exact Below.refl _ _ | (with_reducible assumption) | refine bw_alloc ?_ _ | refine bw_drew ?_)) h2, heap_alloc_new W _, OwnT.nil _ _, (fun x hx => by cases hx), (fun x hx => by cases hx)⟩

/-- A row of numbers is where it was, whatever is stored elsewhere. -/
theorem IsI.kept {w w' : World} {a : Option Addr} {l : List Int} (h : IsI w a l) (hk : ∀ (g : Nat) (cs : Array Value) (T : TypeId) (fr : Nat × Nat), w.heap[g]? = some (.cells cs T fr) → (T = 2 ∨ T = 3) → w'.heap[g]? = w.heap[g]?) : IsI w' a l := by
  rcases h with h | h
  · exact .inl h
  · refine .inr fun g o e => ?_
    obtain ⟨cs, T, fr, h1, h2⟩ := h g o e
    exact ⟨cs, T, fr, (hk g cs T fr h1 h2).trans h1, h2⟩
theorem Ints.kept {w w' : World} {a : Option Addr} {l : List Int} (h : Ints w a l) (hi : IsI w a l) (hk : ∀ (g : Nat) (cs : Array Value) (T : TypeId) (fr : Nat × Nat), w.heap[g]? = some (.cells cs T fr) → (T = 2 ∨ T = 3) → w'.heap[g]? = w.heap[g]?) : Ints w' a l := by
  rcases h with rfl | ⟨g, o, rfl, hc⟩
  · exact .inl rfl
  · rcases hi with rfl | hi
    · exact .inl rfl
    · obtain ⟨cs, T, fr, h1, h2⟩ := hi g o rfl
      refine .inr ⟨g, o, rfl, fun j u hj => ?_⟩
      rw [World.cell?_of_block (hk g cs T fr h1 h2)]; exact hc j u hj
theorem TV.ok.kept {w w' : World} {x : TV} (h : x.ok w) (hi : IsI w x.a1 x.ch ∧ IsI w x.a2 x.us) (hk : ∀ (g : Nat) (cs : Array Value) (T : TypeId) (fr : Nat × Nat), w.heap[g]? = some (.cells cs T fr) → (T = 2 ∨ T = 3) → w'.heap[g]? = w.heap[g]?) : x.ok w' :=
  ⟨h.one.kept hi.1 hk, h.two.kept hi.2 hk, h.l1, h.m1, h.l2, h.m2⟩
theorem OwnT.set {w : World} {B : Nat} {v : Value} {l : List TV} (h : OwnT w B v l) {a : Addr} (ha : a.block < B) (u : Value) : OwnT (w.setCell a u) B v l := ownsRow_setCell_below h ha u
theorem MakeAt.lay {w W w3 : World} {S R s r : Int} {a : Option Addr} {n cap g : Nat} {v v' : Value} {L L' : List TV} (h : MakeAt w S R a n cap g s r v L W) (hb : Below (g + 1) W w3) (hk3 : ∀ (b : Nat) (cs : Array Value) (T : TypeId) (fr : Nat × Nat), W.heap[b]? = some (.cells cs T fr) → (T = 2 ∨ T = 3) → w3.heap[b]? = W.heap[b]?) (ho : OwnT w3 (g + 1) v' L') (hall : ∀ x ∈ L', x.ok W ∧ (IsI W x.a1 x.ch ∧ IsI W x.a2 x.us)) :
    MakeAt w S R a n cap g s r v' L' (w3.setCell ⟨g, 2, none⟩ v') ∧ w3.cell? ⟨g, 2, none⟩ = some v ∧ w3.frozen? ⟨g, 2, none⟩ = false := by
  have hgl := h.gl
  have h3 := kept_objB hb (by omega) h.box
  have hk : ∀ (b : Nat) (cs : Array Value) (T : TypeId) (fr : Nat × Nat), W.heap[b]? = some (.cells cs T fr) → (T = 2 ∨ T = 3) → (w3.setCell ⟨g, 2, none⟩ v').heap[b]? = W.heap[b]? := by
    intro b cs T fr hc hT
    have e1 := hk3 b cs T fr hc hT
    rw [blk_far (a := ⟨g, 2, none⟩) ?_ v']
    · exact e1
    · rintro rfl
      rw [hc] at e1
      rw [h3] at e1
      simp at e1
      rcases hT with q | q <;> rw [q] at e1 <;> exact absurd e1.2.1 (by decide)
  refine ⟨⟨(h.low.trans (hb.mono (by omega))).setCell (p := ⟨g, 2, none⟩) (by show _ ≤ g; omega) _, h.gl, ?_, ?_, (blk_set h3 _).trans rfl, ho.set (by simp) _, fun x hx => (hall x hx).1.kept (hall x hx).2 hk, fun x hx => ⟨(hall x hx).2.1.kept hk, (hall x hx).2.2.kept hk⟩⟩, by rw [blk_cell h3]; rfl, blk_free h3 2⟩
  · rw [blk_far (a := ⟨g, 2, none⟩) (by show _ ≠ g; omega)]; exact kept_objB hb (by omega) h.src
  · rw [blk_far (a := ⟨g, 2, none⟩) (by show _ ≠ g; omega)]; exact kept_objB hb (by omega) h.res
theorem MakeAt.push {w W w3 : World} {S R s r : Int} {a : Option Addr} {n cap g : Nat} {v v' : Value} {L : List TV} {y : TV} (h : MakeAt w S R a n cap g s r v L W) (hg : W.grownBy w3 v.ownBlock) (ho : OwnT w3 (g + 1) v' (L ++ [y])) (hy : y.ok W) (hi : IsI W y.a1 y.ch ∧ IsI W y.a2 y.us) :
    MakeAt w S R a n cap g s r v' (L ++ [y]) (w3.setCell ⟨g, 2, none⟩ v') ∧ w3.cell? ⟨g, 2, none⟩ = some v ∧ w3.frozen? ⟨g, 2, none⟩ = false := by
  have hs : g + 1 ≤ W.heap.size := lt_of_block h.box
  have hb : Below (g + 1) W w3 := (Below.refl _ W).grown hg hs (fun k hk => (h.own.new hk).1)
  refine h.lay hb ?_ ho ?_
  · intro b cs T fr hc hT
    refine hg.block b (lt_of_block hc) ?_
    intro z
    rcases h.own with ⟨_, q | ⟨k', cap', cur', e', hB', h3', _⟩⟩
    · rw [q.1] at z; cases z
    · rw [e'] at z
      simp [Value.ownBlock] at z
      subst z
      rw [hc] at h3'
      simp at h3'
      rcases hT with q | q <;> rw [q] at h3' <;> exact absurd h3'.2.1 (by decide)
  · intro x hx
    rcases List.mem_append.1 hx with q | q
    · exact ⟨h.ok x q, h.ints x q⟩
    · simp at q; subst q; exact ⟨hy, hi⟩
/-- The task of a system that has none. -/
def lone : TV := ⟨1, 1, 4, 4, 10, none, [], 0, none, [], 0⟩
theorem lone_good (s : Int) : Good 0 s lone := ⟨rfl, by simp [lone], by simp [lone], by simp [lone], by simp [lone], by simp [lone], by simp [lone], by simp [lone], .inl rfl, (fun u hu => by simp [lone] at hu), by simp [lone]⟩
theorem lone_own (W : World) (B : Nat) (hB : B ≤ W.heap.size) : OwnT (W.alloc (.cells #[.int .i64 1, .int .i64 1, .int .i64 4, .int .i64 4, .int .i64 10, .slice none 0 0, .slice none 0 0] TT)) B (.slice (some ⟨W.heap.size, 0, none⟩) 1 1) [lone] :=
  World.ownsRow_lit (w := W) #[.int .i64 1, .int .i64 1, .int .i64 4, .int .i64 4, .int .i64 10, .slice none 0 0, .slice none 0 0] 1 hB (by decide) rfl
theorem MakeAt.lone {w W : World} {S R s r : Int} {a : Option Addr} {n cap g : Nat} {v : Value} {L : List TV} (h : MakeAt w S R a n cap g s r v L W) :
    MakeAt w S R a n cap g s r (.slice (some ⟨W.heap.size, 0, none⟩) 1 1) [lone] ((W.alloc (.cells #[.int .i64 1, .int .i64 1, .int .i64 4, .int .i64 4, .int .i64 10, .slice none 0 0, .slice none 0 0] TT)).setCell ⟨g, 2, none⟩ (.slice (some ⟨W.heap.size, 0, none⟩) 1 1)) := by
  have hs : g + 1 ≤ W.heap.size := lt_of_block h.box
  refine (h.lay (L' := [Go.Proofs.YtlpffgmfgkleiaaGreatDoor.lone]) (((Below.refl _ W).alloc (Nat.le_refl _) _).mono hs) ?_ (lone_own W _ hs) ?_).1
  · intro b cs T fr hc _
    exact Below.heap_alloc _ _ _ (lt_of_block hc)
  · intro x hx
    simp at hx; subst hx
    exact ⟨⟨.inl rfl, .inl rfl, by simp [Go.Proofs.YtlpffgmfgkleiaaGreatDoor.lone], by simp [Go.Proofs.YtlpffgmfgkleiaaGreatDoor.lone], by simp [Go.Proofs.YtlpffgmfgkleiaaGreatDoor.lone], by simp [Go.Proofs.YtlpffgmfgkleiaaGreatDoor.lone]⟩, .inl rfl, .inl rfl⟩
/-- The end. -/
theorem MakeAt.done {w W : World} {S R s r : Int} {a a' : Option Addr} {n cap g m c : Nat} {L : List TV} (h : MakeAt w S R a n cap g s r (.slice a' m c) L W) (hL : Made s r L) (x0 x1 x2 : Value) :
    MadeBack w (.returned (.agg #[.int .i64 s, .int .i64 r, .slice a' m c])) (((W.setCell ⟨w.heap.size + 1, 0, none⟩ x0).setCell ⟨w.heap.size + 1, 1, none⟩ x1).setCell ⟨w.heap.size + 1, 2, none⟩ x2) := by
  have hgl := h.gl
  have hb : Below w.heap.size w (((W.setCell ⟨w.heap.size + 1, 0, none⟩ x0).setCell ⟨w.heap.size + 1, 1, none⟩ x1).setCell ⟨w.heap.size + 1, 2, none⟩ x2) :=
    ((h.low.setCell (p := ⟨w.heap.size + 1, 0, none⟩) (Nat.le_succ _) x0).setCell (p := ⟨w.heap.size + 1, 1, none⟩) (Nat.le_succ _) x1).setCell (p := ⟨w.heap.size + 1, 2, none⟩) (Nat.le_succ _) x2
  have ho := ((h.own.set (a := ⟨w.heap.size + 1, 0, none⟩) (Nat.lt_succ_of_lt hgl) x0).set (a := ⟨w.heap.size + 1, 1, none⟩) (Nat.lt_succ_of_lt hgl) x1).set (a := ⟨w.heap.size + 1, 2, none⟩) (Nat.lt_succ_of_lt hgl) x2
  have hk : ∀ (b : Nat) (cs : Array Value) (T : TypeId) (fr : Nat × Nat), W.heap[b]? = some (.cells cs T fr) → (T = 2 ∨ T = 3) → (((W.setCell ⟨w.heap.size + 1, 0, none⟩ x0).setCell ⟨w.heap.size + 1, 1, none⟩ x1).setCell ⟨w.heap.size + 1, 2, none⟩ x2).heap[b]? = W.heap[b]? := by
    intro b cs T fr hc hT
    have hne : b ≠ w.heap.size + 1 := by
      rintro rfl
      rw [h.res] at hc
      simp at hc
      rcases hT with q | q <;> rw [q] at hc <;> exact absurd hc.2.1 (by decide)
    rw [blk_far (a := ⟨w.heap.size + 1, 2, none⟩) hne, blk_far (a := ⟨w.heap.size + 1, 1, none⟩) hne, blk_far (a := ⟨w.heap.size + 1, 0, none⟩) hne]
  exact ⟨s, r, a', m, c, L, rfl, ho.low (by omega), fun x hx => (h.ok x hx).kept (h.ints x hx) hk, fun x hx => ⟨(h.ints x hx).1.kept hk, (h.ints x hx).2.kept hk⟩, hL, hb⟩

set_option maxRecDepth 100000 in
set_option maxHeartbeats 4000000 in
theorem made_any {w : World} {a : Option Addr} {n cap : Nat} {L : List NV} (S R : Int) (hn : Nums w a n cap L) :
    Calls Tryz.prog 23 #[.agg #[.int .i64 S, .int .i64 R, .slice a n cap]] w (MadeBack w) := by
  have HA := Lib.hid hn
  have hz := zeroSys
  have hn9 := hn.small
  obtain ⟨s, hs⟩ : ∃ s, restI S 8 = s := ⟨_, rfl⟩
  have R1 := Lib.hid (fun w => hs ▸ rest_any S 8 (by omega) (by omega) w)
  have hs0 : 0 ≤ s := by rw [← hs]; exact Int.emod_nonneg _ (by omega)
  have hs1 : s < 8 := by rw [← hs]; exact Int.emod_lt_of_pos _ (by omega)
  have hw1 : IntKind.i64.wrap (1 + s) = 1 + s := IntWalk.i64_in _ (by omega)
  obtain ⟨r, hr, hr2⟩ := and_small R 3 (by omega)
  have hr3 : bits .and .i64 R 3 = (r : Int) := hr2
  have hr9 : (r : Int) ≤ 3 := by omega
  clear hn hs hr2
  go_enter Tryz.func23, Tryz.ntmps23
  go_upto_region 1 with fail
  refine gen_world (fun v => Below w.heap.size w v ∧ v.heap[w.heap.size]? = some (.cells #[.int .i64 S, .int .i64 R, .slice a n cap] 55 (0, 0)) ∧ v.heap[w.heap.size + 1]? = some (.cells #[.int .i64 0, .int .i64 0, .slice none 0 0] 29 (0, 0))) ⟨(by repeat (first | exact Below.refl _ _ | (with_reducible assumption) | refine bw_alloc ?_ _ | refine bw_drew ?_)), by rw [Below.heap_alloc _ _ _ (by simp)]; exact heap_alloc_new w _, by have := heap_alloc_new (w.alloc (.cells #[.int .i64 S, .int .i64 R, .slice a n cap] 55)) (.cells #[.int .i64 0, .int .i64 0, .slice none 0 0] 29); rwa [World.size_alloc] at this⟩ ?_
  intro W1 ⟨hl, h1, h2⟩
  have HL := Lib.hid hl
  have H1 := Lib.hid h1
  have H2 := Lib.hid h2
  have e0 : W1.cell? ⟨w.heap.size, 0, none⟩ = some (.int .i64 S) := by rw [blk_cell h1]; rfl
  have e1 : W1.cell? ⟨w.heap.size, 1, none⟩ = some (.int .i64 R) := by rw [blk_cell h1]; rfl
  have hlt := lt_of_block h1
  clear hl h1 h2
  go_cut [3] from 5 to 12 (fun u wx => u = .pointer (some ⟨W1.heap.size, 0, none⟩) ∧ wx = (W1.alloc (.cells #[.int .i64 (1 + s), .int .i64 r, .slice none 0 0] 29)).drew)
  case first =>
    have MK : Hid (∀ v, Below W1.heap.size W1 v → (Below W1.heap.size W1 v ∧ v.cell? ⟨w.heap.size, 0, none⟩ = some (.int .i64 S) ∧ v.cell? ⟨w.heap.size, 1, none⟩ = some (.int .i64 R))) := fun v hb => ⟨hb, kept_cell hb (by rw [blk_cell H1.out]; rfl), kept_cell hb (by rw [blk_cell H1.out]; rfl)⟩
    go_region_held3 (fun v => Below W1.heap.size W1 v ∧ v.cell? ⟨w.heap.size, 0, none⟩ = some (.int .i64 S) ∧ v.cell? ⟨w.heap.size, 1, none⟩ = some (.int .i64 R)) (exact MK.out _ (by repeat (first | exact Below.refl _ _ | (with_reducible assumption) | refine bw_alloc ?_ _ | refine bw_drew ?_))) ((go_at_call 43; (with_reducible refine (R1.out _).mono ?_); rintro e w3 ⟨rfl, rfl⟩))
    all_goals (go_wp2_with fail; go_meet; exact ⟨rfl, rfl⟩)
  case rest =>
    obtain ⟨rfl, rfl⟩ := hcut
    have hgl0 : w.heap.size + 1 < W1.heap.size := lt_of_block H2.out
    go_wp2_with fail
    refine gen_world (MakeAt w S R a n cap W1.heap.size (1 + s) r (.slice none 0 0) []) ((makeAt_new HL.out H1.out H2.out).below (Below.refl _ _).drew) ?_
    intro W3 hw3
    have H3 := Lib.hid hw3
    have hs1' : 1 ≤ 1 + s := by omega
    have hs8' : 1 + s ≤ 8 := by omega
    have hr0 : (0 : Int) ≤ (r : Int) := by omega
    clear hw3 HL H1 H2 e0 e1 hlt hw1 hr3 R1 hs0 hs1
    generalize W1.heap.size = g at *
    generalize 1 + s = s at *
    generalize (r : Int) = r at *
    clear hgl0
    obtain ⟨m, hm⟩ : ∃ m, m = min n 6 := ⟨_, rfl⟩
    have hm1 : m ≤ n := by omega
    have hm6 : m ≤ 6 := by omega
    have hor : m = n ∨ (m = 6 ∧ 6 < n) := by omega
    have HOR := Lib.hid hor
    clear hm hor
    go_loopw [4] (fun u wr => ∃ (k : Nat) (a' : Option Addr) (cp' : Nat) (M : List TV), k ≤ m ∧ u = .int .i64 k ∧ Hid (M.length = k) ∧ Hid (∀ (j : Nat) (x : TV), M[j]? = some x → Good j s x) ∧ Hid (MakeAt w S R a n cap g s r (.slice a' k cp') M wr)) (fun u _ => (m - intOf u).toNat)
    case atStart => exact ⟨0, _, _, [], by omega, rfl, rfl, (fun j x hx => by simp at hx), H3⟩
    case round =>
      obtain ⟨k, a', cp', M, hk, rfl, HML, HMG, HP⟩ := hrel
      clear H3
      have b0 : wr.cell? ⟨g, 0, none⟩ = some (.int .i64 s) := by rw [blk_cell HP.out.box]; rfl
      have b2 : wr.cell? ⟨g, 2, none⟩ = some (.slice a' k cp') := by rw [blk_cell HP.out.box]; rfl
      have s2 : wr.cell? ⟨w.heap.size, 2, none⟩ = some (.slice a n cap) := by rw [blk_cell HP.out.src]; rfl
      have hgw : g < wr.heap.size := lt_of_block HP.out.box
      by_cases hlt : k < m
      · obtain ⟨x, hx⟩ := nth_of HA.out.len (show k < n by omega)
        obtain ⟨g', o', rfl, ⟨c0, c1, c2, c3, c4, c5⟩⟩ := (HA.out.view.below HP.out.low).at_ hx
        have hk1 : (k : Int) < (n : Int) := by omega
        have hk6 : (k : Int) < 6 := by omega
        have hk0 : (0 : Int) ≤ (k : Int) := by omega
        have HXO := Lib.hid ((HA.out.ok x (List.mem_of_getElem? hx)).below HP.out.low)
        have T : Hid (∀ v, Below wr.heap.size wr v → _) := fun v hb => task_any x k s ⟨hk0, hk6⟩ ⟨hs1', hs8'⟩ v (HXO.out.below hb)
        have HSM : Hid (M.length + 1 ≤ 2000000) := by show _ ≤ _; have := HML.out; omega
        have HNN : Hid (M.length + 1 = k + 1) := by show _ = _; rw [HML.out]
        have HL2 : Hid (∀ y, (M ++ [y]).length = k + 1) := fun y => by rw [List.length_append, HML.out]; rfl
        have HG2 : Hid (∀ y, Good k s y → ∀ (j : Nat) (x : TV), (M ++ [y])[j]? = some x → Good j s x) := fun y hy j x hj => by
          rw [List.getElem?_append] at hj
          split at hj
          · exact HMG.out j x hj
          · rename_i q
            have hjk : j = k := by
              have := (List.getElem?_eq_some_iff.1 hj).1
              simp at this
              have := HML.out; omega
            subst hjk
            have hj0 : j - M.length = 0 := by have := HML.out; omega
            rw [hj0] at hj
            simp at hj; subst hj; exact hy
        clear hx
        go_upto_region 5 with fail
        go_region_law (first
          | (refine step_append (m := 1) (l := [y]) rfl (.tmp 25) (.tmp 35) rfl (by rfl) (by rfl) (H5.out.below (by repeat (first | exact Below.refl _ _ | (with_reducible assumption) | refine bw_alloc ?_ _ | refine bw_drew ?_))).own (Nat.le_trans (lt_of_block H5.out.box) ((by repeat (first | exact Below.refl _ _ | (with_reducible assumption) | refine bw_alloc ?_ _ | refine bw_drew ?_)) : Below w5.heap.size w5 _).size) (by first | exact View.of_at (at_new _ _ _) | exact (View.of_at (at_new _ _ _)).below (by repeat (first | exact Below.refl _ _ | (with_reducible assumption) | refine bw_alloc ?_ _ | refine bw_drew ?_))) rfl HSM.out (fun z => by cases z) (k + 1) HNN.out ?_
             intro a3 k3 w3 o3 g3 l3
             obtain ⟨hn, z1, z2⟩ := (H5.out.below (by repeat (first | exact Below.refl _ _ | (with_reducible assumption) | refine bw_alloc ?_ _ | refine bw_drew ?_))).push g3 o3 (HY.out.below (by repeat (first | exact Below.refl _ _ | (with_reducible assumption) | refine bw_alloc ?_ _ | refine bw_drew ?_))) ⟨HI.out.1.below (by repeat (first | exact Below.refl _ _ | (with_reducible assumption) | refine bw_alloc ?_ _ | refine bw_drew ?_)), HI.out.2.below (by repeat (first | exact Below.refl _ _ | (with_reducible assumption) | refine bw_alloc ?_ _ | refine bw_drew ?_))⟩
             have HN := Lib.hid hn
             clear hn o3 g3 l3)
          | (go_simp; (with_reducible refine (T.out _ (by repeat (first | exact Below.refl _ _ | (with_reducible assumption) | refine bw_alloc ?_ _ | refine bw_drew ?_))).mono ?_); rintro e w5 ⟨y, rfl, hy, hgood, b5, hi1, hi2⟩; have H5 := Lib.hid (HP.out.below (below_up (W := wr) (by repeat (first | exact Below.refl _ _ | (with_reducible assumption) | refine bw_alloc ?_ _ | refine bw_drew ?_)) b5)); have b2' : w5.cell? ⟨g, 2, none⟩ = some (.slice a' k cp') := (by rw [blk_cell H5.out.box]; rfl); have hgw5 : g < w5.heap.size := lt_of_block H5.out.box; have HY := Lib.hid hy; have HG := Lib.hid hgood; have HI := Lib.hid (And.intro hi1 hi2); clear hy hgood b5 hi1 hi2))
        all_goals
          go_wp2
          go_roundw
          case rel => exact ⟨k + 1, a3, k3, M ++ [y], by omega, by go_num, HL2.out y, HG2.out y HG.out, HN⟩
          case measure => simp [intOf]; omega
      · obtain rfl : m = k := by omega
        have hr1 : w.heap.size + 1 < wr.heap.size := lt_of_block HP.out.res
        have b1 : wr.cell? ⟨g, 1, none⟩ = some (.int .i64 r) := by rw [blk_cell HP.out.box]; rfl
        have bf := blk_free HP.out.box 2
        have r0 : wr.cell? ⟨w.heap.size + 1, 0, none⟩ = some (.int .i64 0) := by rw [blk_cell HP.out.res]; rfl
        have r1 : wr.cell? ⟨w.heap.size + 1, 1, none⟩ = some (.int .i64 0) := by rw [blk_cell HP.out.res]; rfl
        have r2 : wr.cell? ⟨w.heap.size + 1, 2, none⟩ = some (.slice none 0 0) := by rw [blk_cell HP.out.res]; rfl
        have f0 := blk_free HP.out.res 0
        have f1 := blk_free HP.out.res 1
        have f2 := blk_free HP.out.res 2
        have hgne : ¬ g = w.heap.size + 1 := by have := HP.out.gl; omega
        by_cases hm0 : m = 0
        · have HD := Lib.hid (fun x0 x1 x2 => HP.out.lone.done (⟨hs1', hs8', hr0, hr9, by simp, by simp, (fun j x hx => by
            match j, hx with
            | 0, hx => simp at hx; subst hx; exact lone_good s
            | j + 1, hx => simp at hx)⟩ : Made s r [lone]) x0 x1 x2)
          have d1 : ((m : Int) == 0) = true := by rw [beq_iff_eq]; omega
          have d2 : ¬ (m : Int) < (n : Int) := by have := HOR.out; omega
          have HD2 : Hid (∀ x0 x1 x2, MadeBack w (.returned (.agg #[.int .i64 s, .int .i64 r, .slice (some ⟨wr.heap.size, 0, none⟩) 1 1])) (((((wr.setCell ⟨g, 2, none⟩ (.slice (some ⟨wr.heap.size, 0, none⟩) 1 1)).setCell ⟨w.heap.size + 1, 0, none⟩ x0).setCell ⟨w.heap.size + 1, 1, none⟩ x1).setCell ⟨w.heap.size + 1, 2, none⟩ x2).alloc (.cells #[.int .i64 1, .int .i64 1, .int .i64 4, .int .i64 4, .int .i64 10, .slice none 0 0, .slice none 0 0] TT))) := by
            intro x0 x1 x2
            have := HD.out x0 x1 x2
            rw [World.setCell_alloc_past _ _ _ _ hgw, World.setCell_alloc_past _ _ _ _ (by simpa using hr1), World.setCell_alloc_past _ _ _ _ (by simpa using hr1), World.setCell_alloc_past _ _ _ _ (by simpa using hr1)] at this
            exact this
          clear hm0 HMG HML hm1 HD
          go_wp2_with fail
          exact bodyPost_ret (v := .agg #[.int .i64 s, .int .i64 r, .slice (some ⟨wr.heap.size, 0, none⟩) 1 1]) (by simp [results, Tryz.results23, go_sem, r0, r1, r2, hr1]) rfl (HD2.out _ _ _)
        · have HD := Lib.hid (fun x0 x1 x2 => HP.out.done (⟨hs1', hs8', hr0, hr9, by rw [HML.out]; omega, by rw [HML.out]; omega, HMG.out⟩ : Made s r M) x0 x1 x2)
          have d1 : ((m : Int) == 0) = false := by rw [beq_eq_false_iff_ne]; omega
          have q1 : ¬ ((m : Int) < (n : Int)) ∨ ((m : Int) < (n : Int) ∧ ¬ ((m : Int) < 6)) := by
            rcases HOR.out with h | ⟨h1, h2⟩
            · left; omega
            · right; omega
          clear HMG HML
          rcases q1 with q1 | ⟨q1, q2⟩
          all_goals
            go_wp2_with fail
            exact bodyPost_ret (v := .agg #[.int .i64 s, .int .i64 r, .slice a' m cp']) (by simp [results, Tryz.results23, go_sem, r0, r1, r2, hr1]) rfl (HD.out _ _ _)
end Go.Proofs.YtlpffgmfgkleiaaGreatDoor

/-
  What is wrong with a system by plain numbers: nothing; and with what becomes of it.
-/
namespace Go.Proofs.YtlpffgmfgkleiaaGreatDoor
open Go.RowKit Go.Maps

theorem good_right {k : Nat} {s : Int} {x : TV} (h : Good k s x) (hk : k < 6) : rightOf x s = 0 := by
  have h1 := h.id; have h2 := h.c1; have h3 := h.cd; have h4 := h.dt; have h5 := h.t24; have h6 := h.p1; have h7 := h.p99
  have hl : x.ch.length ≤ 24 := by
    rcases h.ch with e | e
    · rw [e]; simp
    · have := fill_len _ _ (by omega) e; omega
  have a1 : ¬ idBad x := by unfold idBad; omega
  have a2 : ¬ cdBad x := by unfold cdBad; omega
  have a3 : ¬ chBad x := by
    unfold chBad
    rintro (q | ⟨q1, q2⟩)
    · omega
    · rcases h.ch with e | e
      · exact q1 e
      · rw [e] at q2; cases q2
  have a4 : ¬ usBad x s := by
    unfold usBad
    rintro (q | q)
    · have := h.us5; omega
    · obtain ⟨u, hu, hb⟩ := List.any_eq_true.1 q
      have := h.us u hu
      unfold badB at hb
      simp only [decide_eq_true_eq] at hb
      omega
  unfold rightOf
  rw [if_neg a1, if_neg a2, if_neg a3, if_neg a4]

/-- The tasks ahead pass. -/
theorem first_pass {s : Int} (M : List TV) : ∀ (L : List TV) (k : Nat) (seen : List Int), k + L.length ≤ 6 → (∀ (j : Nat) (x : TV), L[j]? = some x → Good ((k + j : Nat) : Int) s x) → (∀ q ∈ seen, ∃ j : Nat, j < k ∧ (q - j) % 10 = 0) →
    firstOf s k seen (L ++ M) = firstOf s ((k + L.length : Nat) : Int) ((L.map TV.p).reverse ++ seen) M
  | [], k, seen, _, _, _ => rfl
  | x :: L, k, seen, hl, hg, hs => by
    have hx := hg 0 x rfl
    simp only [Nat.add_zero] at hx
    simp only [List.length_cons] at hl
    have hr := good_right hx (by omega)
    have hid : ¬ x.id ≤ (k : Int) := by rw [hx.id]; omega
    have hp : ¬ x.p ∈ seen := by
      intro q
      obtain ⟨j, hj, h⟩ := hs _ q
      have := hx.pi
      omega
    have hs' : ∀ q ∈ x.p :: seen, ∃ j : Nat, j < k + 1 ∧ (q - j) % 10 = 0 := by
      intro q hq
      rcases List.mem_cons.1 hq with rfl | hq
      · exact ⟨k, by omega, hx.pi⟩
      · obtain ⟨j, hj, h⟩ := hs _ hq
        exact ⟨j, by omega, h⟩
    have h2 := first_pass M L (k + 1) (x.p :: seen) (by omega) (fun j y hy => by
      have := hg (j + 1) y (by simpa using hy)
      rwa [show k + (j + 1) = k + 1 + j by omega] at this) hs'
    rw [List.cons_append, firstOf, if_neg (fun z => z hr), if_neg hid, if_neg hp, hx.id, show ((k : Int) + 1) = ((k + 1 : Nat) : Int) by omega, h2]
    simp only [List.length_cons, List.map_cons, List.reverse_cons, List.append_assoc, List.singleton_append]
    rw [show k + 1 + L.length = k + (L.length + 1) by omega]
theorem made_pass {s r : Int} {L : List TV} (h : Made s r L) (M : List TV) : firstOf s 0 [] (L ++ M) = firstOf s (L.length : Int) ((L.map TV.p).reverse ++ []) M := by
  have := first_pass (s := s) M L 0 [] (by have := h.six; omega) (fun j x hx => by simpa using h.good j x hx) (fun q hq => by cases hq)
  simpa using this
theorem made_ok {s r : Int} {L : List TV} (h : Made s r L) : ¬ sysBad s r L := by
  have h1 := h.s1; have h2 := h.s8; have h3 := h.r0; have h4 := h.r3; have h5 := h.pos
  unfold sysBad; omega
theorem check_made {s r : Int} {L : List TV} (h : Made s r L) : checkOf s r L = 0 := by
  unfold checkOf
  rw [if_neg (made_ok h), if_neg (by have := h.six; omega)]
  have := made_pass h []
  rw [List.append_nil] at this
  rw [this, firstOf]
theorem check_more {s r : Int} {L : List TV} (h : Made s r L) (y : TV) (want : Int) (hy : firstOf s (L.length : Int) ((L.map TV.p).reverse ++ []) [y] = want) : checkOf s r (L ++ [y]) = want := by
  unfold checkOf
  rw [if_neg, if_neg (by rw [List.length_append]; have := h.six; simp; omega), made_pass h, hy]
  have := made_ok h
  unfold sysBad at this ⊢
  rw [List.length_append]; simp; omega
theorem check_twice {s r : Int} {L : List TV} (h : Made s r L) {y : TV} {k : Nat} (hy : L[k]? = some y) : checkOf s r (L ++ [y]) = 10 := by
  refine check_more h y 10 ?_
  have hkl : k < L.length := (List.getElem?_eq_some_iff.1 hy).1
  have hg := h.good k y hy
  rw [firstOf, if_neg (fun z => z (good_right hg (by have := h.six; omega))), if_pos (by rw [hg.id]; omega)]
theorem check_prio {s r : Int} {L : List TV} (h : Made s r L) {y : TV} {k : Nat} (hy : L[k]? = some y) : checkOf s r (L ++ [{ y with id := 90 }]) = 14 := by
  refine check_more h _ 14 ?_
  have hkl : k < L.length := (List.getElem?_eq_some_iff.1 hy).1
  have hg := h.good k y hy
  have hr := good_right hg (by have := h.six; omega)
  have hr2 : rightOf { y with id := 90 } s = 0 := by
    unfold rightOf at hr ⊢
    have b1 : ¬ idBad y := by unfold idBad; have := hg.id; have := hg.p1; have := hg.p99; have := h.six; omega
    have b2 : ¬ idBad { y with id := 90 } := by unfold idBad; have := hg.p1; have := hg.p99; have := h.six; simp only; omega
    rw [if_neg b1] at hr
    rw [if_neg b2]
    exact hr
  rw [firstOf, if_neg (fun z => z hr2), if_neg (by have := h.six; simp only; omega), if_pos]
  rw [List.append_nil, List.mem_reverse, List.mem_map]
  exact ⟨y, List.mem_of_getElem? hy, rfl⟩
theorem check_none (s r : Int) : checkOf s r [] = 1 := by
  unfold checkOf; rw [if_pos]; unfold sysBad; right; rfl
theorem check_late {s r : Int} {L : List TV} (h : Made s r L) {y : TV} {k : Nat} (hy : L[k]? = some y) : checkOf s r (L.set k { y with d := y.t + 1 }) = 10 := by
  have hkl : k < L.length := (List.getElem?_eq_some_iff.1 hy).1
  have hg := h.good k y hy
  have h6 := h.six
  unfold checkOf
  rw [if_neg, if_neg (by rw [List.length_set]; omega)]
  · have e : L.set k { y with d := y.t + 1 } = L.take k ++ ({ y with d := y.t + 1 } :: L.drop (k + 1)) := by
      rw [List.set_eq_take_append_cons_drop, if_pos hkl]
    rw [e]
    have := first_pass (s := s) ({ y with d := y.t + 1 } :: L.drop (k + 1)) (L.take k) 0 [] (by rw [List.length_take]; omega) (fun j x hx => by
      rw [List.getElem?_take] at hx
      split at hx
      · simpa using h.good j x hx
      · cases hx) (fun q hq => by cases hq)
    simp only [Int.ofNat_zero, Int.natCast_zero] at this
    rw [this, firstOf]
    have hr : rightOf { y with d := y.t + 1 } s = 10 := by
      unfold rightOf
      have b1 : ¬ idBad { y with d := y.t + 1 } := by unfold idBad; have := hg.id; have := hg.p1; have := hg.p99; simp only; omega
      have b2 : cdBad { y with d := y.t + 1 } := by unfold cdBad; simp only; omega
      rw [if_neg b1, if_pos b2]
    rw [hr]; rfl
  · have := made_ok h
    unfold sysBad at this ⊢
    rw [List.length_set]; exact this
theorem made_less {s r : Int} {L : List TV} (h : Made s r L) (hl : 1 < L.length) : Made s r (L.take (L.length - 1)) :=
  ⟨h.s1, h.s8, h.r0, h.r3, by rw [List.length_take]; omega, by have := h.six; rw [List.length_take]; omega, fun k x hx => by
    rw [List.getElem?_take] at hx
    split at hx
    · exact h.good k x hx
    · cases hx⟩
theorem late_not {s r : Int} {L : List TV} (h : Made s r L) {y : TV} {k : Nat} (hy : L[k]? = some y) : ¬ (L.set k { y with d := y.t + 1 }).map TV.tk = L.map TV.tk := by
  have hkl : k < L.length := (List.getElem?_eq_some_iff.1 hy).1
  refine row_not (k := k) (x := { y with d := y.t + 1 }) (y := y) (by simp [hkl]) hy ?_
  intro z
  have := ((tk_eq _ _).1 z).2.2.1
  have h2 := (h.good k y hy).dt
  have h3 : y.t + 1 = y.d := this
  omega
theorem made_wf {s r : Int} {L : List TV} (h : Made s r L) : ∀ x ∈ L, I64 x.p ∧ I64 x.id := by
  intro x hx
  obtain ⟨k, hk⟩ := List.mem_iff_getElem?.1 hx
  have hg := h.good k x hk
  have hkl : k < L.length := (List.getElem?_eq_some_iff.1 hk).1
  have := h.six; have := hg.id; have := hg.p1; have := hg.p99
  unfold I64
  omega
end Go.Proofs.YtlpffgmfgkleiaaGreatDoor

/-
  What a row of words, and a text, say: in plain words.
-/
namespace Go.Proofs.YtlpffgmfgkleiaaGreatDoor
open Go.RowKit Go.Maps

/-! ### a row of words -/
/-- The word at a place. -/
def wordAt (W : List WV) (i : Nat) : Option ByteArray := (W[i]?).map WV.tx
def endOf (x : WV) : Int := wrap64 (x.at_ + (x.tx.size : Int))
/-- Where the word ahead of a place ends. -/
def endAt (W : List WV) : Nat → Int
  | 0 => 0
  | k + 1 => match W[k]? with
    | some x => endOf x
    | none => 0
/-- Where a place is wrong. -/
def placeAt (W : List WV) (i : Nat) : Int := match W[i]? with
  | some x => x.at_
  | none => endAt W W.length
theorem wordAt_some {W : List WV} {i : Nat} {x : WV} (h : W[i]? = some x) : wordAt W i = some x.tx := by unfold wordAt; rw [h]; rfl
theorem wordAt_none {W : List WV} {i : Nat} (h : W.length ≤ i) : wordAt W i = none := by unfold wordAt; rw [List.getElem?_eq_none h]; rfl
theorem placeAt_some {W : List WV} {i : Nat} {x : WV} (h : W[i]? = some x) : placeAt W i = x.at_ := by unfold placeAt; rw [h]
theorem placeAt_none {W : List WV} {i : Nat} (h : W.length ≤ i) : placeAt W i = endAt W W.length := by unfold placeAt; rw [List.getElem?_eq_none h]
theorem endAt_succ {W : List WV} {i : Nat} {x : WV} (h : W[i]? = some x) : endAt W (i + 1) = endOf x := by rw [endAt, h]

/-! ### names and what stands behind them -/
def eqFrom (s : ByteArray) : Nat → Nat → Option Nat
  | 0, _ => none
  | k + 1, i => if byteAt s i = 61 then some i else eqFrom s k (i + 1)
/-- What stands ahead of the first '=', and behind it. -/
def pairOf (s : ByteArray) : Option (ByteArray × ByteArray) := (eqFrom s s.size 0).map fun i => (s.extract 0 i, s.extract (i + 1) s.size)
theorem eqFrom_none (s : ByteArray) : ∀ (k i : Nat), (∀ j, i ≤ j → j < i + k → byteAt s j ≠ 61) → eqFrom s k i = none
  | 0, _, _ => rfl
  | k + 1, i, h => by
    rw [eqFrom, if_neg (h i (Nat.le_refl _) (by omega))]
    exact eqFrom_none s k (i + 1) (fun j h1 h2 => h j (by omega) (by omega))
theorem eqFrom_some (s : ByteArray) {p : Nat} (hp : byteAt s p = 61) : ∀ (k i : Nat), i ≤ p → p < i + k → (∀ j, i ≤ j → j < p → byteAt s j ≠ 61) → eqFrom s k i = some p
  | 0, i, h1, h2, _ => by omega
  | k + 1, i, h1, h2, h => by
    by_cases e : i = p
    · subst e; rw [eqFrom, if_pos hp]
    · rw [eqFrom, if_neg (h i (Nat.le_refl _) (by omega))]
      exact eqFrom_some s hp k (i + 1) (by omega) (by omega) (fun j q1 q2 => h j (by omega) q2)
theorem pairOf_is {s x y : ByteArray} {b : Bool} (h : PairIs s x y b) : (b = false ∧ x = ⟨#[]⟩ ∧ y = ⟨#[]⟩ ∧ pairOf s = none) ∨ (b = true ∧ pairOf s = some (x, y)) := by
  rcases h with ⟨hno, rfl, rfl, rfl⟩ | ⟨i, ⟨h1, h2, h3⟩, rfl, rfl, rfl⟩
  · refine .inl ⟨rfl, rfl, rfl, ?_⟩
    unfold pairOf
    rw [eqFrom_none s s.size 0 (fun j _ q => hno j (by omega))]
    rfl
  · refine .inr ⟨rfl, ?_⟩
    unfold pairOf
    rw [eqFrom_some s h2 s.size 0 (Nat.zero_le _) (by omega) (fun j _ q => h3 j q)]
    rfl
/-- What stands behind that name. -/
def namedV (s name : ByteArray) : Option ByteArray := match pairOf s with
  | some (x, y) => if x = name then some y else none
  | none => none
theorem namedV_size {s name v : ByteArray} (h : namedV s name = some v) : v.size ≤ s.size := by
  unfold namedV at h
  split at h
  · rename_i x y he
    split at h
    · cases h
      unfold pairOf at he
      cases hq : eqFrom s s.size 0 with
      | none => rw [hq] at he; cases he
      | some i =>
        rw [hq] at he
        simp only [Option.map_some, Option.some.injEq, Prod.mk.injEq] at he
        rw [← he.2, ByteArray.size_extract]; omega
    · cases h
  · cases h
theorem wordAt_size {W : List WV} {N : Nat} (h : ∀ x ∈ W, x.tx.size ≤ N) {i : Nat} {s : ByteArray} (hs : wordAt W i = some s) : s.size ≤ N := by
  unfold wordAt at hs
  obtain ⟨x, hx, rfl⟩ := Option.map_eq_some_iff.1 hs
  exact h x (List.mem_of_getElem? hx)
/-- What stands behind a name, at a place. -/
def valAt (W : List WV) (i : Nat) (name : ByteArray) : Option ByteArray := (wordAt W i).bind fun s => namedV s name
def numAt (W : List WV) (i : Nat) (name : ByteArray) (most : Int) : Option Nat := (valAt W i name).bind fun v => numOf v most
def numsAt (W : List WV) (i : Nat) (name : ByteArray) (most : Int) : Option (List Int) := (valAt W i name).bind fun v => numsOf v most
theorem numOf_le {s : ByteArray} {most : Int} {n : Nat} (h : numOf s most = some n) : (n : Int) ≤ most := by
  unfold numOf at h
  split at h
  · cases h
  · split at h
    · cases h
    · split at h
      · cases h
      · cases h; omega
theorem numOf_small {s : ByteArray} {most : Int} {n : Nat} (h : numOf s most = some n) : (n : Int) ≤ 9223372036854775807 := by
  unfold numOf at h
  split at h
  · cases h
  · split at h
    · cases h
    · rename_i m hm
      split at h
      · cases h
      · have hq := nrun_small s s.size m hm
        simp only [Option.some.injEq] at h
        omega

/-! ### a task's words -/
abbrev bTask : ByteArray := ⟨#[116, 97, 115, 107]⟩
abbrev bCache : ByteArray := ⟨#[99, 97, 99, 104, 101]⟩
abbrev bC : ByteArray := ⟨#[99]⟩
abbrev bD : ByteArray := ⟨#[100]⟩
abbrev bT : ByteArray := ⟨#[116]⟩
abbrev bP : ByteArray := ⟨#[112]⟩
abbrev bChunks : ByteArray := ⟨#[99, 104, 117, 110, 107, 115]⟩
abbrev bUse : ByteArray := ⟨#[117, 115, 101]⟩
def nameK : Nat → ByteArray
  | 0 => bC
  | 1 => bD
  | 2 => bT
  | _ => bP
def mostK (k : Nat) : Int := if k = 3 then 99 else 1073741824
def numK (W : List WV) (k : Nat) : Option Nat := numAt W (2 + k) (nameK k) (mostK k)
def idOf (W : List WV) : Option Nat := (wordAt W 1).bind fun s => numOf s 99
/-- The chunks and the used sets, with the place behind them. -/
def chAt (W : List WV) : Option (List Int) := numsAt W 6 bChunks 1073741824
def plus1 (W : List WV) : Nat := if (chAt W).isSome then 7 else 6
def usAt (W : List WV) : Option (List Int) := numsAt W (plus1 W) bUse 255
def plus2 (W : List WV) : Nat := if (usAt W).isSome then plus1 W + 1 else plus1 W
/-- The task that a row says, or the place at which it is wrong. -/
def lineOf (W : List WV) : Except Int Tk :=
  if wordAt W 0 ≠ some bTask then .error (placeAt W 0) else
  match idOf W with
  | none => .error (placeAt W 1)
  | some id =>
    match numK W 0 with
    | none => .error (placeAt W 2)
    | some c =>
      match numK W 1 with
      | none => .error (placeAt W 3)
      | some d =>
        match numK W 2 with
        | none => .error (placeAt W 4)
        | some t =>
          match numK W 3 with
          | none => .error (placeAt W 5)
          | some p =>
            if plus2 W < W.length then .error (placeAt W (plus2 W)) else
            .ok ⟨id, c, d, t, p, (chAt W).getD [], (usAt W).getD []⟩
theorem line_first {W : List WV} (h : wordAt W 0 ≠ some bTask) : lineOf W = .error (placeAt W 0) := by unfold lineOf; rw [if_pos h]
theorem line_id {W : List WV} (h : wordAt W 0 = some bTask) (h1 : idOf W = none) : lineOf W = .error (placeAt W 1) := by unfold lineOf; rw [if_neg (fun q => q h), h1]
theorem line_bad {W : List WV} {k : Nat} (h : wordAt W 0 = some bTask) {id : Nat} (h1 : idOf W = some id) (hk : k < 4) (hs : ∀ j, j < k → ∃ n, numK W j = some n) (hn : numK W k = none) : lineOf W = .error (placeAt W (2 + k)) := by
  unfold lineOf
  rw [if_neg (fun q => q h), h1]
  simp only []
  match k, hk with
  | 0, _ => rw [hn]
  | 1, _ =>
    obtain ⟨n0, e0⟩ := hs 0 (by omega)
    rw [e0, hn]
  | 2, _ =>
    obtain ⟨n0, e0⟩ := hs 0 (by omega)
    obtain ⟨n1, e1⟩ := hs 1 (by omega)
    rw [e0, e1, hn]
  | 3, _ =>
    obtain ⟨n0, e0⟩ := hs 0 (by omega)
    obtain ⟨n1, e1⟩ := hs 1 (by omega)
    obtain ⟨n2, e2⟩ := hs 2 (by omega)
    rw [e0, e1, e2, hn]
theorem line_over {W : List WV} (h : wordAt W 0 = some bTask) {id c d t p : Nat} (h1 : idOf W = some id) (hc : numK W 0 = some c) (hd : numK W 1 = some d) (ht : numK W 2 = some t) (hp : numK W 3 = some p) (ho : plus2 W < W.length) : lineOf W = .error (placeAt W (plus2 W)) := by
  unfold lineOf
  rw [if_neg (fun q => q h), h1, hc, hd, ht, hp]
  simp only []
  rw [if_pos ho]
theorem line_ok {W : List WV} (h : wordAt W 0 = some bTask) {id c d t p : Nat} (h1 : idOf W = some id) (hc : numK W 0 = some c) (hd : numK W 1 = some d) (ht : numK W 2 = some t) (hp : numK W 3 = some p) (ho : ¬ plus2 W < W.length) : lineOf W = .ok ⟨id, c, d, t, p, (chAt W).getD [], (usAt W).getD []⟩ := by
  unfold lineOf
  rw [if_neg (fun q => q h), h1, hc, hd, ht, hp]
  simp only []
  rw [if_neg ho]
theorem numAt_lt {W : List WV} {i : Nat} {name : ByteArray} {most : Int} {n : Nat} (h : numAt W i name most = some n) : i < W.length := by
  rcases Nat.lt_or_ge i W.length with q | q
  · exact q
  · unfold numAt valAt at h; rw [wordAt_none q] at h; cases h
theorem numsAt_lt {W : List WV} {i : Nat} {name : ByteArray} {most : Int} {n : List Int} (h : numsAt W i name most = some n) : i < W.length := by
  rcases Nat.lt_or_ge i W.length with q | q
  · exact q
  · unfold numsAt valAt at h; rw [wordAt_none q] at h; cases h
theorem plus1_le {W : List WV} (h : 6 ≤ W.length) : plus1 W ≤ W.length := by
  unfold plus1
  split
  · rename_i e
    obtain ⟨l, e⟩ := Option.isSome_iff_exists.1 e
    exact numsAt_lt e
  · exact h
theorem plus2_le {W : List WV} (h : 6 ≤ W.length) : plus2 W ≤ W.length := by
  unfold plus2
  split
  · rename_i e
    obtain ⟨l, e⟩ := Option.isSome_iff_exists.1 e
    exact numsAt_lt e
  · exact plus1_le h

/-! ### a cache's words -/
def setsOf (W : List WV) : Option Nat := (wordAt W 1).bind fun s => numOf s 256
def relOf (W : List WV) : Option Nat := (wordAt W 2).bind fun s => numOf s 1000
def cacheOf (W : List WV) : Except Int (Nat × Nat) :=
  if wordAt W 0 ≠ some bCache then .error (placeAt W 0) else
  match setsOf W with
  | none => .error (placeAt W 1)
  | some s =>
    match relOf W with
    | none => .error (placeAt W 2)
    | some r => if 3 < W.length then .error (placeAt W 3) else .ok (s, r)

/-! ### a text -/
def Tk.tv (t : Tk) : TV := ⟨t.id, t.c, t.d, t.t, t.p, none, t.ch, t.ch.length, none, t.us, t.us.length⟩
theorem first_tk (s : Int) : ∀ (L : List TV) (last : Int) (seen : List Int), firstOf s last seen L = firstOf s last seen ((L.map TV.tk).map Tk.tv)
  | [], _, _ => rfl
  | x :: L, last, seen => by
    rw [List.map_cons, List.map_cons, firstOf, firstOf, first_tk s L x.id (x.p :: seen)]
    rfl
/-- What is wrong with a system, by what its tasks are meant to be. -/
def checkT (s r : Int) (l : List Tk) : Int := checkOf s r (l.map Tk.tv)
theorem check_tk (s r : Int) (L : List TV) : checkOf s r L = checkT s r (L.map TV.tk) := by
  unfold checkT checkOf sysBad
  rw [← first_tk]
  simp only [List.length_map]
def tailOf (S R : Int) (acc : List Tk) : List (List WV) → Except (Int × Int) (List Tk)
  | [] => .ok acc
  | W :: rest => match lineOf W with
    | .error p => .error (p, 10)
    | .ok t => if checkT S R (acc ++ [t]) = 0 then tailOf S R (acc ++ [t]) rest else .error (placeAt W 0, checkT S R (acc ++ [t]))
/-- The system that a text says, or the place and the error of what is wrong. -/
def parseOf (s : ByteArray) : Except (Int × Int) (Nat × Nat × List Tk) := match linesOf s with
  | [] => .error (s.size, 10)
  | W :: rest => match cacheOf W with
    | .error p => .error (p, 10)
    | .ok (S, R) => match tailOf S R [] rest with
      | .error q => .error q
      | .ok [] => .error (s.size, 1)
      | .ok l => .ok (S, R, l)
end Go.Proofs.YtlpffgmfgkleiaaGreatDoor

/-
  A row of words that is read, in memory; what closures that take a word do.
-/
namespace Go.Proofs.YtlpffgmfgkleiaaGreatDoor
open Go.RowKit Go.Maps

abbrev RowT : TypeId := 94
abbrev SysT : TypeId := 29
/-- A block of one's own, and what it holds. -/
abbrev Box (w : World) (b : Nat) (T : TypeId) (cs : Array Value) : Prop := w.heap[b]? = some (.cells cs T (0, 0))
/-- Two blocks may have turned. -/
structure Two (R T : Nat) (w w' : World) : Prop where
  os : w'.os = w.os
  tape : w'.tape = w.tape
  output : w'.output = w.output
  size : w.heap.size ≤ w'.heap.size
  block : ∀ k, k < w.heap.size → k ≠ R → k ≠ T → w'.heap[k]? = w.heap[k]?
theorem Two.refl (R T : Nat) (w : World) : Two R T w w := ⟨rfl, rfl, rfl, Nat.le_refl _, fun _ _ _ _ => rfl⟩
theorem Two.trans {R T : Nat} {w w' w'' : World} (h : Two R T w w') (k : Two R T w' w'') : Two R T w w'' :=
  ⟨k.os.trans h.os, k.tape.trans h.tape, k.output.trans h.output, Nat.le_trans h.size k.size, fun b hb h1 h2 => (k.block b (Nat.lt_of_lt_of_le hb h.size) h1 h2).trans (h.block b hb h1 h2)⟩
theorem Two.of_below {R T : Nat} {w w' : World} (h : Below w.heap.size w w') : Two R T w w' := ⟨h.os, h.tape, h.output, h.size, fun k hk _ _ => h.block k hk⟩
theorem Two.then {R T : Nat} {w w' w'' : World} (h : Two R T w w') (k : Below w'.heap.size w' w'') : Two R T w w'' := h.trans (Two.of_below k)
theorem Two.setT {R T o : Nat} {w w' : World} (h : Two R T w w') (v : Value) : Two R T w (w'.setCell ⟨T, o, none⟩ v) :=
  ⟨h.os, h.tape, h.output, by simp [World.setCell]; exact h.size, fun k hk h1 h2 => (blk_far (a := ⟨T, o, none⟩) h2 v).trans (h.block k hk h1 h2)⟩
theorem Two.setR {R T o : Nat} {w w' : World} (h : Two R T w w') (v : Value) : Two R T w (w'.setCell ⟨R, o, none⟩ v) :=
  ⟨h.os, h.tape, h.output, by simp [World.setCell]; exact h.size, fun k hk h1 h2 => (blk_far (a := ⟨R, o, none⟩) h1 v).trans (h.block k hk h1 h2)⟩
theorem Two.below {R T N : Nat} {w w' : World} (h : Two R T w w') (hR : N ≤ R) (hT : N ≤ T) (hN : N ≤ w.heap.size) : Below N w w' :=
  ⟨h.os, h.tape, h.output, h.size, fun k hk => h.block k (by omega) (by omega) (by omega)⟩
theorem Two.weak {R T' : Nat} {w w' : World} (h : Two R R w w') : Two R T' w w' := ⟨h.os, h.tape, h.output, h.size, fun k hk h1 _ => h.block k hk h1 h1⟩
theorem Two.ofT {R T : Nat} {w w' : World} (h : Two T T w w') : Two R T w w' := ⟨h.os, h.tape, h.output, h.size, fun k hk _ h2 => h.block k hk h2 h2⟩
theorem Two.swap {R T : Nat} {w w' : World} (h : Two R T w w') : Two T R w w' := ⟨h.os, h.tape, h.output, h.size, fun k hk h1 h2 => h.block k hk h2 h1⟩
theorem Two.box {R T b : Nat} {w w' : World} {t : TypeId} {cs : Array Value} (h : Two R T w w') (hb : Box w b t cs) (h1 : b ≠ R) (h2 : b ≠ T) : Box w' b t cs := (h.block b (lt_of_block hb) h1 h2).trans hb
/-- A new block may turn besides: below it none. -/
theorem Two.drop {R T : Nat} {w w' : World} (h : Two R T w w') (hT : w.heap.size ≤ T) : Two R R w w' := ⟨h.os, h.tape, h.output, h.size, fun k hk h1 _ => h.block k hk h1 (by omega)⟩
/-- Rows of numbers stay. -/
theorem ints_two {R T : Nat} {w w' : World} {a : Option Addr} {l : List Int} {t1 t2 : TypeId} {c1 c2 : Array Value} (h : Two R T w w') (hR : Box w R t1 c1) (hT : Box w T t2 c2)
    (n1 : t1 ≠ 2 ∧ t1 ≠ 3) (n2 : t2 ≠ 2 ∧ t2 ≠ 3) (hi : IsI w a l) (hv : Ints w a l) : IsI w' a l ∧ Ints w' a l := by
  rcases hv with rfl | ⟨g, o, rfl, hc⟩
  · exact ⟨.inl rfl, .inl rfl⟩
  rcases hi with rfl | hi
  · exact ⟨.inl rfl, .inl rfl⟩
  obtain ⟨cs, t, fr, hb, ht⟩ := hi g o rfl
  have e1 : g ≠ R := by
    rintro rfl
    rw [hR] at hb
    simp only [Option.some.injEq, Obj.cells.injEq] at hb
    rcases ht with q | q
    · exact n1.1 (hb.2.1.trans q)
    · exact n1.2 (hb.2.1.trans q)
  have e2 : g ≠ T := by
    rintro rfl
    rw [hT] at hb
    simp only [Option.some.injEq, Obj.cells.injEq] at hb
    rcases ht with q | q
    · exact n2.1 (hb.2.1.trans q)
    · exact n2.2 (hb.2.1.trans q)
  have hk : w'.heap[g]? = w.heap[g]? := h.block g (lt_of_block hb) e1 e2
  refine ⟨.inr fun g' o' e => ?_, .inr ⟨g, o, rfl, fun j u hj => ?_⟩⟩
  · cases e
    exact ⟨cs, t, fr, hk.trans hb, ht⟩
  · have := hc j u hj
    rw [blk_cell hb] at this
    rw [blk_cell (hk.trans hb)]
    exact this

/-! ### what is left of a row -/
def WIn (w : World) (N : Nat) (a : Option Addr) (l : List WV) : Prop :=
  l = [] ∨ ∃ g o, a = some ⟨g, o, none⟩ ∧ g < N ∧ ∀ j u, (wflat l)[j]? = some u → w.cell? ⟨g, o + j, none⟩ = some u
theorem WIn.view {w : World} {N : Nat} {a : Option Addr} {l : List WV} (h : WIn w N a l) : WView w a l := by
  rcases h with h | ⟨g, o, h1, _, h3⟩
  · exact .inl h
  · exact .inr ⟨g, o, h1, h3⟩
theorem WIn.of {w : World} {a : Option Addr} {l : List WV} (h : WView w a l) : WIn w w.heap.size a l := by
  rcases h with h | ⟨g, o, h1, h3⟩
  · exact .inl h
  · cases l with
    | nil => exact .inl rfl
    | cons x l =>
      refine .inr ⟨g, o, h1, ?_, h3⟩
      exact block_of_cell (h3 0 (.int .i64 x.at_) rfl)
theorem WIn.below {w w' : World} {N : Nat} {a : Option Addr} {l : List WV} (h : WIn w N a l) (hb : Below N w w') : WIn w' N a l := by
  rcases h with h | ⟨g, o, h1, h2, h3⟩
  · exact .inl h
  · exact .inr ⟨g, o, h1, h2, fun j u hj => by rw [hb.cell (p := ⟨g, o + j, none⟩) h2]; exact h3 j u hj⟩
/-- A row that is read: what is left of it, where the last word that was read ends. -/
def Left (w : World) (R N : Nat) (e : Int) (l : List WV) : Prop :=
  ∃ (a : Option Addr) (c : Nat), Box w R RowT #[.slice a l.length c, .int .i64 e] ∧ WIn w N a l ∧ l.length ≤ c ∧ (c : Int) ≤ 9223372036854775807
theorem Left.box {w : World} {R N : Nat} {e : Int} {l : List WV} (h : Left w R N e l) : ∃ cs, Box w R RowT cs := let ⟨_, _, hb, _⟩ := h; ⟨_, hb⟩
theorem Left.below {w w' : World} {R N : Nat} {e : Int} {l : List WV} (h : Left w R N e l) (hb : Below w.heap.size w w') (hN : N ≤ w.heap.size) : Left w' R N e l := by
  obtain ⟨a, c, h1, h2, h3⟩ := h
  exact ⟨a, c, kept_obj hb h1, h2.below (hb.mono hN), h3⟩
theorem Left.two {w w' : World} {R T N : Nat} {e : Int} {l : List WV} (h : Left w R N e l) (hb : Two T T w w') (hN : N ≤ w.heap.size) (hT : N ≤ T) (hne : R ≠ T) : Left w' R N e l := by
  obtain ⟨a, c, h1, h2, h3⟩ := h
  exact ⟨a, c, hb.box h1 hne hne, h2.below (hb.below hT hT hN), h3⟩

/-! ### closures that take a word -/
theorem beq_bytes (s t : ByteArray) : (s.toList == t.toList) = decide (s = t) := by
  by_cases h : s = t
  · subst h; simp
  · rw [decide_eq_false h, beq_eq_false_iff_ne]
    intro e
    apply h
    rw [ByteArray.toList_eq, ByteArray.toList_eq] at e
    obtain ⟨a⟩ := s
    obtain ⟨b⟩ := t
    exact congrArg ByteArray.mk (Array.toList_inj.1 e)
/-- What calls a closure. -/
def Says (v : Value) (w : World) (T : Nat) (s : ByteArray) (ok : Bool) (C : World → Prop) : Prop :=
  ∃ (F : Nat) (caps : Array Value), v = .func (.func F) #[] caps ∧ (∀ args w, (callFunc F args).run Tryz.prog w = .ok (.enter F args) w) ∧
    Calls Tryz.prog F (#[.string s] ++ caps) w fun e w' => e = .returned (.bool ok) ∧ Two T T w w' ∧ C w'
/-- What a panic bears. -/
abbrev PV (p e : Int) : Value := .iface 113 (.agg #[.int .i64 p, .int .i64 e])
abbrev Panics (p e : Int) (x : Ending) : Prop := x = .panicked [{ v := PV p e, recovered := false }]

set_option maxRecDepth 100000 in
theorem text_any (t : ByteArray) (w : World) : Calls Tryz.prog 65 #[.string t] w fun e w' => ∃ b, e = .returned (.func (.func 82) #[] #[.pointer (some ⟨b, 0, none⟩)]) ∧ w'.cell? ⟨b, 0, none⟩ = some (.string t) ∧ Below w.heap.size w w' := by
  have hmf : ∀ (fn : Fn) (first cap : Array Value) (w : World), (Instr.makeFunc fn first cap).run Tryz.prog w = .ok (.func fn first cap) w := fun _ _ _ _ => rfl
  go_enter Tryz.func65, Tryz.ntmps65
  go_wp2
  go_ret
  exact ⟨w.heap.size, rfl, by rw [World.cell?_alloc_new]; rfl, bw_alloc (Below.refl _ _) _⟩
set_option maxRecDepth 100000 in
theorem text1_any (s t : ByteArray) (b : Nat) (w : World) (hb : w.cell? ⟨b, 0, none⟩ = some (.string t)) : Calls Tryz.prog 82 #[.string s, .pointer (some ⟨b, 0, none⟩)] w fun e w' => e = .returned (.bool (s.toList == t.toList)) ∧ w' = w := by
  go_enter Tryz.func82, Tryz.ntmps82
  go_wp2
  go_ret
  exact ⟨rfl, rfl⟩
set_option maxRecDepth 100000 in
theorem enters_text1 (args : Array Value) (w : World) : (callFunc 82 args).run Tryz.prog w = .ok (.enter 82 args) w := by
  go_simp

/-! ### numbers -/
/-- A closure that takes a number, or numbers. -/
def TakesAt (F : Nat) (v : Value) (w : World) (p : Addr) (most : Int) : Prop :=
  ∃ mb tb, v = .func (.func F) #[] #[.pointer (some ⟨mb, 0, none⟩), .pointer (some ⟨tb, 0, none⟩)] ∧ w.cell? ⟨mb, 0, none⟩ = some (.int .i64 most) ∧ w.cell? ⟨tb, 0, none⟩ = some (.pointer (some p))
theorem TakesAt.below {F : Nat} {v : Value} {w w' : World} {p : Addr} {most : Int} (h : TakesAt F v w p most) (hb : Below w.heap.size w w') : TakesAt F v w' p most := by
  obtain ⟨mb, tb, h1, h2, h3⟩ := h
  exact ⟨mb, tb, h1, kept_cell hb h2, kept_cell hb h3⟩

set_option maxRecDepth 100000 in
theorem numI_any (p : Addr) (most : Int) (w : World) : Calls Tryz.prog 66 #[.pointer (some p), .int .i64 most] w fun e w' => ∃ v, e = .returned v ∧ TakesAt 83 v w' p most ∧ Below w.heap.size w w' := by
  have hmf : ∀ (fn : Fn) (first cap : Array Value) (w : World), (Instr.makeFunc fn first cap).run Tryz.prog w = .ok (.func fn first cap) w := fun _ _ _ _ => rfl
  go_enter Tryz.func66, Tryz.ntmps66
  go_wp2
  go_ret
  exact ⟨_, rfl, ⟨w.heap.size + 1, w.heap.size, rfl, (new_second w _ _ _ 0).trans rfl, (new_first w _ _ _ 0).trans rfl⟩, bw_alloc (bw_alloc (Below.refl _ _) _) _⟩
set_option maxRecDepth 100000 in
theorem enters_numI1 (args : Array Value) (w : World) : (callFunc 83 args).run Tryz.prog w = .ok (.enter 83 args) w := by
  go_simp

set_option maxRecDepth 100000 in
theorem numQ_any (p : Addr) (most : Int) (w : World) : Calls Tryz.prog 68 #[.pointer (some p), .int .i64 most] w fun e w' => ∃ v, e = .returned v ∧ TakesAt 87 v w' p most ∧ Below w.heap.size w w' := by
  have hmf : ∀ (fn : Fn) (first cap : Array Value) (w : World), (Instr.makeFunc fn first cap).run Tryz.prog w = .ok (.func fn first cap) w := fun _ _ _ _ => rfl
  go_enter Tryz.func68, Tryz.ntmps68
  go_wp2
  go_ret
  exact ⟨_, rfl, ⟨w.heap.size + 1, w.heap.size, rfl, (new_second w _ _ _ 0).trans rfl, (new_first w _ _ _ 0).trans rfl⟩, bw_alloc (bw_alloc (Below.refl _ _) _) _⟩
set_option maxRecDepth 100000 in
theorem enters_numQ1 (args : Array Value) (w : World) : (callFunc 87 args).run Tryz.prog w = .ok (.enter 87 args) w := by
  go_simp

set_option maxRecDepth 100000 in
theorem numsI_any (p : Addr) (most : Int) (w : World) : Calls Tryz.prog 71 #[.pointer (some p), .int .i64 most] w fun e w' => ∃ v, e = .returned v ∧ TakesAt 91 v w' p most ∧ Below w.heap.size w w' := by
  have hmf : ∀ (fn : Fn) (first cap : Array Value) (w : World), (Instr.makeFunc fn first cap).run Tryz.prog w = .ok (.func fn first cap) w := fun _ _ _ _ => rfl
  go_enter Tryz.func71, Tryz.ntmps71
  go_wp2
  go_ret
  exact ⟨_, rfl, ⟨w.heap.size + 1, w.heap.size, rfl, (new_second w _ _ _ 0).trans rfl, (new_first w _ _ _ 0).trans rfl⟩, bw_alloc (bw_alloc (Below.refl _ _) _) _⟩
set_option maxRecDepth 100000 in
theorem enters_numsI1 (args : Array Value) (w : World) : (callFunc 91 args).run Tryz.prog w = .ok (.enter 91 args) w := by
  go_simp

set_option maxRecDepth 100000 in
theorem numsQ_any (p : Addr) (most : Int) (w : World) : Calls Tryz.prog 70 #[.pointer (some p), .int .i64 most] w fun e w' => ∃ v, e = .returned v ∧ TakesAt 88 v w' p most ∧ Below w.heap.size w w' := by
  have hmf : ∀ (fn : Fn) (first cap : Array Value) (w : World), (Instr.makeFunc fn first cap).run Tryz.prog w = .ok (.func fn first cap) w := fun _ _ _ _ => rfl
  go_enter Tryz.func70, Tryz.ntmps70
  go_wp2
  go_ret
  exact ⟨_, rfl, ⟨w.heap.size + 1, w.heap.size, rfl, (new_second w _ _ _ 0).trans rfl, (new_first w _ _ _ 0).trans rfl⟩, bw_alloc (bw_alloc (Below.refl _ _) _) _⟩
set_option maxRecDepth 100000 in
theorem enters_numsQ1 (args : Array Value) (w : World) : (callFunc 88 args).run Tryz.prog w = .ok (.enter 88 args) w := by
  go_simp
end Go.Proofs.YtlpffgmfgkleiaaGreatDoor

/-
  Rows of numbers as those of another kind.
-/
namespace Go.Proofs.YtlpffgmfgkleiaaGreatDoor
open Go.RowKit Go.Maps

theorem y_infoInt : (Tryz.prog.info? 3).map (fun i => (i.zero, i.size, i.bytes)) = some (some (.int .i64 0), 1, 8) := by kernel_rfl
theorem make_ints (c : Nat) (hc : c ≤ 2000000000) (w : World) : (Instr.makeSlice 24 (.int .i64 0) (.int .i64 (c : Int))).run Tryz.prog w = .ok (.slice (some ⟨w.heap.size, 0, none⟩) 0 c) (w.alloc (.cells (madeCells #[.int .i64 0] c) 3)) := by
  obtain ⟨i0, hi, hz0, hz1, hz2⟩ := info_parts y_infoInt
  have h := run_make w 24 3 i0 (.int .i64 0) Tryz.underlying24 hi hz0 .i64 .i64 0 c (by omega) (by omega) (by rw [hz2]; omega) (by omega)
  rw [hz1] at h
  simpa [Value.cells] using h
theorem own_room (w : World) (cap : Nat) (hc : cap ≤ 2000000000) (T : TypeId) : OwnI (w.alloc (.cells (madeCells #[.int .i64 0] cap) T)) T w.heap.size (.slice (some ⟨w.heap.size, 0, none⟩) 0 cap) [] :=
  World.ownsRow_made (e := T) (size := 1) (base := w.heap.size) (w := w) (madeCells #[.int .i64 0] cap) cap (by simp) (by unfold maxLen; omega) (by rw [size_madeCells]; omega)
/-- A row of one's own that comes back. -/
def AsBack (T : TypeId) (l : List Int) (n : Nat) (w : World) (e : Ending) (w' : World) : Prop :=
  ∃ a c, e = .returned (.slice a n c) ∧ OwnI w' T w.heap.size (.slice a n c) l ∧ Below w.heap.size w w'

set_option maxRecDepth 100000 in
set_option maxHeartbeats 2000000 in
theorem as_qq (a : Option Addr) (n cap : Nat) (l : List Int) (hl : l.length = n) (hn : n ≤ 1100000) (w : World) (h : Ints w a l) : Calls Tryz.prog 90 #[.slice a n cap] w (AsBack 2 l n w) := by
  have H := Lib.hid h
  have HL := Lib.hid hl
  have hmk := make_long n (by omega)
  clear h hl
  go_enter Tryz.func90, Tryz.ntmps90
  go_upto_region 2 with fail
  refine gen_world (fun v => Below w.heap.size w v ∧ OwnI v 2 w.heap.size (.slice (some ⟨w.heap.size, 0, none⟩) 0 n) []) ⟨bw_alloc (Below.refl _ _) _, own_room w n (by omega) _⟩ ?_
  intro W1 ⟨hb1, ho1⟩
  have HB1 := Lib.hid hb1
  have HO1 := Lib.hid ho1
  clear hb1 ho1 hmk
  go_wp2_with fail
  go_loopw [3, 11] (fun v u wr => ∃ (k : Nat) (a' : Option Addr) (cp' : Nat), k ≤ n ∧ u = .int .i64 k ∧ v = .slice a' k cp' ∧ Hid (Below w.heap.size w wr) ∧ Hid (OwnI wr 2 w.heap.size (.slice a' k cp') (l.take k))) (fun _ u _ => (n - intOf u).toNat)
  case atStart => exact ⟨0, _, _, by omega, rfl, rfl, HB1, HO1⟩
  case round =>
    obtain ⟨k, a', cp', hk, rfl, rfl, HB, HP⟩ := hrel
    by_cases hlt : k < n
    · obtain ⟨y, hy⟩ := nth_of HL.out hlt
      obtain ⟨g, o, rfl, z0⟩ := (H.out.below HB.out).at_ hy
      have hk1 : (k : Int) < (n : Int) := by omega
      have hk0 : (0 : Int) ≤ (k : Int) := by omega
      have HTL : Hid ((l.take k).length = k) := by show _ = _; rw [List.length_take, HL.out]; omega
      have HT2 : Hid (l.take k ++ [y] = l.take (k + 1)) := by show _ = _; rw [List.take_add_one, hy]; rfl
      have HSM : Hid ((((l.take k).length : Int) + ((1 : Nat) : Int)) ≤ 17592186044416) := by show _ ≤ _; rw [HTL.out]; omega
      have HNN : Hid ((l.take k).length + 1 = k + 1) := by show _ = _; rw [HTL.out]
      have HSZ : Hid (w.heap.size ≤ (wr.alloc (.cells #[.int .i64 y] 2)).heap.size) := by show _ ≤ _; rw [World.size_alloc]; have := HB.out.size; omega
      clear hy
      go_wp2_with (at_builtin; refine wp_ints (m := 1) (l := [y]) numL rfl _ _ rfl rfl rfl (HP.out.below (by repeat (first | exact Below.refl _ _ | (with_reducible assumption) | refine bw_alloc ?_ _ | refine bw_drew ?_))) HSZ.out (ints_new _ _ _) rfl HSM.out (fun z => by cases z) (k + 1) HNN.out ?_; intro a3 k3 w3 o3 g3 l3; have HO := Lib.hid (HT2.out ▸ o3); have HB2 := Lib.hid (growni_new (below_up HB.out (bw_alloc (Below.refl _ _) _)) (HP.out.below (bw_alloc (Below.refl _ _) _)) HSZ.out g3); clear o3 g3 l3)
      go_roundw
      case rel => exact ⟨k + 1, a3, k3, by omega, by go_num, rfl, HB2, HO⟩
      case measure => simp [intOf]; omega
    · obtain rfl : n = k := by omega
      have HT : Hid (l.take n = l) := by show _ = _; rw [← HL.out, List.take_length]
      go_wp2_with fail
      go_ret
      exact ⟨_, _, rfl, HT.out ▸ HP.out, HB.out⟩

set_option maxRecDepth 100000 in
set_option maxHeartbeats 2000000 in
theorem as_qi (a : Option Addr) (n cap : Nat) (l : List Int) (hl : l.length = n) (hn : n ≤ 1100000) (w : World) (h : Ints w a l) : Calls Tryz.prog 18 #[.slice a n cap] w (AsBack 2 l n w) := by
  have H := Lib.hid h
  have HL := Lib.hid hl
  have hmk := make_long n (by omega)
  clear h hl
  go_enter Tryz.func18, Tryz.ntmps18
  go_upto_region 2 with fail
  refine gen_world (fun v => Below w.heap.size w v ∧ OwnI v 2 w.heap.size (.slice (some ⟨w.heap.size, 0, none⟩) 0 n) []) ⟨bw_alloc (Below.refl _ _) _, own_room w n (by omega) _⟩ ?_
  intro W1 ⟨hb1, ho1⟩
  have HB1 := Lib.hid hb1
  have HO1 := Lib.hid ho1
  clear hb1 ho1 hmk
  go_wp2_with fail
  go_loopw [3, 11] (fun v u wr => ∃ (k : Nat) (a' : Option Addr) (cp' : Nat), k ≤ n ∧ u = .int .i64 k ∧ v = .slice a' k cp' ∧ Hid (Below w.heap.size w wr) ∧ Hid (OwnI wr 2 w.heap.size (.slice a' k cp') (l.take k))) (fun _ u _ => (n - intOf u).toNat)
  case atStart => exact ⟨0, _, _, by omega, rfl, rfl, HB1, HO1⟩
  case round =>
    obtain ⟨k, a', cp', hk, rfl, rfl, HB, HP⟩ := hrel
    by_cases hlt : k < n
    · obtain ⟨y, hy⟩ := nth_of HL.out hlt
      obtain ⟨g, o, rfl, z0⟩ := (H.out.below HB.out).at_ hy
      have hk1 : (k : Int) < (n : Int) := by omega
      have hk0 : (0 : Int) ≤ (k : Int) := by omega
      have HTL : Hid ((l.take k).length = k) := by show _ = _; rw [List.length_take, HL.out]; omega
      have HT2 : Hid (l.take k ++ [y] = l.take (k + 1)) := by show _ = _; rw [List.take_add_one, hy]; rfl
      have HSM : Hid ((((l.take k).length : Int) + ((1 : Nat) : Int)) ≤ 17592186044416) := by show _ ≤ _; rw [HTL.out]; omega
      have HNN : Hid ((l.take k).length + 1 = k + 1) := by show _ = _; rw [HTL.out]
      have HSZ : Hid (w.heap.size ≤ (wr.alloc (.cells #[.int .i64 y] 2)).heap.size) := by show _ ≤ _; rw [World.size_alloc]; have := HB.out.size; omega
      clear hy
      go_wp2_with (at_builtin; refine wp_ints (m := 1) (l := [y]) numL rfl _ _ rfl rfl rfl (HP.out.below (by repeat (first | exact Below.refl _ _ | (with_reducible assumption) | refine bw_alloc ?_ _ | refine bw_drew ?_))) HSZ.out (ints_new _ _ _) rfl HSM.out (fun z => by cases z) (k + 1) HNN.out ?_; intro a3 k3 w3 o3 g3 l3; have HO := Lib.hid (HT2.out ▸ o3); have HB2 := Lib.hid (growni_new (below_up HB.out (bw_alloc (Below.refl _ _) _)) (HP.out.below (bw_alloc (Below.refl _ _) _)) HSZ.out g3); clear o3 g3 l3)
      go_roundw
      case rel => exact ⟨k + 1, a3, k3, by omega, by go_num, rfl, HB2, HO⟩
      case measure => simp [intOf]; omega
    · obtain rfl : n = k := by omega
      have HT : Hid (l.take n = l) := by show _ = _; rw [← HL.out, List.take_length]
      go_wp2_with fail
      go_ret
      exact ⟨_, _, rfl, HT.out ▸ HP.out, HB.out⟩

set_option maxRecDepth 100000 in
set_option maxHeartbeats 2000000 in
theorem as_iq (a : Option Addr) (n cap : Nat) (l : List Int) (hl : l.length = n) (hn : n ≤ 1100000) (w : World) (h : Ints w a l) : Calls Tryz.prog 92 #[.slice a n cap] w (AsBack 3 l n w) := by
  have H := Lib.hid h
  have HL := Lib.hid hl
  have hmk := make_ints n (by omega)
  clear h hl
  go_enter Tryz.func92, Tryz.ntmps92
  go_upto_region 2 with fail
  refine gen_world (fun v => Below w.heap.size w v ∧ OwnI v 3 w.heap.size (.slice (some ⟨w.heap.size, 0, none⟩) 0 n) []) ⟨bw_alloc (Below.refl _ _) _, own_room w n (by omega) _⟩ ?_
  intro W1 ⟨hb1, ho1⟩
  have HB1 := Lib.hid hb1
  have HO1 := Lib.hid ho1
  clear hb1 ho1 hmk
  go_wp2_with fail
  go_loopw [3, 11] (fun v u wr => ∃ (k : Nat) (a' : Option Addr) (cp' : Nat), k ≤ n ∧ u = .int .i64 k ∧ v = .slice a' k cp' ∧ Hid (Below w.heap.size w wr) ∧ Hid (OwnI wr 3 w.heap.size (.slice a' k cp') (l.take k))) (fun _ u _ => (n - intOf u).toNat)
  case atStart => exact ⟨0, _, _, by omega, rfl, rfl, HB1, HO1⟩
  case round =>
    obtain ⟨k, a', cp', hk, rfl, rfl, HB, HP⟩ := hrel
    by_cases hlt : k < n
    · obtain ⟨y, hy⟩ := nth_of HL.out hlt
      obtain ⟨g, o, rfl, z0⟩ := (H.out.below HB.out).at_ hy
      have hk1 : (k : Int) < (n : Int) := by omega
      have hk0 : (0 : Int) ≤ (k : Int) := by omega
      have HTL : Hid ((l.take k).length = k) := by show _ = _; rw [List.length_take, HL.out]; omega
      have HT2 : Hid (l.take k ++ [y] = l.take (k + 1)) := by show _ = _; rw [List.take_add_one, hy]; rfl
      have HSM : Hid ((((l.take k).length : Int) + ((1 : Nat) : Int)) ≤ 17592186044416) := by show _ ≤ _; rw [HTL.out]; omega
      have HNN : Hid ((l.take k).length + 1 = k + 1) := by show _ = _; rw [HTL.out]
      have HSZ : Hid (w.heap.size ≤ (wr.alloc (.cells #[.int .i64 y] 3)).heap.size) := by show _ ≤ _; rw [World.size_alloc]; have := HB.out.size; omega
      clear hy
      go_wp2_with (at_builtin; refine wp_ints (m := 1) (l := [y]) numI rfl _ _ rfl rfl rfl (HP.out.below (by repeat (first | exact Below.refl _ _ | (with_reducible assumption) | refine bw_alloc ?_ _ | refine bw_drew ?_))) HSZ.out (ints_new _ _ _) rfl HSM.out (fun z => by cases z) (k + 1) HNN.out ?_; intro a3 k3 w3 o3 g3 l3; have HO := Lib.hid (HT2.out ▸ o3); have HB2 := Lib.hid (growni_new (below_up HB.out (bw_alloc (Below.refl _ _) _)) (HP.out.below (bw_alloc (Below.refl _ _) _)) HSZ.out g3); clear o3 g3 l3)
      go_roundw
      case rel => exact ⟨k + 1, a3, k3, by omega, by go_num, rfl, HB2, HO⟩
      case measure => simp [intOf]; omega
    · obtain rfl : n = k := by omega
      have HT : Hid (l.take n = l) := by show _ = _; rw [← HL.out, List.take_length]
      go_wp2_with fail
      go_ret
      exact ⟨_, _, rfl, HT.out ▸ HP.out, HB.out⟩
end Go.Proofs.YtlpffgmfgkleiaaGreatDoor

/-
  A range over a function that keeps a state of its own between two rounds.
-/
namespace Go.Proofs.YtlpffgmfgkleiaaGreatDoor
open Go.RowKit Go.Maps

/-- How a round ends. -/
def RoundEnds {α : Type} (B : Nat) (Kp : World → World → Prop) (I Ix : List α → World → Prop) (xs : List α) (W : World) : Exit → Act → World → Prop
  | .normal, _, W' => KeepsFrom B W W' ∧ Kp W W' ∧ I xs W'
  | .ret, _, W' => KeepsFrom B W W' ∧ Ix xs W'
  | _, _, _ => False
/-- What tells one after another, and steps by St between two of them. -/
def Tells {α : Type} (n : Nat) (P : Program) (gf : Nat) (lb : Array Value) (encs : α → Array Value) (Kp St : World → World → Prop) (S Sp : List α → Prop) (N : Nat) (w : World) : Prop :=
  ∀ (l : Nat) (J Jx : List α → World → Prop) (W : World), Below w.heap.size w W → (∀ s X Y, J s X → St X Y → J s Y) →
    (∀ pre x W1, J pre W1 → pre.length < N → YieldAt Fence.wide (n - 1) P l (encs x) W1 fun e W' => (e = .returned (.bool true) ∧ J (pre ++ [x]) W' ∧ Kp W1 W') ∨ (e = .returned (.bool false) ∧ Jx (pre ++ [x]) W')) →
    J [] W → CallsIn Fence.wide n P gf (#[.func (.yield l) #[] #[]] ++ lb) W fun e W' => (∃ v, e = .returned v) ∧ ((∃ xs, S xs ∧ J xs W') ∨ ∃ pre, Sp pre ∧ Jx pre W')

theorem range_tells {α : Type} {n : Nat} {P : Program} {g : Operand} {ps : Array Tmp} {assign body : Code} {Q : Exit → Act → World → Prop} {a : Act} {w : World} (h1 : 1 ≤ n) {gf : Nat} {lb : Array Value}
    (hg : a.eval g = .func (.func gf) #[] lb) (eg : ∀ args w, (callFunc gf args).run P w = .ok (.enter gf args) w) {encs : α → Array Value} {Kp St : World → World → Prop} {S Sp : List α → Prop} {N : Nat}
    (hseq : Tells (n - 1) P gf lb encs Kp St S Sp N w) (hKt : ∀ {A B C : World}, Kp A B → Kp B C → Kp A C)
    (hKb : ∀ (W : World) (l : Nat) (o o' : Obj), w.heap.size ≤ l → W.heap[l]? = some o → o.isCells = false → o.isWalk = false → Kp W (W.putObj l o'))
    (hSt : ∀ X Y, St X Y → KeepsFrom w.heap.size X Y) (hps : ∀ x, (encs x).size = ps.size)
    (I Ix : List α → World → Prop) (hI : OwnFrom w.heap.size I) (hIs : ∀ s X Y, I s X → St X Y → I s Y) (hIx : OwnFrom w.heap.size Ix) (h0 : I [] w) (a₁ : α → Act)
    (hassign : ∀ (l : Nat) (x : α) (W : World) (K : Act → World → Prop), K (a₁ x) W →
      assign.wpIn (Fence.wide.inRound l) (n - 1 - 1) P (Exit.then K (fun _ _ _ => False)) { tmps := (ps.zip (encs x)).foldl (fun t (p, v) => t.setIfInBounds p v) a.tmps, defers := [] } W)
    (hbody : ∀ (l : Nat) (pre : List α) (x : α) (W : World), I pre W → pre.length < N → body.wpIn (Fence.wide.inRound l) (n - 1 - 1) P (RoundEnds w.heap.size Kp I Ix (pre ++ [x]) W) (a₁ x) W)
    (hdone : ∀ (D : Nat) (xs : List α) (W : World), w.heap.size ≤ D → S xs → I xs W → W.heap[D]? = some (.deferred (some [])) → Q .normal { a with defers := { target := .collected D, args := #[] } :: a.defers } W)
    (hstop : ∀ (D : Nat) (pre : List α) (W : World), w.heap.size ≤ D → Sp pre → Ix pre W → W.heap[D]? = some (.deferred (some [])) → Code.ret.wpIn Fence.wide n P Q { a with defers := { target := .collected D, args := #[] } :: a.defers } W) :
    (Code.rangeFunc g ps assign body).wpIn Fence.wide n P Q a w := by
  refine wpIn_rangeFunc fun fn hfn => ?_
  -- the loop's record lies in block L, what its rounds defer in block D
  generalize hD : w.heap.size = D at *
  obtain ⟨rc, hrc⟩ : ∃ rc : LoopState → Option Code → Loop, (fun st pe => { state := st, pending := pe, fn, tmps := a.tmps, params := ps, assign, body, defers := D }) = rc := ⟨_, rfl⟩
  have rps : ∀ st pe, (rc st pe).params = ps := fun st pe => by rw [← hrc]
  obtain ⟨W1, hW1⟩ : ∃ W1, (w.alloc (.deferred (some []))).alloc (.loop (rc .ready none)) = W1 := ⟨_, rfl⟩
  have lay1 : W1.heap[D + 1]? = some (.loop (rc .ready none)) ∧ W1.heap[D]? = some (.deferred (some [])) := by
    rw [← hW1]
    constructor
    · have := World.alloc_heap_new (w.alloc (.deferred (some []))) (.loop (rc .ready none))
      rwa [World.size_alloc, hD] at this
    · rw [Below.heap_alloc _ _ _ (by simp; omega)]
      have := World.alloc_heap_new w (.deferred (some []))
      rwa [hD] at this
  have hb1 : Below w.heap.size w W1 := by rw [← hW1]; exact bw_alloc (bw_alloc (Below.refl _ _) _) _
  have hI1 : I [] W1 := by rw [← hW1]; exact hI.alloc _ (hI.alloc _ h0)
  refine ⟨D + 1, [{ target := .collected D, args := #[] }], W1, { target := .fn (.func gf) lb, args := #[.func (.yield (D + 1)) #[] #[]] }, W1, gf, #[.func (.yield (D + 1)) #[] #[]] ++ lb, W1, ?_, ?_, fun _ _ => trivial, ?_, fun _ => h1, ?_⟩
  · have := run_enterLoop_outer (P := P) (w := w) fn a.tmps ps assign body
    rw [hD] at this
    rw [← hW1, ← hrc]; exact this
  · simp only [resolve, hg]
    simp [go_sem]
  · simp [invoke, go_sem, eg]
  refine (hseq (D + 1)
    (fun pre W => I pre W ∧ W.heap[D + 1]? = some (.loop (rc .ready none)) ∧ W.heap[D]? = some (.deferred (some [])))
    (fun pre W => Ix pre W ∧ W.heap[D + 1]? = some (.loop (rc .done (some .ret))) ∧ W.heap[D]? = some (.deferred (some []))) W1 hb1
    (fun s X Y h hxy => ⟨hIs s X Y h.1 hxy, (hSt X Y hxy).same _ _ (by omega) h.2.1 rfl, (hSt X Y hxy).same _ _ (Nat.le_refl _) h.2.2 rfl⟩) ?_ ⟨hI1, lay1.1, lay1.2⟩).mono ?_
  · -- a round
    rintro pre x W ⟨hi, hl, hk⟩ hlen
    have hlt : D + 1 < W.heap.size := lt_of_block hl
    have hy := run_yield (P := P) (args := encs x) hl (by rw [rps]; exact hps x)
    have hbusy : (W.putObj (D + 1) (.loop { rc .ready none with state := .busy })).heap[D + 1]? = some (.loop { rc .ready none with state := .busy }) := World.putObj_heap_same hlt
    have hdef : (W.putObj (D + 1) (.loop { rc .ready none with state := .busy })).heap[D]? = some (.deferred (some [])) := (World.putObj_heap_other (by omega)).trans hk
    have hk0 : Kp W (W.putObj (D + 1) (.loop { rc .ready none with state := .busy })) := hKb _ _ _ _ (by omega) hl rfl rfl
    have hend : ∀ (jump : Option Code) (W3 : World), KeepsFrom D (W.putObj (D + 1) (.loop { rc .ready none with state := .busy })) W3 → W3.heap[D + 1]? = some (.loop { rc .ready none with state := .busy }) ∧
        (Instr.endRound (D + 1) jump).run P W3 = .ok (.bool jump.isNone) (W3.putObj (D + 1) (.loop (rc (if jump.isNone then .ready else .done) jump))) ∧
        (W3.putObj (D + 1) (.loop (rc (if jump.isNone then .ready else .done) jump))).heap[D + 1]? = some (.loop (rc (if jump.isNone then .ready else .done) jump)) ∧
        (W3.putObj (D + 1) (.loop (rc (if jump.isNone then .ready else .done) jump))).heap[D]? = some (.deferred (some [])) := fun jump W3 h3 => by
      have q := h3.same _ _ (by omega) hbusy rfl
      have r := run_endRound (P := P) jump q
      rw [← hrc] at r
      refine ⟨q, ?_, World.putObj_heap_same (lt_of_block q), (World.putObj_heap_other (by omega)).trans (h3.same _ _ (Nat.le_refl _) hdef rfl)⟩
      rw [← hrc]; exact r
    rw [← hrc] at hy
    refine ⟨fn, _, assign, body, hy, roundIn_of_wpIn hfn (hassign _ x W _ ⟨_, run_beginRound hl (by rw [← hrc]), ?_⟩)⟩
    refine wpIn_mono (hbody _ pre x _ (hI.putObj _ hi (by omega) hl rfl) hlen) ?_
    intro e a3 W3 hp
    cases e with
    | normal =>
      obtain ⟨p1, p2, p3⟩ := hp
      obtain ⟨q, r, r1, r2⟩ := hend none W3 p1
      exact ⟨_, _, r, .inl ⟨rfl, ⟨hI.putObj _ p3 (by omega) q rfl, r1, r2⟩, hKt (hKt hk0 p2) (hKb _ _ _ _ (by omega) q rfl rfl)⟩⟩
    | ret =>
      obtain ⟨p1, p2⟩ := hp
      obtain ⟨q, r, r1, r2⟩ := hend (some .ret) W3 p1
      exact ⟨_, _, r, .inr ⟨rfl, hIx.putObj _ p2 (by omega) q rfl, r1, r2⟩⟩
    | exit _ => exact hp.elim
    | goto _ => exact hp.elim
    | panic _ => exact hp.elim
    | outgrown => exact hp.elim
  · -- behind the last one
    rintro e W2 ⟨⟨v, rfl⟩, (⟨xs, hS, hi, hl, hk⟩ | ⟨pre, hSp, hi, hl, hk⟩)⟩
    · have r := run_endLoop (P := P) hl (by rw [← hrc]; simp)
      rw [← hrc] at r hl
      exact ⟨none, _, r, hdone _ xs _ (Nat.le_refl _) hS (hI.putObj _ hi (by omega) hl rfl) ((World.putObj_heap_other (by omega)).trans hk)⟩
    · have r := run_endLoop (P := P) hl (by rw [← hrc]; simp)
      rw [← hrc] at r hl
      exact ⟨some .ret, _, r, hstop _ pre _ (Nat.le_refl _) hSp (hIx.putObj _ hi (by omega) hl rfl) ((World.putObj_heap_other (by omega)).trans hk)⟩
end Go.Proofs.YtlpffgmfgkleiaaGreatDoor

/-
  The pieces of a text between commas, in plain words.
-/
namespace Go.Proofs.YtlpffgmfgkleiaaGreatDoor
open Go.RowKit Go.Maps

def prun (s : ByteArray) : Nat → List ByteArray × Nat
  | 0 => ([], 0)
  | i + 1 => if i < s.size ∧ byteAt s i ≠ 44 then prun s i else ((prun s i).1 ++ [s.extract (prun s i).2 i], i + 1)
def pieces (s : ByteArray) : List ByteArray := (prun s (s.size + 1)).1
theorem prun_len (s : ByteArray) : ∀ i, (prun s i).1.length ≤ i
  | 0 => by simp [prun]
  | i + 1 => by
    have := prun_len s i
    rw [prun]
    split
    · omega
    · simp; omega
theorem prun_pre (s : ByteArray) (i : Nat) : ∀ j, i ≤ j → (prun s i).1 <+: (prun s j).1 := by
  intro j
  induction j with
  | zero => intro h; obtain rfl : i = 0 := by omega
            exact List.prefix_rfl
  | succ j ih =>
    intro h
    rcases Nat.lt_or_ge j i with q | q
    · obtain rfl : i = j + 1 := by omega
      exact List.prefix_rfl
    · rw [prun]
      split
      · exact ih q
      · exact (ih q).trans (List.prefix_append _ _)
theorem prun_on (s : ByteArray) (f : Nat) : ∀ k, (∀ j, f ≤ j → j < f + k → j < s.size ∧ byteAt s j ≠ 44) → prun s (f + k) = prun s f
  | 0, _ => rfl
  | k + 1, h => by
    rw [← Nat.add_assoc, prun, if_pos (h (f + k) (by omega) (by omega))]
    exact prun_on s f k (fun j h1 h2 => h j h1 (by omega))
/-- The numbers of a row of texts. -/
def numsL (most : Int) : List ByteArray → Option (List Int)
  | [] => some []
  | x :: r => match numOf x most with
    | none => none
    | some n => (numsL most r).map fun l => (n : Int) :: l
theorem numsL_snoc (most : Int) (x : ByteArray) : ∀ l : List ByteArray, numsL most (l ++ [x]) = match numsL most l with
    | none => none
    | some q => match numOf x most with
      | none => none
      | some n => some (q ++ [(n : Int)])
  | [] => by
    rw [List.nil_append, numsL, numsL]
    cases numOf x most <;> rfl
  | y :: l => by
    rw [List.cons_append, numsL, numsL, numsL_snoc most x l]
    cases numOf y most with
    | none => rfl
    | some m =>
      cases numsL most l with
      | none => rfl
      | some q =>
        cases numOf x most with
        | none => rfl
        | some n => rfl
theorem numsL_pre (most : Int) {a b : List ByteArray} (h : a <+: b) (ha : numsL most a = none) : numsL most b = none := by
  obtain ⟨t, rfl⟩ := h
  induction a with
  | nil => cases ha
  | cons x a ih =>
    rw [List.cons_append, numsL]
    rw [numsL] at ha
    cases hx : numOf x most with
    | none => rfl
    | some n =>
      rw [hx] at ha
      simp only [Option.map_eq_none_iff] at ha
      simp only []
      rw [ih ha]; rfl
theorem nsrun_is (s : ByteArray) (most : Int) : ∀ i, nsrun s most i = (numsL most (prun s i).1).map fun l => (l, (prun s i).2)
  | 0 => rfl
  | i + 1 => by
    rw [nsrun, nsrun_is s most i]
    by_cases h : i < s.size ∧ byteAt s i ≠ 44
    · rw [prun, if_pos h]
      cases numsL most (prun s i).1 with
      | none => rfl
      | some l => simp only [Option.map_some, if_pos h]
    · rw [prun, if_neg h, numsL_snoc]
      cases numsL most (prun s i).1 with
      | none => rfl
      | some l =>
        simp only [Option.map_some, if_neg h]
        cases numOf (s.extract (prun s i).2 i) most with
        | none => rfl
        | some n => rfl
theorem numsOf_is (s : ByteArray) (most : Int) : numsOf s most = numsL most (pieces s) := by
  unfold numsOf pieces
  rw [nsrun_is]
  cases numsL most (prun s (s.size + 1)).1 with
  | none => rfl
  | some l => rfl
theorem ex_ex (s : ByteArray) (f i k : Nat) (hk : f + k ≤ s.size) : (s.extract f s.size).extract i k = s.extract (f + i) (f + k) := by
  apply ByteArray.ext
  rw [ByteArray.data_extract, ByteArray.data_extract, ByteArray.data_extract, Array.extract_extract]
  congr 1
  have : s.data.size = s.size := rfl
  omega
theorem byteAt_ex (s : ByteArray) (f : Nat) {j : Nat} (hj : f + j < s.size) : byteAt (s.extract f s.size) j = byteAt s (f + j) := by
  have h1 : j < (s.extract f s.size).size := by rw [ByteArray.size_extract]; omega
  rw [(byteAt_in _ h1).2, (byteAt_in s hj).2]
  congr 1
  exact ByteArray.getElem_extract ..
/-- A comma further. -/
theorem piece_step (s : ByteArray) {f i : Nat} (hf : (prun s f).2 = f) (hle : f ≤ s.size) (h : FirstByte (s.extract f s.size) 44 i) :
    f + i + 1 ≤ s.size ∧ prun s (f + i + 1) = ((prun s f).1 ++ [(s.extract f s.size).extract 0 i], f + i + 1) ∧ (s.extract f s.size).extract (i + 1) (s.extract f s.size).size = s.extract (f + i + 1) s.size := by
  obtain ⟨h1, h2, h3⟩ := h
  have hsz : (s.extract f s.size).size = s.size - f := by rw [ByteArray.size_extract]; omega
  rw [hsz] at h1
  refine ⟨by omega, ?_, ?_⟩
  · rw [prun, if_neg, prun_on s f i, hf, ex_ex s f 0 i (by omega)]
    · rfl
    · intro j a b
      refine ⟨by omega, ?_⟩
      have := h3 (j - f) (by omega)
      rw [byteAt_ex s f (by omega)] at this
      rwa [show f + (j - f) = j by omega] at this
    · rintro ⟨a, b⟩
      rw [byteAt_ex s f (by omega)] at h2
      exact b h2
  · rw [hsz, ex_ex s f (i + 1) (s.size - f) (by omega)]
    congr 1
    omega
theorem piece_last (s : ByteArray) {f : Nat} (hf : (prun s f).2 = f) (hle : f ≤ s.size) (h : NoByte (s.extract f s.size) 44) : pieces s = (prun s f).1 ++ [s.extract f s.size] := by
  have hsz : (s.extract f s.size).size = s.size - f := by rw [ByteArray.size_extract]; omega
  have e : prun s s.size = prun s f := by
    have := prun_on s f (s.size - f) (fun j a b => ⟨by omega, ?_⟩)
    · rwa [show f + (s.size - f) = s.size by omega] at this
    · have := h (j - f) (by rw [hsz]; omega)
      rw [byteAt_ex s f (by omega)] at this
      rwa [show f + (j - f) = j by omega] at this
  unfold pieces
  rw [prun, if_neg (by omega), e, hf]
end Go.Proofs.YtlpffgmfgkleiaaGreatDoor

/-
  DERIVED: THE SHELF's CONTRACTS AT THIS DUMP, IN PLAIN WORDS (tools/lay-plain.mjs out of 'TryzShelf.lean', which tools/lay-shelf.mjs wrote): THE SAME DECLARATIONS UNDER THE SAME NAMES: 'import', 'namespace', 'open', 'def', 'theorem' AND NOTHING ELSE: no command of the shelf's: FOR A HAND-IN. Each laying: the table of numbers ('.._ren') and one theorem, a field a fact of the dump's own or the kernel's comparison; each contract: ONE APPLICATION.
-/
namespace Go.Proofs
open Go.Shelf
def Tryz.lays169_ren : Go.Shelf.Ren := ⟨fun | 169 => 29 | n => n, fun | 70 => 68 | 9 => 9 | 0 => 0 | 72 => 71 | 37 => 69 | 127 => 111 | 3 => 3 | 5 => 5 | n => n, fun | n => n⟩
theorem Tryz.lays169 : Go.Proofs.Lays.n169 Tryz.prog Tryz.lays169_ren := {
  mixed := by kernel_rfl
  f169 := Tryz.func29.trans (congrArg some (by kernel_rfl))
  t0 := Tryz.underlying0
  a0 := Tryz.isAgg0
  z0 := Tryz.sizeOf0
  v0 := Tryz.zeroValue0
  t3 := Tryz.underlying3
  a3 := Tryz.isAgg3
  z3 := Tryz.sizeOf3
  v3 := Tryz.zeroValue3
  t9 := Tryz.underlying9
  a9 := Tryz.isAgg9
  z9 := Tryz.sizeOf9
  v9 := Tryz.zeroValue9
  t37 := Tryz.underlying69
  a37 := Tryz.isAgg69
  z37 := Tryz.sizeOf69
  v37 := Tryz.zeroValue69
  t70 := Tryz.underlying68
  a70 := Tryz.isAgg68
  z70 := Tryz.sizeOf68
  v70 := Tryz.zeroValue68
  t72 := Tryz.underlying71
  a72 := Tryz.isAgg71
  z72 := Tryz.sizeOf71
  v72 := Tryz.zeroValue71
  t127 := Tryz.underlying111
  a127 := Tryz.isAgg111
  z127 := Tryz.sizeOf111
  v127 := Tryz.zeroValue111 }
theorem Tryz.Builder_Extra_169 : Builder.Extra Tryz.prog Tryz.lays169_ren := {
  sizeBuilder := by kernel_rfl
  liesBuilder := by kernel_rfl
  t5 := Tryz.underlying5
  a5 := Tryz.isAgg5
  z5 := Tryz.sizeOf5
  v5 := Tryz.zeroValue5
  infoByte := by kernel_rfl
  cellsByte := by kernel_rfl
  sizeByte := by kernel_rfl
  neB5 := by decide }
def Tryz.lays156_ren : Go.Shelf.Ren := ⟨fun | 156 => 19 | 165 => 41 | 166 => 28 | 169 => 29 | 240 => 56 | 241 => 62 | 276 => 74 | 277 => 80 | n => n, fun | 31 => 49 | 9 => 9 | 3 => 3 | 4 => 4 | 0 => 0 | 20 => 20 | 72 => 71 | 76 => 74 | 70 => 68 | 37 => 69 | 75 => 73 | 127 => 111 | 164 => 138 | 5 => 5 | 80 => 76 | n => n, fun | n => n⟩
theorem Tryz.lays156 : Go.Proofs.Lays.n156 Tryz.prog Tryz.lays156_ren := {
  mixed := by kernel_rfl
  f156 := Tryz.func19.trans (congrArg some (by kernel_rfl))
  f165 := Tryz.func41.trans (congrArg some (by kernel_rfl))
  f166 := Tryz.func28.trans (congrArg some (by kernel_rfl))
  f169 := Tryz.func29.trans (congrArg some (by kernel_rfl))
  f240 := Tryz.func56.trans (congrArg some (by kernel_rfl))
  f241 := Tryz.func62.trans (congrArg some (by kernel_rfl))
  f276 := Tryz.func74.trans (congrArg some (by kernel_rfl))
  f277 := Tryz.func80.trans (congrArg some (by kernel_rfl))
  t0 := Tryz.underlying0
  a0 := Tryz.isAgg0
  z0 := Tryz.sizeOf0
  v0 := Tryz.zeroValue0
  t3 := Tryz.underlying3
  a3 := Tryz.isAgg3
  z3 := Tryz.sizeOf3
  v3 := Tryz.zeroValue3
  t4 := Tryz.underlying4
  a4 := Tryz.isAgg4
  z4 := Tryz.sizeOf4
  v4 := Tryz.zeroValue4
  t9 := Tryz.underlying9
  a9 := Tryz.isAgg9
  z9 := Tryz.sizeOf9
  v9 := Tryz.zeroValue9
  t20 := Tryz.underlying20
  a20 := Tryz.isAgg20
  z20 := Tryz.sizeOf20
  v20 := Tryz.zeroValue20
  t31 := Tryz.underlying49
  a31 := Tryz.isAgg49
  z31 := Tryz.sizeOf49
  v31 := Tryz.zeroValue49
  t37 := Tryz.underlying69
  a37 := Tryz.isAgg69
  z37 := Tryz.sizeOf69
  v37 := Tryz.zeroValue69
  t70 := Tryz.underlying68
  a70 := Tryz.isAgg68
  z70 := Tryz.sizeOf68
  v70 := Tryz.zeroValue68
  t72 := Tryz.underlying71
  a72 := Tryz.isAgg71
  z72 := Tryz.sizeOf71
  v72 := Tryz.zeroValue71
  t75 := Tryz.underlying73
  a75 := Tryz.isAgg73
  z75 := Tryz.sizeOf73
  v75 := Tryz.zeroValue73
  t76 := Tryz.underlying74
  a76 := Tryz.isAgg74
  z76 := Tryz.sizeOf74
  v76 := Tryz.zeroValue74
  t127 := Tryz.underlying111
  a127 := Tryz.isAgg111
  z127 := Tryz.sizeOf111
  v127 := Tryz.zeroValue111
  t164 := Tryz.underlying138
  a164 := Tryz.isAgg138
  z164 := Tryz.sizeOf138
  v164 := Tryz.zeroValue138 }
theorem Tryz.Builder_Extra_156 : Builder.Extra Tryz.prog Tryz.lays156_ren := {
  sizeBuilder := by kernel_rfl
  liesBuilder := by kernel_rfl
  t5 := Tryz.underlying5
  a5 := Tryz.isAgg5
  z5 := Tryz.sizeOf5
  v5 := Tryz.zeroValue5
  infoByte := by kernel_rfl
  cellsByte := by kernel_rfl
  sizeByte := by kernel_rfl
  neB5 := by decide }
open Go.RowKit in
/-- No element: the empty string; the world is as it was. (Whatever the slice's address and capacity: a nil slice too.) (LAID: no walk: one application.) -/
theorem Tryz.strings_Join_none (a : Option Addr) (c : Nat) (sep : ByteArray) (w : World) :
    Calls Tryz.prog 19 #[.slice a 0 c, .string sep] w fun e w' => e = .returned (.string ⟨#[]⟩) ∧ w' = w := Any.strings_Join_none Tryz.lays156 Tryz.Builder_Extra_156 a c sep w
open Go.RowKit in
/-- strings.Join: "Join concatenates the elements of its first argument to create a single string. The separator string sep is placed between elements in the resulting string.": HOWEVER MANY ELEMENTS. Below the heap's end the world is as it was. (LAID: no walk: one application.) -/
theorem Tryz.strings_Join (bk o c : Nat) (xs : List ByteArray) (sep : ByteArray) (w : World) (hcells : ∀ (j : Nat) x, xs[j]? = some x → w.cell? ⟨bk, o + j, none⟩ = some (.string x)) (hbk : bk < w.heap.size) (hN : xs.length ≤ 140737488355328) (hcap : xs.length ≤ c) (hlen : (Lib.join (xs.map (·.data.toList)) sep.data.toList).length ≤ 140737488355328) :
    Calls Tryz.prog 19 #[.slice (some ⟨bk, o, none⟩) xs.length c, .string sep] w fun e w' => e = .returned (.string ⟨(Lib.join (xs.map (·.data.toList)) sep.data.toList).toArray⟩) ∧ Below w.heap.size w w' := Any.strings_Join Tryz.lays156 Tryz.Builder_Extra_156 bk o c xs sep w hcells hbk hN hcap hlen
open Go.RowKit in
/-- (*strings.Builder).String: "String returns the accumulated string.": WHATEVER THE BUILDER HOLDS; THE FORM '_k': OVER 'Lib.IsBuilderF' (a builder that 'String()' may have read), AND WITH THE FRAME THAT REACHES ABOVE THE BUILDER: 'Lib.OthersKept': every block that is not b and is no row of uint8's stands as it stood: the iterator of a range among them. (LAID: no walk: one application.) -/
theorem Tryz.Builder_String_any_k (B b : Nat) (l : List UInt8) (w : World) (h : Lib.IsBuilderF 71 5 B b (Lib.byteCells l) w) (hBw : B ≤ w.heap.size) :
    Calls Tryz.prog 29 #[.pointer (some ⟨b, 0, none⟩)] w fun e w' => e = .returned (.string ⟨l.toArray⟩) ∧ (Lib.IsBuilderF 71 5 B b (Lib.byteCells l) w' ∧ Below B w w' ∧ Lib.OthersKept 5 (some b) w w') := Any.Builder_String_any_k Tryz.lays169 Tryz.Builder_Extra_169 B b l w h hBw
def Tryz.laysM173_ren : Go.Shelf.Ren := ⟨fun | 173 => 39 | 246 => 61 | 283 => 76 | 284 => 77 | 285 => 78 | 286 => 79 | 129 => 96 | 317 => 95 | 318 => 97 | 319 => 98 | 320 => 99 | 337 => 102 | 338 => 103 | n => n, fun | 2 => 2 | 3 => 3 | 9 => 9 | 4 => 4 | 171 => 144 | 0 => 0 | 53 => 89 | 37 => 69 | 5 => 5 | 173 => 147 | 212 => 160 | 51 => 161 | 20 => 20 | 213 => 162 | 46 => 119 | 232 => 169 | 233 => 170 | n => n, fun | 17 => 0 | 18 => 2 | 19 => 3 | n => n⟩
theorem Tryz.laysM173 : Go.Proofs.LaysM.n173 Tryz.prog Tryz.laysM173_ren := {
  mixed := by kernel_rfl
  f129 := Tryz.func96.trans (congrArg some (by kernel_rfl))
  f173 := Tryz.func39.trans (congrArg some (by kernel_rfl))
  f246 := Tryz.func61.trans (congrArg some (by kernel_rfl))
  f283 := Tryz.func76.trans (congrArg some (by kernel_rfl))
  f284 := Tryz.func77.trans (congrArg some (by kernel_rfl))
  f285 := Tryz.func78.trans (congrArg some (by kernel_rfl))
  f286 := Tryz.func79.trans (congrArg some (by kernel_rfl))
  f317 := Tryz.func95.trans (congrArg some (by kernel_rfl))
  f318 := Tryz.func97.trans (congrArg some (by kernel_rfl))
  f319 := Tryz.func98.trans (congrArg some (by kernel_rfl))
  f320 := Tryz.func99.trans (congrArg some (by kernel_rfl))
  f337 := Tryz.func102.trans (congrArg some (by kernel_rfl))
  f338 := Tryz.func103.trans (congrArg some (by kernel_rfl))
  t0 := Tryz.underlying0
  a0 := Tryz.isAgg0
  z0 := Tryz.sizeOf0
  v0 := Tryz.zeroValue0
  t2 := Tryz.underlying2
  a2 := Tryz.isAgg2
  z2 := Tryz.sizeOf2
  v2 := Tryz.zeroValue2
  t3 := Tryz.underlying3
  a3 := Tryz.isAgg3
  z3 := Tryz.sizeOf3
  v3 := Tryz.zeroValue3
  t4 := Tryz.underlying4
  a4 := Tryz.isAgg4
  z4 := Tryz.sizeOf4
  v4 := Tryz.zeroValue4
  t5 := Tryz.underlying5
  a5 := Tryz.isAgg5
  z5 := Tryz.sizeOf5
  v5 := Tryz.zeroValue5
  t9 := Tryz.underlying9
  a9 := Tryz.isAgg9
  z9 := Tryz.sizeOf9
  v9 := Tryz.zeroValue9
  t20 := Tryz.underlying20
  a20 := Tryz.isAgg20
  z20 := Tryz.sizeOf20
  v20 := Tryz.zeroValue20
  t37 := Tryz.underlying69
  a37 := Tryz.isAgg69
  z37 := Tryz.sizeOf69
  v37 := Tryz.zeroValue69
  t46 := Tryz.underlying119
  a46 := Tryz.isAgg119
  z46 := Tryz.sizeOf119
  v46 := Tryz.zeroValue119
  t51 := Tryz.underlying161
  a51 := Tryz.isAgg161
  z51 := Tryz.sizeOf161
  v51 := Tryz.zeroValue161
  t53 := Tryz.underlying89
  a53 := Tryz.isAgg89
  z53 := Tryz.sizeOf89
  v53 := Tryz.zeroValue89
  t171 := Tryz.underlying144
  a171 := Tryz.isAgg144
  z171 := Tryz.sizeOf144
  v171 := Tryz.zeroValue144
  t173 := Tryz.underlying147
  a173 := Tryz.isAgg147
  z173 := Tryz.sizeOf147
  v173 := Tryz.zeroValue147
  t212 := Tryz.underlying160
  a212 := Tryz.isAgg160
  z212 := Tryz.sizeOf160
  v212 := Tryz.zeroValue160
  t213 := Tryz.underlying162
  a213 := Tryz.isAgg162
  z213 := Tryz.sizeOf162
  t232 := Tryz.underlying169
  a232 := Tryz.isAgg169
  z232 := Tryz.sizeOf169
  v232 := Tryz.zeroValue169
  t233 := Tryz.underlying170
  a233 := Tryz.isAgg170
  z233 := Tryz.sizeOf170
  v233 := Tryz.zeroValue170
  g17 := by kernel_rfl
  g18 := by kernel_rfl
  g19 := by kernel_rfl
  i0 := by kernel_rfl
  i2 := by kernel_rfl
  i3 := by kernel_rfl
  i4 := by kernel_rfl
  i5 := by kernel_rfl
  i9 := by kernel_rfl
  i20 := by kernel_rfl
  i37 := by kernel_rfl
  i46 := by kernel_rfl
  i51 := by kernel_rfl
  i53 := by kernel_rfl
  i171 := by kernel_rfl
  i173 := by kernel_rfl
  i212 := by kernel_rfl
  i232 := by kernel_rfl
  i233 := by kernel_rfl
  m17 := by kernel_rfl
  m18 := by kernel_rfl
  m19 := by kernel_rfl }
open Go.RowKit Go.Sort Go.Lib in
/-- strconv.FormatInt: "FormatInt returns the string representation of i in the given base": AT BASE 10: i's decimal numeral, for every int64. (LAID: no walk: one application.) -/
theorem Tryz.strconv_FormatInt_10 (n : Int) (h0 : -9223372036854775808 ≤ n) (h1 : n ≤ 9223372036854775807) (w : World) (htab : Lib.TabIs Tryz.prog w "internal/strconv.uint64pow10" .u64 Lib.pow10Tab) :
    Calls Tryz.prog 39 #[.int .i64 n, .int .i64 10] w fun e w' => e = .returned (.string ⟨(Lib.itoa n).toArray⟩) ∧ ∃ k os, w' = grow (w.drewN k) os := Any.strconv_FormatInt_10 Tryz.laysM173 n h0 h1 w htab
def Tryz.lays173_ren : Go.Shelf.Ren := ⟨fun | 173 => 39 | 246 => 61 | 283 => 76 | 284 => 77 | 285 => 78 | 286 => 79 | 129 => 96 | 317 => 95 | 318 => 97 | 319 => 98 | 320 => 99 | 337 => 102 | 338 => 103 | n => n, fun | 2 => 2 | 3 => 3 | 9 => 9 | 4 => 4 | 171 => 144 | 0 => 0 | 53 => 89 | 37 => 69 | 5 => 5 | 173 => 147 | 212 => 160 | 51 => 161 | 20 => 20 | 213 => 162 | 46 => 119 | 232 => 169 | 233 => 170 | n => n, fun | 17 => 0 | 18 => 2 | 19 => 3 | n => n⟩
theorem Tryz.lays173 : Go.Proofs.Lays.n173 Tryz.prog Tryz.lays173_ren := {
  mixed := by kernel_rfl
  f129 := Tryz.func96.trans (congrArg some (by kernel_rfl))
  f173 := Tryz.func39.trans (congrArg some (by kernel_rfl))
  f246 := Tryz.func61.trans (congrArg some (by kernel_rfl))
  f283 := Tryz.func76.trans (congrArg some (by kernel_rfl))
  f284 := Tryz.func77.trans (congrArg some (by kernel_rfl))
  f285 := Tryz.func78.trans (congrArg some (by kernel_rfl))
  f286 := Tryz.func79.trans (congrArg some (by kernel_rfl))
  f317 := Tryz.func95.trans (congrArg some (by kernel_rfl))
  f318 := Tryz.func97.trans (congrArg some (by kernel_rfl))
  f319 := Tryz.func98.trans (congrArg some (by kernel_rfl))
  f320 := Tryz.func99.trans (congrArg some (by kernel_rfl))
  f337 := Tryz.func102.trans (congrArg some (by kernel_rfl))
  f338 := Tryz.func103.trans (congrArg some (by kernel_rfl))
  t0 := Tryz.underlying0
  a0 := Tryz.isAgg0
  z0 := Tryz.sizeOf0
  v0 := Tryz.zeroValue0
  t2 := Tryz.underlying2
  a2 := Tryz.isAgg2
  z2 := Tryz.sizeOf2
  v2 := Tryz.zeroValue2
  t3 := Tryz.underlying3
  a3 := Tryz.isAgg3
  z3 := Tryz.sizeOf3
  v3 := Tryz.zeroValue3
  t4 := Tryz.underlying4
  a4 := Tryz.isAgg4
  z4 := Tryz.sizeOf4
  v4 := Tryz.zeroValue4
  t5 := Tryz.underlying5
  a5 := Tryz.isAgg5
  z5 := Tryz.sizeOf5
  v5 := Tryz.zeroValue5
  t9 := Tryz.underlying9
  a9 := Tryz.isAgg9
  z9 := Tryz.sizeOf9
  v9 := Tryz.zeroValue9
  t20 := Tryz.underlying20
  a20 := Tryz.isAgg20
  z20 := Tryz.sizeOf20
  v20 := Tryz.zeroValue20
  t37 := Tryz.underlying69
  a37 := Tryz.isAgg69
  z37 := Tryz.sizeOf69
  v37 := Tryz.zeroValue69
  t46 := Tryz.underlying119
  a46 := Tryz.isAgg119
  z46 := Tryz.sizeOf119
  v46 := Tryz.zeroValue119
  t51 := Tryz.underlying161
  a51 := Tryz.isAgg161
  z51 := Tryz.sizeOf161
  v51 := Tryz.zeroValue161
  t53 := Tryz.underlying89
  a53 := Tryz.isAgg89
  z53 := Tryz.sizeOf89
  v53 := Tryz.zeroValue89
  t171 := Tryz.underlying144
  a171 := Tryz.isAgg144
  z171 := Tryz.sizeOf144
  v171 := Tryz.zeroValue144
  t173 := Tryz.underlying147
  a173 := Tryz.isAgg147
  z173 := Tryz.sizeOf147
  v173 := Tryz.zeroValue147
  t212 := Tryz.underlying160
  a212 := Tryz.isAgg160
  z212 := Tryz.sizeOf160
  v212 := Tryz.zeroValue160
  t213 := Tryz.underlying162
  a213 := Tryz.isAgg162
  z213 := Tryz.sizeOf162
  t232 := Tryz.underlying169
  a232 := Tryz.isAgg169
  z232 := Tryz.sizeOf169
  v232 := Tryz.zeroValue169
  t233 := Tryz.underlying170
  a233 := Tryz.isAgg170
  z233 := Tryz.sizeOf170
  v233 := Tryz.zeroValue170
  g17 := by kernel_rfl
  g18 := by kernel_rfl
  g19 := by kernel_rfl }
open Go.RowKit Go.Sort Go.Lib in
/-- THE ROAD WITHOUT THE TABLE: 0 <= i < 100. (LAID: no walk: one application.) -/
theorem Tryz.strconv_FormatInt_10_small (i : Nat) (hi : i < 100) (w : World) :
    Calls Tryz.prog 39 #[.int .i64 i, .int .i64 10] w fun e w' => e = .returned (.string ⟨(Lib.decDigits i).toArray⟩) ∧ w' = w := Any.strconv_FormatInt_10_small Tryz.lays173 i hi w
def Tryz.lays143_ren : Go.Shelf.Ren := ⟨fun | 143 => 109 | 219 => 106 | 217 => 110 | 225 => 111 | 224 => 112 | 267 => 113 | 266 => 115 | 314 => 116 | n => n, fun | 9 => 9 | 3 => 3 | 4 => 4 | 5 => 5 | 46 => 119 | 146 => 175 | 51 => 161 | n => n, fun | 1 => 1 | n => n⟩
theorem Tryz.lays143 : Go.Proofs.Lays.n143 Tryz.prog Tryz.lays143_ren := {
  mixed := by kernel_rfl
  f143 := Tryz.func109.trans (congrArg some (by kernel_rfl))
  f217 := Tryz.func110.trans (congrArg some (by kernel_rfl))
  f219 := Tryz.func106.trans (congrArg some (by kernel_rfl))
  f224 := Tryz.func112.trans (congrArg some (by kernel_rfl))
  f225 := Tryz.func111.trans (congrArg some (by kernel_rfl))
  f266 := Tryz.func115.trans (congrArg some (by kernel_rfl))
  f267 := Tryz.func113.trans (congrArg some (by kernel_rfl))
  f314 := Tryz.func116.trans (congrArg some (by kernel_rfl))
  t3 := Tryz.underlying3
  a3 := Tryz.isAgg3
  z3 := Tryz.sizeOf3
  v3 := Tryz.zeroValue3
  t4 := Tryz.underlying4
  a4 := Tryz.isAgg4
  z4 := Tryz.sizeOf4
  v4 := Tryz.zeroValue4
  t5 := Tryz.underlying5
  a5 := Tryz.isAgg5
  z5 := Tryz.sizeOf5
  v5 := Tryz.zeroValue5
  t9 := Tryz.underlying9
  a9 := Tryz.isAgg9
  z9 := Tryz.sizeOf9
  v9 := Tryz.zeroValue9
  t46 := Tryz.underlying119
  a46 := Tryz.isAgg119
  z46 := Tryz.sizeOf119
  v46 := Tryz.zeroValue119
  t51 := Tryz.underlying161
  a51 := Tryz.isAgg161
  z51 := Tryz.sizeOf161
  v51 := Tryz.zeroValue161
  t146 := Tryz.underlying175
  a146 := Tryz.isAgg175
  z146 := Tryz.sizeOf175
  v146 := Tryz.zeroValue175
  g1 := by kernel_rfl }
open Go.RowKit Go.Lib in
/-- strings.Index: "Index returns the index of the first instance of substr in s, or -1 if substr is not present in s.": AT A substr OF ONE BYTE c: IT RETURNS 'Lib.indexByte s c'; the world is as it was. (LAID: no walk: one application.) -/
theorem Tryz.strings_Index_one (s : ByteArray) (c : UInt8) (w : World) :
    Calls Tryz.prog 109 #[.string s, .string ⟨#[c]⟩] w fun e w' => e = .returned (.int .i64 (Lib.indexByte s.data.toList c)) ∧ w' = w := Any.strings_Index_one Tryz.lays143 s c w
end Go.Proofs
