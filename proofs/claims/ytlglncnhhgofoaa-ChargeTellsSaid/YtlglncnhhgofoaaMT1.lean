/- Texts of this claim, put together: FR1, FR2, FR3, KW25, KW26, KW30, FR4, FMem, FW6. -/
import Derived.Test.YtlglncnhhgofoaaM10
import Derived.Deep.RegionHeld3
import Derived.StillTailTactics
import Derived.Deep.CutBlock
import Derived.Deep.CutRange
import Derived.Deep.DeepCutAuto
import Derived.Laws.CopyRow
set_option linter.unusedVariables false
set_option linter.unusedSimpArgs false

/-
  The walks over the document's ticks of a task: which sets they use.
-/
namespace Go.Proofs.Ytlglncnhhgofoaa
open Go.RowKit Go.Maps

/-- One turn is enough. -/
theorem inP_turn (us : List Int) (a : Nat) {b : Nat} (h : a + us.length ≤ b) : inP us a (a + us.length) = inP us a b := by
  funext x
  rcases Nat.eq_zero_or_pos us.length with h0 | h0
  · obtain rfl := List.length_eq_zero_iff.1 h0
    rw [inP_nil, inP_nil]
  apply bool_ext
  rw [inP_iff, inP_iff]
  constructor
  · rintro ⟨k, h1, h2, e⟩; exact ⟨k, h1, by omega, e⟩
  · rintro ⟨k, h1, h2, e⟩
    have h3 := Nat.mod_lt (k - a) h0
    have h4 := Nat.div_add_mod (k - a) us.length
    refine ⟨a + (k - a) % us.length, by omega, by omega, ?_⟩
    rw [← e]
    apply useI_mod
    rw [show k = a + (k - a) % us.length + us.length * ((k - a) / us.length) by omega]
    rw [show a + (a + (k - a) % us.length + us.length * ((k - a) / us.length) - a) % us.length = a + ((k - a) % us.length + us.length * ((k - a) / us.length)) % us.length by congr 2; omega]
    rw [Nat.add_mul_mod_self_left, Nat.add_mul_mod_self_left, Nat.mod_mod]

set_option maxRecDepth 100000 in
set_option maxHeartbeats 4000000 in
theorem rmay_any (T : TV) (hT : l_Told T) (w : World) : Calls Try.prog 65 #[.agg #[.int .i64 T.id, .int .i64 T.c, .int .i64 T.d, .int .i64 T.t, .int .i64 T.p, .slice T.a1 T.ch.length T.c1, .slice T.a2 T.us.length T.c2]] w fun e w' => e = .returned (.bool (decide (T.us ≠ []))) ∧ Below w.heap.size w w' := by
  have h1 := hT.c1
  have h2 : T.c ≤ 1073741824 := hT.c30
  have h3 : (T.us.length : Int) ≤ 64 := by have := hT.n64; omega
  have d1 : decide (1 ≤ T.c) = true := decide_eq_true h1
  have d2 : decide (T.c ≤ 1073741824) = true := decide_eq_true h2
  have d3 : decide ((T.us.length : Int) ≤ 64) = true := decide_eq_true h3
  by_cases hu : T.us = []
  · rw [hu]
    have hl : ([] : List Int).length = 0 := rfl
    rw [hu] at h3 d3
    clear hT
    go_enter Try.func65, Try.ntmps65
    go_wp2_with fail
    go_ret
    exact ⟨by first | rfl | simp, (by repeat (first | exact Below.refl _ _ | (with_reducible assumption) | refine bw_alloc ?_ _ | refine bw_drew ?_))⟩
  · have hl : (1 : Int) ≤ (T.us.length : Int) := by have := List.length_pos_iff.2 hu; omega
    have d4 : decide (1 ≤ (T.us.length : Int)) = true := decide_eq_true hl
    have hd : decide (T.us ≠ []) = true := decide_eq_true hu
    rw [hd]
    clear hT hu hd
    generalize T.us.length = n at *
    go_enter Try.func65, Try.ntmps65
    go_wp2_with fail
    go_ret
    exact ⟨by first | rfl | (simp; omega), (by repeat (first | exact Below.refl _ _ | (with_reducible assumption) | refine bw_alloc ?_ _ | refine bw_drew ?_))⟩

/-- The boxes: a task, what comes back, what has been met. -/
structure TkAt (w : World) (T : TV) (p : Nat → Nat) (V : World) : Prop where
  low : Below w.heap.size w V
  tb : V.heap[w.heap.size]? = some (.cells #[.int .i64 T.id, .int .i64 T.c, .int .i64 T.d, .int .i64 T.t, .int .i64 T.p, .slice T.a1 T.ch.length T.c1, .slice T.a2 T.us.length T.c2] TT (0, 0))
  res : V.heap[w.heap.size + 1]? = some (.cells #[.int .u64 0, .int .u64 0, .int .u64 0, .int .u64 0] ST4 (0, 0))
  all : V.heap[w.heap.size + 2]? = some (.cells #[.int .u64 (p 0), .int .u64 (p 1), .int .u64 (p 2), .int .u64 (p 3)] ST4 (0, 0))
theorem TkAt.below {w V V' : World} {T : TV} {p : Nat → Nat} (h : TkAt w T p V) (hb : Below V.heap.size V V') : TkAt w T p V' := ⟨below_up h.low hb, kept_obj hb h.tb, kept_obj hb h.res, kept_obj hb h.all⟩
theorem TkAt.put {w V : World} {T : TV} {p : Nat → Nat} (h : TkAt w T p V) (y : Nat → Nat) : TkAt w T y ((((V.setCell ⟨w.heap.size + 2, 0, none⟩ (.int .u64 (y 0))).setCell ⟨w.heap.size + 2, 1, none⟩ (.int .u64 (y 1))).setCell ⟨w.heap.size + 2, 2, none⟩ (.int .u64 (y 2))).setCell ⟨w.heap.size + 2, 3, none⟩ (.int .u64 (y 3))) :=
  ⟨(((h.low.setCell (p := ⟨w.heap.size + 2, 0, none⟩) (by show _ ≤ _ + 2; omega) _).setCell (p := ⟨w.heap.size + 2, 1, none⟩) (by show _ ≤ _ + 2; omega) _).setCell (p := ⟨w.heap.size + 2, 2, none⟩) (by show _ ≤ _ + 2; omega) _).setCell (p := ⟨w.heap.size + 2, 3, none⟩) (by show _ ≤ _ + 2; omega) _,
    (set4_far (by omega) _ _ _ _).trans h.tb, (set4_far (by omega) _ _ _ _).trans h.res, Blk4.set (show Blk4 V (w.heap.size + 2) _ _ _ _ from h.all) (y 0) (y 1) (y 2) (y 3)⟩
theorem three_boxes (W : World) {N : Nat} (hN : W.heap.size = N) (c1 c2 c3 : Obj) : (((W.alloc c1).alloc c2).alloc c3).heap[N]? = some c1 ∧ (((W.alloc c1).alloc c2).alloc c3).heap[N + 1]? = some c2 ∧ (((W.alloc c1).alloc c2).alloc c3).heap[N + 2]? = some c3 := by
  obtain ⟨a1, a2⟩ := two_boxes W hN c1 c2
  have hb : Below ((W.alloc c1).alloc c2).heap.size ((W.alloc c1).alloc c2) (((W.alloc c1).alloc c2).alloc c3) := (by repeat (first | exact Below.refl _ _ | (with_reducible assumption) | refine bw_alloc ?_ _ | refine bw_drew ?_))
  have := heap_alloc_new ((W.alloc c1).alloc c2) c3
  rw [World.size_alloc, World.size_alloc, hN] at this
  exact ⟨kept_obj hb a1, kept_obj hb a2, this⟩

set_option maxRecDepth 100000 in
set_option maxHeartbeats 8000000 in
theorem ticks_any (T : TV) (hT : l_Told T) (hu : T.us ≠ []) (a b : Nat) (hab : a ≤ b) (hb30 : b ≤ 1073741824) (w : World) (hok : T.ok w) : Calls Try.prog 85 #[.agg #[.int .i64 T.id, .int .i64 T.c, .int .i64 T.d, .int .i64 T.t, .int .i64 T.p, .slice T.a1 T.ch.length T.c1, .slice T.a2 T.us.length T.c2], .int .i64 (a : Int), .int .i64 (b : Int)] w (SetBack (inP T.us a b) w) := by
  have HOK := Lib.hid hok
  obtain ⟨n, hN⟩ : ∃ n, T.us.length = n := ⟨_, rfl⟩
  have hn1 : 0 < n := by rw [← hN]; exact List.length_pos_iff.2 hu
  have hn64 : n ≤ 64 := by rw [← hN]; exact hT.n64
  have HL := Lib.hid hN
  have hnw : IntKind.i64.wrap (n : Int) = (n : Int) := IntWalk.i64_in _ (by omega)
  clear hok hu hT
  rw [hN]
  go_enter Try.func85, Try.ntmps85
  go_upto_region 2 with fail
  refine gen_world (TkAt w T (wd (inP T.us a (min (a + 0) b)))) ?_ ?_
  · obtain ⟨q0, q1, q2⟩ := three_boxes w rfl (.cells #[.int .i64 T.id, .int .i64 T.c, .int .i64 T.d, .int .i64 T.t, .int .i64 T.p, .slice T.a1 T.ch.length T.c1, .slice T.a2 T.us.length T.c2] TT) (.cells #[.int .u64 0, .int .u64 0, .int .u64 0, .int .u64 0] ST4) (.cells #[.int .u64 0, .int .u64 0, .int .u64 0, .int .u64 0] ST4)
    rw [hN] at q0 q1 q2
    refine ⟨(by repeat (first | exact Below.refl _ _ | (with_reducible assumption) | refine bw_alloc ?_ _ | refine bw_drew ?_)), by rw [hN]; exact q0, q1, ?_⟩
    rw [show min (a + 0) b = a by omega, inP_empty T.us (Nat.le_refl _), wd_none, wd_none, wd_none, wd_none]
    exact q2
  intro V hv
  have HV := Lib.hid hv
  have htb := hv.tb
  rw [hN] at htb
  have t6 : V.cell? ⟨w.heap.size, 6, none⟩ = some (.slice T.a2 n T.c2) := by rw [blk_cell htb]; rfl
  clear hv htb hN
  go_wp2
  go_loopw [9] (fun u wr => ∃ i : Nat, i ≤ n ∧ a + i ≤ max a b ∧ u = .int .i64 i ∧ Hid (TkAt w T (wd (inP T.us a (min (a + i) b))) wr)) (fun u _ => (n - intOf u).toNat)
  case atStart => exact ⟨0, Nat.zero_le _, by omega, rfl, HV⟩
  case round =>
    obtain ⟨i, hi, hia, rfl, HA⟩ := hrel
    clear HV t6
    have haw : IntKind.i64.wrap ((a : Int) + (i : Int)) = (a : Int) + (i : Int) := IntWalk.i64_in _ (by omega)
    by_cases hlt : i < n ∧ a + i < b
    · obtain ⟨h1, h2⟩ := hlt
      have h1' : (i : Int) < (n : Int) := by omega
      have h2' : (a : Int) + (i : Int) < (b : Int) := by omega
      obtain ⟨m, hm, hmn⟩ : ∃ m : Nat, (a + i) % n = m ∧ m < n := ⟨_, rfl, Nat.mod_lt _ hn1⟩
      have e2 : ((a : Int) + (i : Int)) % (n : Int) = (m : Int) := by rw [← hm]; simp
      have e1 : ((a : Int) + (i : Int)).tmod (n : Int) = (m : Int) := by rw [Int.tmod_eq_emod_of_nonneg (by omega)]; exact e2
      have c1 : ((n : Int) == 0) = false := by rw [beq_eq_false_iff_ne]; omega
      have c2 : ¬ (n : Int) = 0 := by omega
      have c3 : ¬ n = 0 := by omega
      obtain ⟨x, hx⟩ := nth_of HL.out hmn
      obtain ⟨gu, ou, ea, cx⟩ := ((HOK.out.below HA.out.low).two).at_ hx
      have hm0 : (0 : Int) ≤ (m : Int) := by omega
      have hmn' : (m : Int) < (n : Int) := by omega
      have hux : useI T.us (a + i) = x := by
        unfold useI
        rw [HL.out, hm, List.getD_eq_getElem?_getD, hx]; rfl
      have OC := Lib.hid (fun w => rwith_any (inP T.us a (min (a + i) b)) x w)
      have hnx : orP (inP T.us a (min (a + i) b)) (oneP x) = inP T.us a (min (a + (i + 1)) b) := by
        rw [show min (a + i) b = a + i by omega, show min (a + (i + 1)) b = a + i + 1 by omega, inP_next T.us (a + i) (by omega), hux]
      rw [hnx] at OC
      obtain ⟨p2, hp2⟩ : ∃ p2, wd (inP T.us a (min (a + (i + 1)) b)) = p2 := ⟨_, rfl⟩
      have HP2 := Lib.hid hp2
      rw [hp2] at OC
      obtain ⟨p, hp⟩ : ∃ p, wd (inP T.us a (min (a + i) b)) = p := ⟨_, rfl⟩
      rw [hp] at OC HA
      have MK : Hid (∀ w', Below wr.heap.size wr w' → (w'.cell? ⟨w.heap.size, 6, none⟩ = some (.slice (some ⟨gu, ou, none⟩) n T.c2) ∧ w'.cell? ⟨gu, ou + m, none⟩ = some (.int .i64 x) ∧ w'.cell? ⟨w.heap.size + 2, 0, none⟩ = some (.int .u64 (p 0)) ∧ w'.cell? ⟨w.heap.size + 2, 1, none⟩ = some (.int .u64 (p 1)) ∧ w'.cell? ⟨w.heap.size + 2, 2, none⟩ = some (.int .u64 (p 2)) ∧ w'.cell? ⟨w.heap.size + 2, 3, none⟩ = some (.int .u64 (p 3)))) := fun w' hb => by
        have x0 := kept_obj hb HA.out.tb
        have x1 := kept_obj hb HA.out.all
        rw [HL.out, ea] at x0
        exact ⟨by rw [blk_cell x0]; rfl, kept_cell hb cx, by rw [blk_cell x1]; rfl, by rw [blk_cell x1]; rfl, by rw [blk_cell x1]; rfl, by rw [blk_cell x1]; rfl⟩
      have hiw : IntKind.i64.wrap ((i : Int) + 1) = (i : Int) + 1 := IntWalk.i64_in _ (by omega)
      clear hp2 hp hnx hux hx hm ea
      go_upto_region 6 with fail
      obtain ⟨t6, cu, b0, b1, b2, b3⟩ := MK.out wr (Below.refl _ _)
      go_still_tail 10, (by kernel_rfl)
      go_wp2_with (go_at_call 39; (with_reducible refine (OC.out _).mono ?_); rintro e w2 ⟨rfl, b2⟩; have HB1 := Lib.hid (below_up (W := wr) (by repeat (first | exact Below.refl _ _ | (with_reducible assumption) | refine bw_alloc ?_ _ | refine bw_drew ?_)) b2); have HA4 := Lib.hid (HA.out.below HB1.out); clear b2; have a0 : w2.cell? ⟨w.heap.size + 2, 0, none⟩ = some (.int .u64 (p 0)) := (by rw [blk_cell HA4.out.all]; rfl); have a1 : w2.cell? ⟨w.heap.size + 2, 1, none⟩ = some (.int .u64 (p 1)) := (by rw [blk_cell HA4.out.all]; rfl); have a2 : w2.cell? ⟨w.heap.size + 2, 2, none⟩ = some (.int .u64 (p 2)) := (by rw [blk_cell HA4.out.all]; rfl); have a3 : w2.cell? ⟨w.heap.size + 2, 3, none⟩ = some (.int .u64 (p 3)) := (by rw [blk_cell HA4.out.all]; rfl); have f0 := blk_free HA4.out.all 0; have f1 := blk_free HA4.out.all 1; have f2 := blk_free HA4.out.all 2; have f3 := blk_free HA4.out.all 3)
      all_goals
        go_wp2
        go_roundw
        case rel => exact ⟨i + 1, by omega, by omega, by go_num, by rw [HP2.out]; exact HA4.out.put p2⟩
        case measure => simp [intOf]; omega
    · have HE : Hid (inP T.us a (min (a + i) b) = inP T.us a b) := by
        show _ = _
        rcases Nat.lt_or_ge (a + i) b with q | q
        · have hin : i = n := by omega
          rw [show min (a + i) b = a + i by omega, hin, ← HL.out]
          exact inP_turn T.us a (by rw [HL.out]; omega)
        · rw [show min (a + i) b = b by omega]
      have hres := HA.out.res
      have hall := HA.out.all
      rw [HE.out] at hall
      have hlow := HA.out.low
      obtain ⟨p, hp⟩ : ∃ p, wd (inP T.us a b) = p := ⟨_, rfl⟩
      have HP := Lib.hid hp
      rw [hp] at hall
      have a0 : wr.cell? ⟨w.heap.size + 2, 0, none⟩ = some (.int .u64 (p 0)) := by rw [blk_cell hall]; rfl
      have z0 : wr.cell? ⟨w.heap.size + 1, 0, none⟩ = some (.int .u64 0) := by rw [blk_cell hres]; rfl
      have f0 := blk_free hres 0
      have a1 : wr.cell? ⟨w.heap.size + 2, 1, none⟩ = some (.int .u64 (p 1)) := by rw [blk_cell hall]; rfl
      have z1 : wr.cell? ⟨w.heap.size + 1, 1, none⟩ = some (.int .u64 0) := by rw [blk_cell hres]; rfl
      have f1 := blk_free hres 1
      have a2 : wr.cell? ⟨w.heap.size + 2, 2, none⟩ = some (.int .u64 (p 2)) := by rw [blk_cell hall]; rfl
      have z2 : wr.cell? ⟨w.heap.size + 1, 2, none⟩ = some (.int .u64 0) := by rw [blk_cell hres]; rfl
      have f2 := blk_free hres 2
      have a3 : wr.cell? ⟨w.heap.size + 2, 3, none⟩ = some (.int .u64 (p 3)) := by rw [blk_cell hall]; rfl
      have z3 : wr.cell? ⟨w.heap.size + 1, 3, none⟩ = some (.int .u64 0) := by rw [blk_cell hres]; rfl
      have f3 := blk_free hres 3
      have HZ := Lib.hid (Blk4.set (show Blk4 wr (w.heap.size + 1) 0 0 0 0 from hres) (p 0) (p 1) (p 2) (p 3)).cells
      have HLOW : Hid (Below w.heap.size w ((((wr.setCell ⟨w.heap.size + 1, 0, none⟩ (.int .u64 (p 0))).setCell ⟨w.heap.size + 1, 1, none⟩ (.int .u64 (p 1))).setCell ⟨w.heap.size + 1, 2, none⟩ (.int .u64 (p 2))).setCell ⟨w.heap.size + 1, 3, none⟩ (.int .u64 (p 3)))) := below_set4 hlow (Nat.le_succ _) (p 0) (p 1) (p 2) (p 3)
      have HRES : Hid (SetBack (inP T.us a b) w (.returned (.agg #[.int .u64 (p 0), .int .u64 (p 1), .int .u64 (p 2), .int .u64 (p 3)])) ((((wr.setCell ⟨w.heap.size + 1, 0, none⟩ (.int .u64 (p 0))).setCell ⟨w.heap.size + 1, 1, none⟩ (.int .u64 (p 1))).setCell ⟨w.heap.size + 1, 2, none⟩ (.int .u64 (p 2))).setCell ⟨w.heap.size + 1, 3, none⟩ (.int .u64 (p 3)))) := ⟨by rw [HP.out], HLOW.out⟩
      have hcase : ¬ (i : Int) < (n : Int) ∨ ((i : Int) < (n : Int) ∧ ¬ (a : Int) + (i : Int) < (b : Int)) := by omega
      clear hres hall hlow hp HLOW hlt
      rcases hcase with q | ⟨q1, q2⟩
      all_goals
        go_wp2
        obtain ⟨y0, y1, y2, y3⟩ := HZ.out
        refine bodyPost_ret (v := .agg #[.int .u64 (p 0), .int .u64 (p 1), .int .u64 (p 2), .int .u64 (p 3)]) ?_ rfl HRES.out
        simp [results, Try.results85, go_sem, y0, y1, y2, y3]
end Go.Proofs.Ytlglncnhhgofoaa

/-
  The walks over the document's sets of a task: all, ahead of a place, behind it, useful there.
-/
namespace Go.Proofs.Ytlglncnhhgofoaa
open Go.RowKit Go.Maps

set_option maxRecDepth 100000 in
set_option maxHeartbeats 8000000 in
theorem rused_any (T : TV) (hT : l_Told T) (C : Nat) (hC : T.c = (C : Int)) (w : World) (hok : T.ok w) : Calls Try.prog 63 #[.agg #[.int .i64 T.id, .int .i64 T.c, .int .i64 T.d, .int .i64 T.t, .int .i64 T.p, .slice T.a1 T.ch.length T.c1, .slice T.a2 T.us.length T.c2]] w (SetBack (inP T.us 0 C) w) := by
  have hC30 : C ≤ 1073741824 := by have := hT.c30; omega
  have hC1 : 1 ≤ C := by have := hT.c1; omega
  have MC := Lib.hid (fun v => rmay_any T hT v)
  by_cases hu : T.us = []
  · have hd : decide (T.us ≠ []) = false := decide_eq_false (fun z => z hu)
    have hr : inP T.us 0 C = noneP := by funext x; rw [hu]; exact inP_nil _ _ x
    rw [hd] at MC
    rw [hr]
    unfold SetBack
    have hn := wd_none
    clear hT hok hu hd hr hC
    rw [hn 0, hn 1, hn 2, hn 3]
    go_enter Try.func63, Try.ntmps63
    go_upto_region 1 with fail
    obtain ⟨V0, hV0⟩ : ∃ V0, w.alloc (.cells #[.int .i64 T.id, .int .i64 T.c, .int .i64 T.d, .int .i64 T.t, .int .i64 T.p, .slice T.a1 T.ch.length T.c1, .slice T.a2 T.us.length T.c2] TT) = V0 := ⟨_, rfl⟩
    have hG : V0.heap.size = w.heap.size + 1 := by rw [← hV0, World.size_alloc]
    have HT0 : Hid (V0.heap[w.heap.size]? = some (.cells #[.int .i64 T.id, .int .i64 T.c, .int .i64 T.d, .int .i64 T.t, .int .i64 T.p, .slice T.a1 T.ch.length T.c1, .slice T.a2 T.us.length T.c2] TT (0, 0))) := by rw [← hV0]; exact heap_alloc_new w _
    have HLW : Hid (Below w.heap.size w V0) := by rw [← hV0]; exact (Below.refl _ _).alloc (Nat.le_refl _) _
    rw [hV0]
    refine gen_world (Zero4 (w.heap.size + 1) V0) (Zero4.new hG) ?_
    intro V kx
    clear hV0 hG
    have HZ := Lib.hid kx
    have MK : Hid (∀ w', Below (w.heap.size + 1) V0 w' → (w'.cell? ⟨w.heap.size, 0, none⟩ = some (.int .i64 T.id) ∧ w'.cell? ⟨w.heap.size, 1, none⟩ = some (.int .i64 T.c) ∧ w'.cell? ⟨w.heap.size, 2, none⟩ = some (.int .i64 T.d) ∧ w'.cell? ⟨w.heap.size, 3, none⟩ = some (.int .i64 T.t) ∧ w'.cell? ⟨w.heap.size, 4, none⟩ = some (.int .i64 T.p) ∧ w'.cell? ⟨w.heap.size, 5, none⟩ = some (.slice T.a1 T.ch.length T.c1) ∧ w'.cell? ⟨w.heap.size, 6, none⟩ = some (.slice T.a2 T.us.length T.c2))) := fun w' hb => by
      have x := kept_objB hb (Nat.lt_succ_self _) HT0.out
      exact ⟨by rw [blk_cell x]; rfl, by rw [blk_cell x]; rfl, by rw [blk_cell x]; rfl, by rw [blk_cell x]; rfl, by rw [blk_cell x]; rfl, by rw [blk_cell x]; rfl, by rw [blk_cell x]; rfl⟩
    obtain ⟨t0, t1, t2, t3, t4, t5, t6⟩ := MK.out _ HZ.out.low
    go_wp2_with (first | (go_at_call 65; (with_reducible refine (Calls.upZ (by first | (with_reducible assumption) | exact Zero4.drew (by with_reducible assumption)) (MC.out _)).mono ?_); rintro e wx ⟨rfl, kx⟩; obtain ⟨t0, t1, t2, t3, t4, t5, t6⟩ := MK.out _ kx.low; have z0 : wx.cell? ⟨w.heap.size + 1, 0, none⟩ = some (.int .u64 0) := (by rw [blk_cell kx.zer]; rfl); have z1 : wx.cell? ⟨w.heap.size + 1, 1, none⟩ = some (.int .u64 0) := (by rw [blk_cell kx.zer]; rfl); have z2 : wx.cell? ⟨w.heap.size + 1, 2, none⟩ = some (.int .u64 0) := (by rw [blk_cell kx.zer]; rfl); have z3 : wx.cell? ⟨w.heap.size + 1, 3, none⟩ = some (.int .u64 0) := (by rw [blk_cell kx.zer]; rfl); have f0 := blk_free kx.zer 0; have f1 := blk_free kx.zer 1; have f2 := blk_free kx.zer 2; have f3 := blk_free kx.zer 3))
    have hz := Blk4.set (show Blk4 wx (w.heap.size + 1) 0 0 0 0 from kx.zer) 0 0 0 0
    obtain ⟨y0, y1, y2, y3⟩ := hz.cells
    have e00 : ((0 : Nat) : Int) = 0 := rfl
    rw [e00] at y0 y1 y2 y3
    refine bodyPost_ret (v := .agg #[.int .u64 0, .int .u64 0, .int .u64 0, .int .u64 0]) ?_ rfl ⟨rfl, ?_⟩
    · simp [results, Try.results63, go_sem, y0, y1, y2, y3]
    · exact HLW.out.trans ((Below.setCell (p := ⟨w.heap.size + 1, 3, none⟩) (Below.setCell (p := ⟨w.heap.size + 1, 2, none⟩) (Below.setCell (p := ⟨w.heap.size + 1, 1, none⟩) (Below.setCell (p := ⟨w.heap.size + 1, 0, none⟩) kx.low (Nat.le_refl _) _) (Nat.le_refl _) _) (Nat.le_refl _) _) (Nat.le_refl _) _).mono (Nat.le_succ _))
  · have hd : decide (T.us ≠ []) = true := decide_eq_true hu
    rw [hd] at MC
    have TC := Lib.hid (fun v (hb : Below w.heap.size w v) => ticks_any T hT hu 0 C (Nat.zero_le _) hC30 v (hok.below hb))
    unfold SetBack at TC
    rw [hC]
    obtain ⟨P, hP⟩ : ∃ P, inP T.us 0 C = P := ⟨_, rfl⟩
    rw [hP] at TC ⊢
    have e0 : ((0 : Nat) : Int) = 0 := rfl
    rw [e0] at TC
    clear e0
    clear hT hok hu hd hP
    go_enter Try.func63, Try.ntmps63
    go_upto_region 1 with fail
    obtain ⟨V0, hV0⟩ : ∃ V0, w.alloc (.cells #[.int .i64 T.id, .int .i64 (C : Int), .int .i64 T.d, .int .i64 T.t, .int .i64 T.p, .slice T.a1 T.ch.length T.c1, .slice T.a2 T.us.length T.c2] TT) = V0 := ⟨_, rfl⟩
    have hG : V0.heap.size = w.heap.size + 1 := by rw [← hV0, World.size_alloc]
    have HT0 : Hid (V0.heap[w.heap.size]? = some (.cells #[.int .i64 T.id, .int .i64 (C : Int), .int .i64 T.d, .int .i64 T.t, .int .i64 T.p, .slice T.a1 T.ch.length T.c1, .slice T.a2 T.us.length T.c2] TT (0, 0))) := by rw [← hV0]; exact heap_alloc_new w _
    have HLW : Hid (Below w.heap.size w V0) := by rw [← hV0]; exact (Below.refl _ _).alloc (Nat.le_refl _) _
    rw [hV0]
    refine gen_world (Zero4 (w.heap.size + 1) V0) (Zero4.new hG) ?_
    intro V kx
    clear hV0 hG
    have HZ := Lib.hid kx
    have MK : Hid (∀ w', Below (w.heap.size + 1) V0 w' → (w'.cell? ⟨w.heap.size, 0, none⟩ = some (.int .i64 T.id) ∧ w'.cell? ⟨w.heap.size, 1, none⟩ = some (.int .i64 (C : Int)) ∧ w'.cell? ⟨w.heap.size, 2, none⟩ = some (.int .i64 T.d) ∧ w'.cell? ⟨w.heap.size, 3, none⟩ = some (.int .i64 T.t) ∧ w'.cell? ⟨w.heap.size, 4, none⟩ = some (.int .i64 T.p) ∧ w'.cell? ⟨w.heap.size, 5, none⟩ = some (.slice T.a1 T.ch.length T.c1) ∧ w'.cell? ⟨w.heap.size, 6, none⟩ = some (.slice T.a2 T.us.length T.c2))) := fun w' hb => by
      have x := kept_objB hb (Nat.lt_succ_self _) HT0.out
      exact ⟨by rw [blk_cell x]; rfl, by rw [blk_cell x]; rfl, by rw [blk_cell x]; rfl, by rw [blk_cell x]; rfl, by rw [blk_cell x]; rfl, by rw [blk_cell x]; rfl, by rw [blk_cell x]; rfl⟩
    obtain ⟨t0, t1, t2, t3, t4, t5, t6⟩ := MK.out _ HZ.out.low
    rw [hC] at TC MC
    go_wp2_with (first | (go_at_call 65; (with_reducible refine (Calls.upZ (by first | (with_reducible assumption) | exact Zero4.drew (by with_reducible assumption)) (MC.out _)).mono ?_); rintro e wx ⟨rfl, kx⟩; obtain ⟨t0, t1, t2, t3, t4, t5, t6⟩ := MK.out _ kx.low) | (go_at_call 85; (with_reducible refine (Calls.upZ (by first | (with_reducible assumption) | exact Zero4.drew (by with_reducible assumption)) (TC.out _ (HLW.out.trans (Below.mono (Zero4.low (G := w.heap.size + 1) (V0 := V0) (by first | (with_reducible assumption) | exact Zero4.drew (by with_reducible assumption))) (Nat.le_succ _))))).mono ?_); rintro e wx ⟨rfl, kx⟩; have z0 : wx.cell? ⟨w.heap.size + 1, 0, none⟩ = some (.int .u64 0) := (by rw [blk_cell kx.zer]; rfl); have z1 : wx.cell? ⟨w.heap.size + 1, 1, none⟩ = some (.int .u64 0) := (by rw [blk_cell kx.zer]; rfl); have z2 : wx.cell? ⟨w.heap.size + 1, 2, none⟩ = some (.int .u64 0) := (by rw [blk_cell kx.zer]; rfl); have z3 : wx.cell? ⟨w.heap.size + 1, 3, none⟩ = some (.int .u64 0) := (by rw [blk_cell kx.zer]; rfl); have f0 := blk_free kx.zer 0; have f1 := blk_free kx.zer 1; have f2 := blk_free kx.zer 2; have f3 := blk_free kx.zer 3))
    all_goals
      have hz := Blk4.set (show Blk4 wx (w.heap.size + 1) 0 0 0 0 from kx.zer) (wd P 0) (wd P 1) (wd P 2) (wd P 3)
      obtain ⟨y0, y1, y2, y3⟩ := hz.cells
      refine bodyPost_ret (v := .agg #[.int .u64 (wd P 0), .int .u64 (wd P 1), .int .u64 (wd P 2), .int .u64 (wd P 3)]) ?_ rfl ⟨rfl, ?_⟩
      · simp [results, Try.results63, go_sem, y0, y1, y2, y3]
      · exact HLW.out.trans ((Below.setCell (p := ⟨w.heap.size + 1, 3, none⟩) (Below.setCell (p := ⟨w.heap.size + 1, 2, none⟩) (Below.setCell (p := ⟨w.heap.size + 1, 1, none⟩) (Below.setCell (p := ⟨w.heap.size + 1, 0, none⟩) kx.low (Nat.le_refl _) _) (Nat.le_refl _) _) (Nat.le_refl _) _) (Nat.le_refl _) _).mono (Nat.le_succ _))

set_option maxRecDepth 100000 in
set_option maxHeartbeats 8000000 in
theorem rbefore_any (T : TV) (hT : l_Told T) (C p : Nat) (hC : T.c = (C : Int)) (h1 : 1 ≤ p) (h2 : p ≤ C) (w : World) (hok : T.ok w) : Calls Try.prog 87 #[.agg #[.int .i64 T.id, .int .i64 T.c, .int .i64 T.d, .int .i64 T.t, .int .i64 T.p, .slice T.a1 T.ch.length T.c1, .slice T.a2 T.us.length T.c2], .int .i64 (p : Int)] w (SetBack (inP T.us 0 p) w) := by
  have hC30 : C ≤ 1073741824 := by have := hT.c30; omega
  have hC1 : 1 ≤ C := by have := hT.c1; omega
  have MC := Lib.hid (fun v => rmay_any T hT v)
  by_cases hu : T.us = []
  · have hd : decide (T.us ≠ []) = false := decide_eq_false (fun z => z hu)
    have hr : inP T.us 0 p = noneP := by funext x; rw [hu]; exact inP_nil _ _ x
    rw [hd] at MC
    rw [hr]
    unfold SetBack
    have hn := wd_none
    clear hT hok hu hd hr hC
    rw [hn 0, hn 1, hn 2, hn 3]
    go_enter Try.func87, Try.ntmps87
    go_upto_region 1 with fail
    obtain ⟨V0, hV0⟩ : ∃ V0, w.alloc (.cells #[.int .i64 T.id, .int .i64 T.c, .int .i64 T.d, .int .i64 T.t, .int .i64 T.p, .slice T.a1 T.ch.length T.c1, .slice T.a2 T.us.length T.c2] TT) = V0 := ⟨_, rfl⟩
    have hG : V0.heap.size = w.heap.size + 1 := by rw [← hV0, World.size_alloc]
    have HT0 : Hid (V0.heap[w.heap.size]? = some (.cells #[.int .i64 T.id, .int .i64 T.c, .int .i64 T.d, .int .i64 T.t, .int .i64 T.p, .slice T.a1 T.ch.length T.c1, .slice T.a2 T.us.length T.c2] TT (0, 0))) := by rw [← hV0]; exact heap_alloc_new w _
    have HLW : Hid (Below w.heap.size w V0) := by rw [← hV0]; exact (Below.refl _ _).alloc (Nat.le_refl _) _
    rw [hV0]
    refine gen_world (Zero4 (w.heap.size + 1) V0) (Zero4.new hG) ?_
    intro V kx
    clear hV0 hG
    have HZ := Lib.hid kx
    have MK : Hid (∀ w', Below (w.heap.size + 1) V0 w' → (w'.cell? ⟨w.heap.size, 0, none⟩ = some (.int .i64 T.id) ∧ w'.cell? ⟨w.heap.size, 1, none⟩ = some (.int .i64 T.c) ∧ w'.cell? ⟨w.heap.size, 2, none⟩ = some (.int .i64 T.d) ∧ w'.cell? ⟨w.heap.size, 3, none⟩ = some (.int .i64 T.t) ∧ w'.cell? ⟨w.heap.size, 4, none⟩ = some (.int .i64 T.p) ∧ w'.cell? ⟨w.heap.size, 5, none⟩ = some (.slice T.a1 T.ch.length T.c1) ∧ w'.cell? ⟨w.heap.size, 6, none⟩ = some (.slice T.a2 T.us.length T.c2))) := fun w' hb => by
      have x := kept_objB hb (Nat.lt_succ_self _) HT0.out
      exact ⟨by rw [blk_cell x]; rfl, by rw [blk_cell x]; rfl, by rw [blk_cell x]; rfl, by rw [blk_cell x]; rfl, by rw [blk_cell x]; rfl, by rw [blk_cell x]; rfl, by rw [blk_cell x]; rfl⟩
    obtain ⟨t0, t1, t2, t3, t4, t5, t6⟩ := MK.out _ HZ.out.low
    go_wp2_with (first | (go_at_call 65; (with_reducible refine (Calls.upZ (by first | (with_reducible assumption) | exact Zero4.drew (by with_reducible assumption)) (MC.out _)).mono ?_); rintro e wx ⟨rfl, kx⟩; obtain ⟨t0, t1, t2, t3, t4, t5, t6⟩ := MK.out _ kx.low; have z0 : wx.cell? ⟨w.heap.size + 1, 0, none⟩ = some (.int .u64 0) := (by rw [blk_cell kx.zer]; rfl); have z1 : wx.cell? ⟨w.heap.size + 1, 1, none⟩ = some (.int .u64 0) := (by rw [blk_cell kx.zer]; rfl); have z2 : wx.cell? ⟨w.heap.size + 1, 2, none⟩ = some (.int .u64 0) := (by rw [blk_cell kx.zer]; rfl); have z3 : wx.cell? ⟨w.heap.size + 1, 3, none⟩ = some (.int .u64 0) := (by rw [blk_cell kx.zer]; rfl); have f0 := blk_free kx.zer 0; have f1 := blk_free kx.zer 1; have f2 := blk_free kx.zer 2; have f3 := blk_free kx.zer 3))
    have hz := Blk4.set (show Blk4 wx (w.heap.size + 1) 0 0 0 0 from kx.zer) 0 0 0 0
    obtain ⟨y0, y1, y2, y3⟩ := hz.cells
    have e00 : ((0 : Nat) : Int) = 0 := rfl
    rw [e00] at y0 y1 y2 y3
    refine bodyPost_ret (v := .agg #[.int .u64 0, .int .u64 0, .int .u64 0, .int .u64 0]) ?_ rfl ⟨rfl, ?_⟩
    · simp [results, Try.results87, go_sem, y0, y1, y2, y3]
    · exact HLW.out.trans ((Below.setCell (p := ⟨w.heap.size + 1, 3, none⟩) (Below.setCell (p := ⟨w.heap.size + 1, 2, none⟩) (Below.setCell (p := ⟨w.heap.size + 1, 1, none⟩) (Below.setCell (p := ⟨w.heap.size + 1, 0, none⟩) kx.low (Nat.le_refl _) _) (Nat.le_refl _) _) (Nat.le_refl _) _) (Nat.le_refl _) _).mono (Nat.le_succ _))
  · have hd : decide (T.us ≠ []) = true := decide_eq_true hu
    rw [hd] at MC
    have TC := Lib.hid (fun v (hb : Below w.heap.size w v) => ticks_any T hT hu 0 p (Nat.zero_le _) (by omega) v (hok.below hb))
    unfold SetBack at TC
    rw [hC]
    obtain ⟨P, hP⟩ : ∃ P, inP T.us 0 p = P := ⟨_, rfl⟩
    rw [hP] at TC ⊢
    have e0 : ((0 : Nat) : Int) = 0 := rfl
    rw [e0] at TC
    clear e0
    have q1 : ¬ (p : Int) ≤ 0 := by omega
    have q2 : ¬ (C : Int) < (p : Int) := by omega
    clear hT hok hu hd hP
    go_enter Try.func87, Try.ntmps87
    go_upto_region 1 with fail
    obtain ⟨V0, hV0⟩ : ∃ V0, w.alloc (.cells #[.int .i64 T.id, .int .i64 (C : Int), .int .i64 T.d, .int .i64 T.t, .int .i64 T.p, .slice T.a1 T.ch.length T.c1, .slice T.a2 T.us.length T.c2] TT) = V0 := ⟨_, rfl⟩
    have hG : V0.heap.size = w.heap.size + 1 := by rw [← hV0, World.size_alloc]
    have HT0 : Hid (V0.heap[w.heap.size]? = some (.cells #[.int .i64 T.id, .int .i64 (C : Int), .int .i64 T.d, .int .i64 T.t, .int .i64 T.p, .slice T.a1 T.ch.length T.c1, .slice T.a2 T.us.length T.c2] TT (0, 0))) := by rw [← hV0]; exact heap_alloc_new w _
    have HLW : Hid (Below w.heap.size w V0) := by rw [← hV0]; exact (Below.refl _ _).alloc (Nat.le_refl _) _
    rw [hV0]
    refine gen_world (Zero4 (w.heap.size + 1) V0) (Zero4.new hG) ?_
    intro V kx
    clear hV0 hG
    have HZ := Lib.hid kx
    have MK : Hid (∀ w', Below (w.heap.size + 1) V0 w' → (w'.cell? ⟨w.heap.size, 0, none⟩ = some (.int .i64 T.id) ∧ w'.cell? ⟨w.heap.size, 1, none⟩ = some (.int .i64 (C : Int)) ∧ w'.cell? ⟨w.heap.size, 2, none⟩ = some (.int .i64 T.d) ∧ w'.cell? ⟨w.heap.size, 3, none⟩ = some (.int .i64 T.t) ∧ w'.cell? ⟨w.heap.size, 4, none⟩ = some (.int .i64 T.p) ∧ w'.cell? ⟨w.heap.size, 5, none⟩ = some (.slice T.a1 T.ch.length T.c1) ∧ w'.cell? ⟨w.heap.size, 6, none⟩ = some (.slice T.a2 T.us.length T.c2))) := fun w' hb => by
      have x := kept_objB hb (Nat.lt_succ_self _) HT0.out
      exact ⟨by rw [blk_cell x]; rfl, by rw [blk_cell x]; rfl, by rw [blk_cell x]; rfl, by rw [blk_cell x]; rfl, by rw [blk_cell x]; rfl, by rw [blk_cell x]; rfl, by rw [blk_cell x]; rfl⟩
    obtain ⟨t0, t1, t2, t3, t4, t5, t6⟩ := MK.out _ HZ.out.low
    rw [hC] at TC MC
    go_wp2_with (first | (go_at_call 65; (with_reducible refine (Calls.upZ (by first | (with_reducible assumption) | exact Zero4.drew (by with_reducible assumption)) (MC.out _)).mono ?_); rintro e wx ⟨rfl, kx⟩; obtain ⟨t0, t1, t2, t3, t4, t5, t6⟩ := MK.out _ kx.low) | (go_at_call 85; (with_reducible refine (Calls.upZ (by first | (with_reducible assumption) | exact Zero4.drew (by with_reducible assumption)) (TC.out _ (HLW.out.trans (Below.mono (Zero4.low (G := w.heap.size + 1) (V0 := V0) (by first | (with_reducible assumption) | exact Zero4.drew (by with_reducible assumption))) (Nat.le_succ _))))).mono ?_); rintro e wx ⟨rfl, kx⟩; have z0 : wx.cell? ⟨w.heap.size + 1, 0, none⟩ = some (.int .u64 0) := (by rw [blk_cell kx.zer]; rfl); have z1 : wx.cell? ⟨w.heap.size + 1, 1, none⟩ = some (.int .u64 0) := (by rw [blk_cell kx.zer]; rfl); have z2 : wx.cell? ⟨w.heap.size + 1, 2, none⟩ = some (.int .u64 0) := (by rw [blk_cell kx.zer]; rfl); have z3 : wx.cell? ⟨w.heap.size + 1, 3, none⟩ = some (.int .u64 0) := (by rw [blk_cell kx.zer]; rfl); have f0 := blk_free kx.zer 0; have f1 := blk_free kx.zer 1; have f2 := blk_free kx.zer 2; have f3 := blk_free kx.zer 3))
    all_goals
      have hz := Blk4.set (show Blk4 wx (w.heap.size + 1) 0 0 0 0 from kx.zer) (wd P 0) (wd P 1) (wd P 2) (wd P 3)
      obtain ⟨y0, y1, y2, y3⟩ := hz.cells
      refine bodyPost_ret (v := .agg #[.int .u64 (wd P 0), .int .u64 (wd P 1), .int .u64 (wd P 2), .int .u64 (wd P 3)]) ?_ rfl ⟨rfl, ?_⟩
      · simp [results, Try.results87, go_sem, y0, y1, y2, y3]
      · exact HLW.out.trans ((Below.setCell (p := ⟨w.heap.size + 1, 3, none⟩) (Below.setCell (p := ⟨w.heap.size + 1, 2, none⟩) (Below.setCell (p := ⟨w.heap.size + 1, 1, none⟩) (Below.setCell (p := ⟨w.heap.size + 1, 0, none⟩) kx.low (Nat.le_refl _) _) (Nat.le_refl _) _) (Nat.le_refl _) _) (Nat.le_refl _) _).mono (Nat.le_succ _))

set_option maxRecDepth 100000 in
set_option maxHeartbeats 8000000 in
theorem rbehind_any (T : TV) (hT : l_Told T) (C p : Nat) (hC : T.c = (C : Int)) (h2 : p < C) (w : World) (hok : T.ok w) : Calls Try.prog 88 #[.agg #[.int .i64 T.id, .int .i64 T.c, .int .i64 T.d, .int .i64 T.t, .int .i64 T.p, .slice T.a1 T.ch.length T.c1, .slice T.a2 T.us.length T.c2], .int .i64 (p : Int)] w (SetBack (inP T.us p C) w) := by
  have hC30 : C ≤ 1073741824 := by have := hT.c30; omega
  have hC1 : 1 ≤ C := by have := hT.c1; omega
  have MC := Lib.hid (fun v => rmay_any T hT v)
  by_cases hu : T.us = []
  · have hd : decide (T.us ≠ []) = false := decide_eq_false (fun z => z hu)
    have hr : inP T.us p C = noneP := by funext x; rw [hu]; exact inP_nil _ _ x
    rw [hd] at MC
    rw [hr]
    unfold SetBack
    have hn := wd_none
    clear hT hok hu hd hr hC
    rw [hn 0, hn 1, hn 2, hn 3]
    go_enter Try.func88, Try.ntmps88
    go_upto_region 1 with fail
    obtain ⟨V0, hV0⟩ : ∃ V0, w.alloc (.cells #[.int .i64 T.id, .int .i64 T.c, .int .i64 T.d, .int .i64 T.t, .int .i64 T.p, .slice T.a1 T.ch.length T.c1, .slice T.a2 T.us.length T.c2] TT) = V0 := ⟨_, rfl⟩
    have hG : V0.heap.size = w.heap.size + 1 := by rw [← hV0, World.size_alloc]
    have HT0 : Hid (V0.heap[w.heap.size]? = some (.cells #[.int .i64 T.id, .int .i64 T.c, .int .i64 T.d, .int .i64 T.t, .int .i64 T.p, .slice T.a1 T.ch.length T.c1, .slice T.a2 T.us.length T.c2] TT (0, 0))) := by rw [← hV0]; exact heap_alloc_new w _
    have HLW : Hid (Below w.heap.size w V0) := by rw [← hV0]; exact (Below.refl _ _).alloc (Nat.le_refl _) _
    rw [hV0]
    refine gen_world (Zero4 (w.heap.size + 1) V0) (Zero4.new hG) ?_
    intro V kx
    clear hV0 hG
    have HZ := Lib.hid kx
    have MK : Hid (∀ w', Below (w.heap.size + 1) V0 w' → (w'.cell? ⟨w.heap.size, 0, none⟩ = some (.int .i64 T.id) ∧ w'.cell? ⟨w.heap.size, 1, none⟩ = some (.int .i64 T.c) ∧ w'.cell? ⟨w.heap.size, 2, none⟩ = some (.int .i64 T.d) ∧ w'.cell? ⟨w.heap.size, 3, none⟩ = some (.int .i64 T.t) ∧ w'.cell? ⟨w.heap.size, 4, none⟩ = some (.int .i64 T.p) ∧ w'.cell? ⟨w.heap.size, 5, none⟩ = some (.slice T.a1 T.ch.length T.c1) ∧ w'.cell? ⟨w.heap.size, 6, none⟩ = some (.slice T.a2 T.us.length T.c2))) := fun w' hb => by
      have x := kept_objB hb (Nat.lt_succ_self _) HT0.out
      exact ⟨by rw [blk_cell x]; rfl, by rw [blk_cell x]; rfl, by rw [blk_cell x]; rfl, by rw [blk_cell x]; rfl, by rw [blk_cell x]; rfl, by rw [blk_cell x]; rfl, by rw [blk_cell x]; rfl⟩
    obtain ⟨t0, t1, t2, t3, t4, t5, t6⟩ := MK.out _ HZ.out.low
    go_wp2_with (first | (go_at_call 65; (with_reducible refine (Calls.upZ (by first | (with_reducible assumption) | exact Zero4.drew (by with_reducible assumption)) (MC.out _)).mono ?_); rintro e wx ⟨rfl, kx⟩; obtain ⟨t0, t1, t2, t3, t4, t5, t6⟩ := MK.out _ kx.low; have z0 : wx.cell? ⟨w.heap.size + 1, 0, none⟩ = some (.int .u64 0) := (by rw [blk_cell kx.zer]; rfl); have z1 : wx.cell? ⟨w.heap.size + 1, 1, none⟩ = some (.int .u64 0) := (by rw [blk_cell kx.zer]; rfl); have z2 : wx.cell? ⟨w.heap.size + 1, 2, none⟩ = some (.int .u64 0) := (by rw [blk_cell kx.zer]; rfl); have z3 : wx.cell? ⟨w.heap.size + 1, 3, none⟩ = some (.int .u64 0) := (by rw [blk_cell kx.zer]; rfl); have f0 := blk_free kx.zer 0; have f1 := blk_free kx.zer 1; have f2 := blk_free kx.zer 2; have f3 := blk_free kx.zer 3))
    have hz := Blk4.set (show Blk4 wx (w.heap.size + 1) 0 0 0 0 from kx.zer) 0 0 0 0
    obtain ⟨y0, y1, y2, y3⟩ := hz.cells
    have e00 : ((0 : Nat) : Int) = 0 := rfl
    rw [e00] at y0 y1 y2 y3
    refine bodyPost_ret (v := .agg #[.int .u64 0, .int .u64 0, .int .u64 0, .int .u64 0]) ?_ rfl ⟨rfl, ?_⟩
    · simp [results, Try.results88, go_sem, y0, y1, y2, y3]
    · exact HLW.out.trans ((Below.setCell (p := ⟨w.heap.size + 1, 3, none⟩) (Below.setCell (p := ⟨w.heap.size + 1, 2, none⟩) (Below.setCell (p := ⟨w.heap.size + 1, 1, none⟩) (Below.setCell (p := ⟨w.heap.size + 1, 0, none⟩) kx.low (Nat.le_refl _) _) (Nat.le_refl _) _) (Nat.le_refl _) _) (Nat.le_refl _) _).mono (Nat.le_succ _))
  · have hd : decide (T.us ≠ []) = true := decide_eq_true hu
    rw [hd] at MC
    have TC := Lib.hid (fun v (hb : Below w.heap.size w v) => ticks_any T hT hu p C (Nat.le_of_lt h2) hC30 v (hok.below hb))
    unfold SetBack at TC
    rw [hC]
    obtain ⟨P, hP⟩ : ∃ P, inP T.us p C = P := ⟨_, rfl⟩
    rw [hP] at TC ⊢
    have q1 : ¬ (C : Int) ≤ (p : Int) := by omega
    have q2 : ¬ (p : Int) < 0 := by omega
    clear hT hok hu hd hP
    go_enter Try.func88, Try.ntmps88
    go_upto_region 1 with fail
    obtain ⟨V0, hV0⟩ : ∃ V0, w.alloc (.cells #[.int .i64 T.id, .int .i64 (C : Int), .int .i64 T.d, .int .i64 T.t, .int .i64 T.p, .slice T.a1 T.ch.length T.c1, .slice T.a2 T.us.length T.c2] TT) = V0 := ⟨_, rfl⟩
    have hG : V0.heap.size = w.heap.size + 1 := by rw [← hV0, World.size_alloc]
    have HT0 : Hid (V0.heap[w.heap.size]? = some (.cells #[.int .i64 T.id, .int .i64 (C : Int), .int .i64 T.d, .int .i64 T.t, .int .i64 T.p, .slice T.a1 T.ch.length T.c1, .slice T.a2 T.us.length T.c2] TT (0, 0))) := by rw [← hV0]; exact heap_alloc_new w _
    have HLW : Hid (Below w.heap.size w V0) := by rw [← hV0]; exact (Below.refl _ _).alloc (Nat.le_refl _) _
    rw [hV0]
    refine gen_world (Zero4 (w.heap.size + 1) V0) (Zero4.new hG) ?_
    intro V kx
    clear hV0 hG
    have HZ := Lib.hid kx
    have MK : Hid (∀ w', Below (w.heap.size + 1) V0 w' → (w'.cell? ⟨w.heap.size, 0, none⟩ = some (.int .i64 T.id) ∧ w'.cell? ⟨w.heap.size, 1, none⟩ = some (.int .i64 (C : Int)) ∧ w'.cell? ⟨w.heap.size, 2, none⟩ = some (.int .i64 T.d) ∧ w'.cell? ⟨w.heap.size, 3, none⟩ = some (.int .i64 T.t) ∧ w'.cell? ⟨w.heap.size, 4, none⟩ = some (.int .i64 T.p) ∧ w'.cell? ⟨w.heap.size, 5, none⟩ = some (.slice T.a1 T.ch.length T.c1) ∧ w'.cell? ⟨w.heap.size, 6, none⟩ = some (.slice T.a2 T.us.length T.c2))) := fun w' hb => by
      have x := kept_objB hb (Nat.lt_succ_self _) HT0.out
      exact ⟨by rw [blk_cell x]; rfl, by rw [blk_cell x]; rfl, by rw [blk_cell x]; rfl, by rw [blk_cell x]; rfl, by rw [blk_cell x]; rfl, by rw [blk_cell x]; rfl, by rw [blk_cell x]; rfl⟩
    obtain ⟨t0, t1, t2, t3, t4, t5, t6⟩ := MK.out _ HZ.out.low
    rw [hC] at TC MC
    go_wp2_with (first | (go_at_call 65; (with_reducible refine (Calls.upZ (by first | (with_reducible assumption) | exact Zero4.drew (by with_reducible assumption)) (MC.out _)).mono ?_); rintro e wx ⟨rfl, kx⟩; obtain ⟨t0, t1, t2, t3, t4, t5, t6⟩ := MK.out _ kx.low) | (go_at_call 85; (with_reducible refine (Calls.upZ (by first | (with_reducible assumption) | exact Zero4.drew (by with_reducible assumption)) (TC.out _ (HLW.out.trans (Below.mono (Zero4.low (G := w.heap.size + 1) (V0 := V0) (by first | (with_reducible assumption) | exact Zero4.drew (by with_reducible assumption))) (Nat.le_succ _))))).mono ?_); rintro e wx ⟨rfl, kx⟩; have z0 : wx.cell? ⟨w.heap.size + 1, 0, none⟩ = some (.int .u64 0) := (by rw [blk_cell kx.zer]; rfl); have z1 : wx.cell? ⟨w.heap.size + 1, 1, none⟩ = some (.int .u64 0) := (by rw [blk_cell kx.zer]; rfl); have z2 : wx.cell? ⟨w.heap.size + 1, 2, none⟩ = some (.int .u64 0) := (by rw [blk_cell kx.zer]; rfl); have z3 : wx.cell? ⟨w.heap.size + 1, 3, none⟩ = some (.int .u64 0) := (by rw [blk_cell kx.zer]; rfl); have f0 := blk_free kx.zer 0; have f1 := blk_free kx.zer 1; have f2 := blk_free kx.zer 2; have f3 := blk_free kx.zer 3))
    all_goals
      have hz := Blk4.set (show Blk4 wx (w.heap.size + 1) 0 0 0 0 from kx.zer) (wd P 0) (wd P 1) (wd P 2) (wd P 3)
      obtain ⟨y0, y1, y2, y3⟩ := hz.cells
      refine bodyPost_ret (v := .agg #[.int .u64 (wd P 0), .int .u64 (wd P 1), .int .u64 (wd P 2), .int .u64 (wd P 3)]) ?_ rfl ⟨rfl, ?_⟩
      · simp [results, Try.results88, go_sem, y0, y1, y2, y3]
      · exact HLW.out.trans ((Below.setCell (p := ⟨w.heap.size + 1, 3, none⟩) (Below.setCell (p := ⟨w.heap.size + 1, 2, none⟩) (Below.setCell (p := ⟨w.heap.size + 1, 1, none⟩) (Below.setCell (p := ⟨w.heap.size + 1, 0, none⟩) kx.low (Nat.le_refl _) _) (Nat.le_refl _) _) (Nat.le_refl _) _) (Nat.le_refl _) _).mono (Nat.le_succ _))

set_option maxRecDepth 100000 in
set_option maxHeartbeats 8000000 in
theorem ruseful_any (T : TV) (hT : l_Told T) (C p : Nat) (hC : T.c = (C : Int)) (h1 : 1 ≤ p) (h2 : p < C) (w : World) (hok : T.ok w) : Calls Try.prog 67 #[.agg #[.int .i64 T.id, .int .i64 T.c, .int .i64 T.d, .int .i64 T.t, .int .i64 T.p, .slice T.a1 T.ch.length T.c1, .slice T.a2 T.us.length T.c2], .int .i64 (p : Int)] w (SetBack (andP (inP T.us 0 (p)) (inP T.us (p) C)) w) := by
  have BC := Lib.hid (fun v (hb : Below w.heap.size w v) => rbefore_any T hT C p hC h1 (Nat.le_of_lt h2) v (hok.below hb))
  have DC := Lib.hid (fun v (hb : Below w.heap.size w v) => rbehind_any T hT C p hC h2 v (hok.below hb))
  unfold SetBack at BC DC
  have AC := Lib.hid (fun w => rand_any (inP T.us 0 (p)) (inP T.us (p) C) w)
  obtain ⟨P, hP⟩ : ∃ P, andP (inP T.us 0 (p)) (inP T.us (p) C) = P := ⟨_, rfl⟩
  rw [hP] at AC ⊢
  generalize inP T.us 0 (p) = A at *
  generalize inP T.us (p) C = B at *
  clear hT hok hP hC h1 h2
  go_enter Try.func67, Try.ntmps67
  go_upto_region 1 with fail
  obtain ⟨V0, hV0⟩ : ∃ V0, w.alloc (.cells #[.int .i64 T.id, .int .i64 T.c, .int .i64 T.d, .int .i64 T.t, .int .i64 T.p, .slice T.a1 T.ch.length T.c1, .slice T.a2 T.us.length T.c2] TT) = V0 := ⟨_, rfl⟩
  have hG : V0.heap.size = w.heap.size + 1 := by rw [← hV0, World.size_alloc]
  have HT0 : Hid (V0.heap[w.heap.size]? = some (.cells #[.int .i64 T.id, .int .i64 T.c, .int .i64 T.d, .int .i64 T.t, .int .i64 T.p, .slice T.a1 T.ch.length T.c1, .slice T.a2 T.us.length T.c2] TT (0, 0))) := by rw [← hV0]; exact heap_alloc_new w _
  have HLW : Hid (Below w.heap.size w V0) := by rw [← hV0]; exact (Below.refl _ _).alloc (Nat.le_refl _) _
  rw [hV0]
  refine gen_world (Zero4 (w.heap.size + 1) V0) (Zero4.new hG) ?_
  intro V kx
  clear hV0 hG
  have HZ := Lib.hid kx
  have MK : Hid (∀ w', Below (w.heap.size + 1) V0 w' → (w'.cell? ⟨w.heap.size, 0, none⟩ = some (.int .i64 T.id) ∧ w'.cell? ⟨w.heap.size, 1, none⟩ = some (.int .i64 T.c) ∧ w'.cell? ⟨w.heap.size, 2, none⟩ = some (.int .i64 T.d) ∧ w'.cell? ⟨w.heap.size, 3, none⟩ = some (.int .i64 T.t) ∧ w'.cell? ⟨w.heap.size, 4, none⟩ = some (.int .i64 T.p) ∧ w'.cell? ⟨w.heap.size, 5, none⟩ = some (.slice T.a1 T.ch.length T.c1) ∧ w'.cell? ⟨w.heap.size, 6, none⟩ = some (.slice T.a2 T.us.length T.c2))) := fun w' hb => by
    have x := kept_objB hb (Nat.lt_succ_self _) HT0.out
    exact ⟨by rw [blk_cell x]; rfl, by rw [blk_cell x]; rfl, by rw [blk_cell x]; rfl, by rw [blk_cell x]; rfl, by rw [blk_cell x]; rfl, by rw [blk_cell x]; rfl, by rw [blk_cell x]; rfl⟩
  go_region_held3 (fun w' => w'.cell? ⟨w.heap.size, 0, none⟩ = some (.int .i64 T.id) ∧ w'.cell? ⟨w.heap.size, 1, none⟩ = some (.int .i64 T.c) ∧ w'.cell? ⟨w.heap.size, 2, none⟩ = some (.int .i64 T.d) ∧ w'.cell? ⟨w.heap.size, 3, none⟩ = some (.int .i64 T.t) ∧ w'.cell? ⟨w.heap.size, 4, none⟩ = some (.int .i64 T.p) ∧ w'.cell? ⟨w.heap.size, 5, none⟩ = some (.slice T.a1 T.ch.length T.c1) ∧ w'.cell? ⟨w.heap.size, 6, none⟩ = some (.slice T.a2 T.us.length T.c2)) (exact MK.out _ (by repeat (first | exact Zero4.low (by with_reducible assumption) | refine Below.drew ?_ | refine Below.setCell ?_ (by exact Nat.le_refl _) _))) (first | (go_at_call 87; (with_reducible refine (Calls.upZ (by first | (with_reducible assumption) | exact Zero4.drew (by with_reducible assumption)) (BC.out _ (HLW.out.trans (Below.mono (Zero4.low (G := w.heap.size + 1) (V0 := V0) (by first | (with_reducible assumption) | exact Zero4.drew (by with_reducible assumption))) (Nat.le_succ _))))).mono ?_); rintro e wx ⟨rfl, kx⟩) | (go_at_call 88; (with_reducible refine (Calls.upZ (by first | (with_reducible assumption) | exact Zero4.drew (by with_reducible assumption)) (DC.out _ (HLW.out.trans (Below.mono (Zero4.low (G := w.heap.size + 1) (V0 := V0) (by first | (with_reducible assumption) | exact Zero4.drew (by with_reducible assumption))) (Nat.le_succ _))))).mono ?_); rintro e wx ⟨rfl, kx⟩) | (go_at_call 66; (with_reducible refine (Calls.upZ (by first | (with_reducible assumption) | exact Zero4.drew (by with_reducible assumption)) (AC.out _)).mono ?_); rintro e wx ⟨rfl, kx⟩; have z0 : wx.cell? ⟨w.heap.size + 1, 0, none⟩ = some (.int .u64 0) := (by rw [blk_cell kx.zer]; rfl); have z1 : wx.cell? ⟨w.heap.size + 1, 1, none⟩ = some (.int .u64 0) := (by rw [blk_cell kx.zer]; rfl); have z2 : wx.cell? ⟨w.heap.size + 1, 2, none⟩ = some (.int .u64 0) := (by rw [blk_cell kx.zer]; rfl); have z3 : wx.cell? ⟨w.heap.size + 1, 3, none⟩ = some (.int .u64 0) := (by rw [blk_cell kx.zer]; rfl); have f0 := blk_free kx.zer 0; have f1 := blk_free kx.zer 1; have f2 := blk_free kx.zer 2; have f3 := blk_free kx.zer 3))
  all_goals
    go_wp2_with fail
    have hz := Blk4.set (show Blk4 wx (w.heap.size + 1) 0 0 0 0 from kx.zer) (wd P 0) (wd P 1) (wd P 2) (wd P 3)
    obtain ⟨y0, y1, y2, y3⟩ := hz.cells
    refine bodyPost_ret (v := .agg #[.int .u64 (wd P 0), .int .u64 (wd P 1), .int .u64 (wd P 2), .int .u64 (wd P 3)]) ?_ rfl ⟨rfl, ?_⟩
    · simp [results, Try.results67, go_sem, y0, y1, y2, y3]
    · exact HLW.out.trans ((Below.setCell (p := ⟨w.heap.size + 1, 3, none⟩) (Below.setCell (p := ⟨w.heap.size + 1, 2, none⟩) (Below.setCell (p := ⟨w.heap.size + 1, 1, none⟩) (Below.setCell (p := ⟨w.heap.size + 1, 0, none⟩) kx.low (Nat.le_refl _) _) (Nat.le_refl _) _) (Nat.le_refl _) _) (Nat.le_refl _) _).mono (Nat.le_succ _))

end Go.Proofs.Ytlglncnhhgofoaa

/-
  The walks over the document's count of what is useful at most, and over all that others use.
-/
namespace Go.Proofs.Ytlglncnhhgofoaa
open Go.RowKit Go.Maps

theorem best_far (f : Nat → Nat) {m : Nat} : ∀ {k : Nat}, m ≤ k → (∀ p, m < p → p ≤ k → f p ≤ (best f m).1) → best f k = best f m
  | 0, h, _ => by
    obtain rfl : m = 0 := by omega
    rfl
  | k + 1, h, hp => by
    by_cases e : m = k + 1
    · rw [e]
    · have ih := best_far f (m := m) (k := k) (by omega) (fun p h1 h2 => hp p h1 (by omega))
      rw [best, ih, if_neg (by have := hp (k + 1) (by omega) (Nat.le_refl _); omega)]
theorem most_two (us : List Int) (C : Nat) (O : Nat → Bool) : best (usefulN us C O) (min (C - 1) (2 * us.length)) = mostOf us C O := by
  unfold mostOf
  refine best_far _ (by omega) fun p h1 h2 => ?_
  have h3 : us.length < p := by omega
  exact usefulN_far us O (by omega) (by omega) (by omega)
theorem best_next (f : Nat → Nat) {p : Nat} (h : 1 ≤ p) : best f p = if (best f (p - 1)).1 < f p then (f p, p) else best f (p - 1) := by
  obtain ⟨k, rfl⟩ : ∃ k, p = k + 1 := ⟨p - 1, by omega⟩
  rfl
abbrev PT : TypeId := 85
/-- Four blocks, one behind the other. -/
theorem four_boxes0 (W : World) {N : Nat} (hN : W.heap.size = N) (c1 c2 c3 c4 : Obj) : ((((W.alloc c1).alloc c2).alloc c3).alloc c4).heap[N]? = some c1 ∧ ((((W.alloc c1).alloc c2).alloc c3).alloc c4).heap[N + 1]? = some c2 ∧ ((((W.alloc c1).alloc c2).alloc c3).alloc c4).heap[N + 2]? = some c3 ∧ ((((W.alloc c1).alloc c2).alloc c3).alloc c4).heap[N + 3]? = some c4 := by
  obtain ⟨a1, a2⟩ := two_boxes W hN c1 c2
  obtain ⟨b1, b2⟩ := two_boxes ((W.alloc c1).alloc c2) (N := N + 2) (by rw [World.size_alloc, World.size_alloc, hN]) c3 c4
  have hb : Below ((W.alloc c1).alloc c2).heap.size ((W.alloc c1).alloc c2) ((((W.alloc c1).alloc c2).alloc c3).alloc c4) := (by repeat (first | exact Below.refl _ _ | (with_reducible assumption) | refine bw_alloc ?_ _ | refine bw_drew ?_))
  exact ⟨kept_obj hb a1, kept_obj hb a2, b1, b2⟩
/-- The boxes: a task, the other sets, what comes back, the best place so far. -/
structure RMAt (w : World) (T : TV) (o : Nat → Nat) (m : Nat × Nat) (V : World) : Prop where
  low : Below w.heap.size w V
  tb : V.heap[w.heap.size]? = some (.cells #[.int .i64 T.id, .int .i64 T.c, .int .i64 T.d, .int .i64 T.t, .int .i64 T.p, .slice T.a1 T.ch.length T.c1, .slice T.a2 T.us.length T.c2] TT (0, 0))
  ob : V.heap[w.heap.size + 1]? = some (.cells #[.int .u64 (o 0), .int .u64 (o 1), .int .u64 (o 2), .int .u64 (o 3)] ST4 (0, 0))
  res : V.heap[w.heap.size + 2]? = some (.cells #[.int .i64 0, .int .i64 0] PT (0, 0))
  bst : V.heap[w.heap.size + 3]? = some (.cells #[.int .i64 (m.1 : Nat), .int .i64 (m.2 : Nat)] PT (0, 0))
theorem RMAt.below {w V V' : World} {T : TV} {o : Nat → Nat} {m : Nat × Nat} (h : RMAt w T o m V) (hb : Below V.heap.size V V') : RMAt w T o m V' := ⟨below_up h.low hb, kept_obj hb h.tb, kept_obj hb h.ob, kept_obj hb h.res, kept_obj hb h.bst⟩
theorem RMAt.put {w V : World} {T : TV} {o : Nat → Nat} {m : Nat × Nat} (h : RMAt w T o m V) (m' : Nat × Nat) : RMAt w T o m' ((V.setCell ⟨w.heap.size + 3, 0, none⟩ (.int .i64 (m'.1 : Nat))).setCell ⟨w.heap.size + 3, 1, none⟩ (.int .i64 (m'.2 : Nat))) := by
  have far : ∀ (g : Nat) (ob : Obj), g ≠ w.heap.size + 3 → V.heap[g]? = some ob → ((V.setCell ⟨w.heap.size + 3, 0, none⟩ (.int .i64 (m'.1 : Nat))).setCell ⟨w.heap.size + 3, 1, none⟩ (.int .i64 (m'.2 : Nat))).heap[g]? = some ob := fun g ob hg hw =>
    (blk_far (a := ⟨w.heap.size + 3, 1, none⟩) hg _).trans ((blk_far (a := ⟨w.heap.size + 3, 0, none⟩) hg _).trans hw)
  have h1 := blk_set (o := 0) h.bst (.int .i64 (m'.1 : Nat))
  have h2 := blk_set (o := 1) h1 (.int .i64 (m'.2 : Nat))
  exact ⟨(h.low.setCell (p := ⟨w.heap.size + 3, 0, none⟩) (by show _ ≤ _ + 3; omega) _).setCell (p := ⟨w.heap.size + 3, 1, none⟩) (by show _ ≤ _ + 3; omega) _, far _ _ (by omega) h.tb, far _ _ (by omega) h.ob, far _ _ (by omega) h.res, h2.trans rfl⟩

set_option maxRecDepth 100000 in
set_option maxHeartbeats 16000000 in
theorem rmost_any (T : TV) (hT : l_Told T) (C : Nat) (hC : T.c = (C : Int)) (w : World) (hok : T.ok w) (O : Nat → Bool) :
    Calls Try.prog 40 #[.agg #[.int .i64 T.id, .int .i64 T.c, .int .i64 T.d, .int .i64 T.t, .int .i64 T.p, .slice T.a1 T.ch.length T.c1, .slice T.a2 T.us.length T.c2], .agg #[.int .u64 (wd O 0), .int .u64 (wd O 1), .int .u64 (wd O 2), .int .u64 (wd O 3)]] w fun e w' => e = .returned (.agg #[.int .i64 ((mostOf T.us C O).1 : Nat), .int .i64 ((mostOf T.us C O).2 : Nat)]) ∧ Below w.heap.size w w' := by
  have hC30 : C ≤ 1073741824 := by have := hT.c30; omega
  have hC1 : 1 ≤ C := by have := hT.c1; omega
  have hn64 := hT.n64
  have MC := Lib.hid (fun v => rmay_any T hT v)
  have HTT := Lib.hid hT
  have HOK := Lib.hid hok
  obtain ⟨o, ho⟩ : ∃ o, wd O = o := ⟨_, rfl⟩
  have HO := Lib.hid ho
  rw [ho]
  have HC := Lib.hid hC
  obtain ⟨n, hN⟩ : ∃ n, T.us.length = n := ⟨_, rfl⟩
  have HN := Lib.hid hN
  have hnw : IntKind.i64.wrap (n : Int) = (n : Int) := IntWalk.i64_in _ (by omega)
  have hnw2 : IntKind.i64.wrap (2 * (n : Int)) = 2 * (n : Int) := IntWalk.i64_in _ (by omega)
  obtain ⟨is, his⟩ : ∃ is, decide (T.us ≠ []) = is := ⟨_, rfl⟩
  have HIS : Hid (is = decide (0 < n)) := by
    show _ = _
    rw [← his, ← hN]
    cases T.us with
    | nil => rfl
    | cons a l => simp
  rw [his] at MC
  rw [hN] at MC hn64 ⊢
  clear hT hok ho hC his
  go_enter Try.func40, Try.ntmps40
  go_upto_region 2 with fail
  refine gen_world (RMAt w T o (0, 0)) ?_ ?_
  · obtain ⟨q0, q1, q2, q3⟩ := four_boxes0 w rfl (.cells #[.int .i64 T.id, .int .i64 T.c, .int .i64 T.d, .int .i64 T.t, .int .i64 T.p, .slice T.a1 T.ch.length T.c1, .slice T.a2 T.us.length T.c2] TT) (.cells #[.int .u64 (o 0), .int .u64 (o 1), .int .u64 (o 2), .int .u64 (o 3)] ST4) (.cells #[.int .i64 0, .int .i64 0] PT) (.cells #[.int .i64 0, .int .i64 0] PT)
    rw [hN] at q0 q1 q2 q3
    exact ⟨(by repeat (first | exact Below.refl _ _ | (with_reducible assumption) | refine bw_alloc ?_ _ | refine bw_drew ?_)), by rw [hN]; exact q0, q1, q2, q3⟩
  intro V1 k1
  have HV := Lib.hid k1
  have htb := k1.tb
  rw [hN] at htb
  have t0 : V1.cell? ⟨w.heap.size, 0, none⟩ = some (.int .i64 T.id) := by rw [blk_cell htb]; rfl
  have t1 : V1.cell? ⟨w.heap.size, 1, none⟩ = some (.int .i64 T.c) := by rw [blk_cell htb]; rfl
  have t2 : V1.cell? ⟨w.heap.size, 2, none⟩ = some (.int .i64 T.d) := by rw [blk_cell htb]; rfl
  have t3 : V1.cell? ⟨w.heap.size, 3, none⟩ = some (.int .i64 T.t) := by rw [blk_cell htb]; rfl
  have t4 : V1.cell? ⟨w.heap.size, 4, none⟩ = some (.int .i64 T.p) := by rw [blk_cell htb]; rfl
  have t5 : V1.cell? ⟨w.heap.size, 5, none⟩ = some (.slice T.a1 T.ch.length T.c1) := by rw [blk_cell htb]; rfl
  have t6 : V1.cell? ⟨w.heap.size, 6, none⟩ = some (.slice T.a2 n T.c2) := by rw [blk_cell htb]; rfl
  clear k1 hN
  go_upto_region 3 with (go_at_call 65; (with_reducible refine (MC.out _).mono ?_); rintro e w1 ⟨rfl, b1⟩; have HV1 := Lib.hid (HV.out.below b1); clear b1)
  have htb := HV1.out.tb
  rw [HN.out] at htb
  have t6 : w1.cell? ⟨w.heap.size, 6, none⟩ = some (.slice T.a2 n T.c2) := by rw [blk_cell htb]; rfl
  clear htb t0 t1 t2 t3 t4 t5 HV
  go_wp2
  go_loopw [8] (fun u wr => ∃ p : Nat, 1 ≤ p ∧ p ≤ min (C - 1) (2 * n) + 1 ∧ u = .int .i64 p ∧ Hid (RMAt w T o (best (usefulN T.us C O) (p - 1)) wr)) (fun u _ => (C + 1 - intOf u).toNat)
  case atStart => exact ⟨1, Nat.le_refl _, by omega, rfl, HV1⟩
  case round =>
    obtain ⟨p, hp1, hp, rfl, HA⟩ := hrel
    clear HV1 t6
    have htb := HA.out.tb
    rw [HN.out] at htb
    have c1 : wr.cell? ⟨w.heap.size, 1, none⟩ = some (.int .i64 T.c) := by rw [blk_cell htb]; rfl
    by_cases hlt : p ≤ min (C - 1) (2 * n)
    · have hpC : p < C := by omega
      have hn0 : 0 < n := by omega
      obtain rfl : is = true := by rw [HIS.out, decide_eq_true hn0]
      have q1 : (p : Int) < T.c := by have := HC.out; omega
      have q2 : (p : Int) ≤ 2 * (n : Int) := by omega
      have UC := Lib.hid (fun (v : World) (hv : Below wr.heap.size wr v) => ruseful_any T HTT.out C p HC.out hp1 hpC v (HOK.out.below (below_up HA.out.low hv)))
      have AO := Lib.hid (fun w => rand_any (andP (inP T.us 0 p) (inP T.us p C)) O w)
      have LO := Lib.hid (fun w => rlen_any (andP (andP (inP T.us 0 p) (inP T.us p C)) O) w)
      rw [show cntN (andP (andP (inP T.us 0 p) (inP T.us p C)) O) 256 = usefulN T.us C O p from rfl] at LO
      unfold SetBack at UC
      rw [HO.out] at AO
      rw [HN.out] at UC
      generalize wd (andP (andP (inP T.us 0 p) (inP T.us p C)) O) = X at *
      generalize wd (andP (inP T.us 0 p) (inP T.us p C)) = U at *
      have HBS := Lib.hid (best_next (usefulN T.us C O) hp1)
      have hf256 := usefulN_le T.us C O p
      have hm256 : (best (usefulN T.us C O) (p - 1)).1 ≤ 256 := best_le fun p _ _ => usefulN_le T.us C O p
      obtain ⟨mv, hmv⟩ : ∃ mv, best (usefulN T.us C O) (p - 1) = mv := ⟨_, rfl⟩
      obtain ⟨fP, hfP⟩ : ∃ fP, usefulN T.us C O p = fP := ⟨_, rfl⟩
      have HMV := Lib.hid hmv
      have HFP := Lib.hid hfP
      rw [hmv] at HA hm256
      rw [hfP] at LO hf256
      have hpw : IntKind.i64.wrap ((p : Int) + 1) = (p : Int) + 1 := IntWalk.i64_in _ (by omega)
      have MK : Hid (∀ w', Below wr.heap.size wr w' → (w'.cell? ⟨w.heap.size, 0, none⟩ = some (.int .i64 T.id) ∧ w'.cell? ⟨w.heap.size, 1, none⟩ = some (.int .i64 T.c) ∧ w'.cell? ⟨w.heap.size, 2, none⟩ = some (.int .i64 T.d) ∧ w'.cell? ⟨w.heap.size, 3, none⟩ = some (.int .i64 T.t) ∧ w'.cell? ⟨w.heap.size, 4, none⟩ = some (.int .i64 T.p) ∧ w'.cell? ⟨w.heap.size, 5, none⟩ = some (.slice T.a1 T.ch.length T.c1) ∧ w'.cell? ⟨w.heap.size, 6, none⟩ = some (.slice T.a2 n T.c2) ∧ w'.cell? ⟨w.heap.size + 1, 0, none⟩ = some (.int .u64 (o 0)) ∧ w'.cell? ⟨w.heap.size + 1, 1, none⟩ = some (.int .u64 (o 1)) ∧ w'.cell? ⟨w.heap.size + 1, 2, none⟩ = some (.int .u64 (o 2)) ∧ w'.cell? ⟨w.heap.size + 1, 3, none⟩ = some (.int .u64 (o 3)))) := fun w' hb => by
        have x0 := kept_obj hb HA.out.tb
        have x1 := kept_obj hb HA.out.ob
        rw [HN.out] at x0
        exact ⟨by rw [blk_cell x0]; rfl, by rw [blk_cell x0]; rfl, by rw [blk_cell x0]; rfl, by rw [blk_cell x0]; rfl, by rw [blk_cell x0]; rfl, by rw [blk_cell x0]; rfl, by rw [blk_cell x0]; rfl, by rw [blk_cell x1]; rfl, by rw [blk_cell x1]; rfl, by rw [blk_cell x1]; rfl, by rw [blk_cell x1]; rfl⟩
      have bb := Below.refl wr.heap.size wr
      clear hmv hfP htb
      go_upto_region 7 with fail
      go_cut [9] (fun u wx => u = .int .i64 (fP : Int) ∧ Hid (Below wr.heap.size wr wx))
      case first =>
        go_region_held3 (fun w' => w'.cell? ⟨w.heap.size, 0, none⟩ = some (.int .i64 T.id) ∧ w'.cell? ⟨w.heap.size, 1, none⟩ = some (.int .i64 T.c) ∧ w'.cell? ⟨w.heap.size, 2, none⟩ = some (.int .i64 T.d) ∧ w'.cell? ⟨w.heap.size, 3, none⟩ = some (.int .i64 T.t) ∧ w'.cell? ⟨w.heap.size, 4, none⟩ = some (.int .i64 T.p) ∧ w'.cell? ⟨w.heap.size, 5, none⟩ = some (.slice T.a1 T.ch.length T.c1) ∧ w'.cell? ⟨w.heap.size, 6, none⟩ = some (.slice T.a2 n T.c2) ∧ w'.cell? ⟨w.heap.size + 1, 0, none⟩ = some (.int .u64 (o 0)) ∧ w'.cell? ⟨w.heap.size + 1, 1, none⟩ = some (.int .u64 (o 1)) ∧ w'.cell? ⟨w.heap.size + 1, 2, none⟩ = some (.int .u64 (o 2)) ∧ w'.cell? ⟨w.heap.size + 1, 3, none⟩ = some (.int .u64 (o 3))) (exact MK.out _ (by repeat (first | exact Below.refl _ _ | (with_reducible assumption) | refine bw_alloc ?_ _ | refine bw_drew ?_))) (first
          | (go_at_call 67; (with_reducible refine (Calls.upV (V := wr) (by repeat (first | exact Below.refl _ _ | (with_reducible assumption) | refine bw_alloc ?_ _ | refine bw_drew ?_)) (UC.out _ (by repeat (first | exact Below.refl _ _ | (with_reducible assumption) | refine bw_alloc ?_ _ | refine bw_drew ?_)))).mono ?_); rintro e wx ⟨rfl, b0, bx⟩; clear b0)
          | (go_at_call 66; (with_reducible refine (Calls.upV (V := wr) (by repeat (first | exact Below.refl _ _ | (with_reducible assumption) | refine bw_alloc ?_ _ | refine bw_drew ?_)) (AO.out _)).mono ?_); rintro e wx ⟨rfl, b0, bx⟩; clear b0)
          | (go_at_call 41; (with_reducible refine (Calls.upV (V := wr) (by repeat (first | exact Below.refl _ _ | (with_reducible assumption) | refine bw_alloc ?_ _ | refine bw_drew ?_)) (LO.out _)).mono ?_); rintro e wx ⟨rfl, b0, bx⟩; clear b0))
        all_goals
          go_wp2_with fail
          go_meet
          exact ⟨rfl, Lib.hid (by assumption)⟩
      case rest =>
        obtain ⟨rfl, H4⟩ := hcut
        have H5 := Lib.hid (HA.out.below H4.out)
        have hb5 := H5.out.bst
        have m0 : wc.cell? ⟨w.heap.size + 3, 0, none⟩ = some (.int .i64 (mv.1 : Nat)) := by rw [blk_cell hb5]; rfl
        have m1 : wc.cell? ⟨w.heap.size + 3, 1, none⟩ = some (.int .i64 (mv.2 : Nat)) := by rw [blk_cell hb5]; rfl
        have mf0 := blk_free hb5 0
        have mf1 := blk_free hb5 1
        clear MK bb UC AO LO hb5 c1
        by_cases hq : mv.1 < fP
        · have hq1 : (mv.1 : Int) < (fP : Int) := by omega
          have hbs := HBS.out
          rw [HMV.out, HFP.out, if_pos hq] at hbs
          have HP2 := Lib.hid (H5.out.put (fP, p))
          rw [← hbs] at HP2
          have HPP : Hid (RMAt w T o (best (usefulN T.us C O) (p + 1 - 1)) ((wc.setCell ⟨w.heap.size + 3, 0, none⟩ (.int .i64 (fP : Nat))).setCell ⟨w.heap.size + 3, 1, none⟩ (.int .i64 (p : Nat)))) := by
            rw [Nat.add_sub_cancel, hbs]
            exact H5.out.put (fP, p)
          clear hbs HP2
          go_wp2
          go_roundw
          case rel => exact ⟨p + 1, by omega, by omega, by go_num, HPP⟩
          case measure => simp [intOf]; omega
        · have hq1 : ¬ (mv.1 : Int) < (fP : Int) := by omega
          have hbs := HBS.out
          rw [HMV.out, HFP.out, if_neg hq] at hbs
          have HPP : Hid (RMAt w T o (best (usefulN T.us C O) (p + 1 - 1)) wc) := by
            rw [Nat.add_sub_cancel, hbs]
            exact H5.out
          clear hbs
          go_wp2
          go_roundw
          case rel => exact ⟨p + 1, by omega, by omega, by go_num, HPP⟩
          case measure => simp [intOf]; omega
    · obtain rfl : p = min (C - 1) (2 * n) + 1 := by omega
      have hm := most_two T.us C O
      rw [HN.out] at hm
      have hA := HA.out
      rw [Nat.add_sub_cancel, hm] at hA
      have HM := Lib.hid hA
      obtain ⟨mv, hmv⟩ : ∃ mv, mostOf T.us C O = mv := ⟨_, rfl⟩
      have HMV := Lib.hid hmv
      rw [hmv] at HM
      have hbst := HM.out.bst
      have hres := HM.out.res
      have m0 : wr.cell? ⟨w.heap.size + 3, 0, none⟩ = some (.int .i64 (mv.1 : Nat)) := by rw [blk_cell hbst]; rfl
      have m1 : wr.cell? ⟨w.heap.size + 3, 1, none⟩ = some (.int .i64 (mv.2 : Nat)) := by rw [blk_cell hbst]; rfl
      have r0 : wr.cell? ⟨w.heap.size + 2, 0, none⟩ = some (.int .i64 0) := by rw [blk_cell hres]; rfl
      have r1 : wr.cell? ⟨w.heap.size + 2, 1, none⟩ = some (.int .i64 0) := by rw [blk_cell hres]; rfl
      have rf0 := blk_free hres 0
      have rf1 := blk_free hres 1
      have s1 := blk_set (o := 0) hres (.int .i64 (mv.1 : Nat))
      have s2 := blk_set (o := 1) s1 (.int .i64 (mv.2 : Nat))
      have y0 := blk_cell (o := 0) s2
      have y1 := blk_cell (o := 1) s2
      have HY := Lib.hid (And.intro y0 y1)
      have HLOW : Hid (Below w.heap.size w ((wr.setCell ⟨w.heap.size + 2, 0, none⟩ (.int .i64 (mv.1 : Nat))).setCell ⟨w.heap.size + 2, 1, none⟩ (.int .i64 (mv.2 : Nat)))) := (HM.out.low.setCell (p := ⟨w.heap.size + 2, 0, none⟩) (by show _ ≤ _ + 2; omega) _).setCell (p := ⟨w.heap.size + 2, 1, none⟩) (by show _ ≤ _ + 2; omega) _
      have hcase : is = false ∨ (is = true ∧ ¬ ((min (C - 1) (2 * n) + 1 : Nat) : Int) < T.c) ∨ (is = true ∧ ((min (C - 1) (2 * n) + 1 : Nat) : Int) < T.c ∧ ¬ ((min (C - 1) (2 * n) + 1 : Nat) : Int) ≤ 2 * (n : Int)) := by
        have := HC.out
        cases is with
        | false => exact .inl rfl
        | true =>
          by_cases q : C - 1 ≤ 2 * n
          · exact .inr (.inl ⟨rfl, by omega⟩)
          · by_cases q1 : ((min (C - 1) (2 * n) + 1 : Nat) : Int) < T.c
            · exact .inr (.inr ⟨rfl, q1, by omega⟩)
            · exact .inr (.inl ⟨rfl, q1⟩)
      generalize min (C - 1) (2 * n) + 1 = P at *
      clear hA hm hmv hbst hres s1 s2 y0 y1 hlt htb
      rcases hcase with rfl | ⟨rfl, q1⟩ | ⟨rfl, q1, q2⟩
      all_goals
        go_wp2
        obtain ⟨y0, y1⟩ := HY.out
        refine bodyPost_ret (v := .agg #[.int .i64 (mv.1 : Nat), .int .i64 (mv.2 : Nat)]) ?_ rfl ⟨by rw [HMV.out], HLOW.out⟩
        simp [results, Try.results40, go_sem, y0, y1]

set_option maxRecDepth 100000 in
set_option maxHeartbeats 16000000 in
theorem rall_any (L : List TV) (hT : ∀ T ∈ L, l_Told T) (id : Int) (w : World) (a : Option Addr) (n cap : Nat) (hn : n ≤ 100) (ht : Tasks w a n cap L) :
    Calls Try.prog 38 #[.slice a n cap, .int .i64 id] w (SetBack (allN L id n) w) := by
  have HT := Lib.hid ht
  have HL := Lib.hid hT
  clear ht hT
  go_enter Try.func38, Try.ntmps38
  go_upto_region 2 with fail
  refine gen_world (AllAt w (wd (allN L id 0))) ⟨(by repeat (first | exact Below.refl _ _ | (with_reducible assumption) | refine bw_alloc ?_ _ | refine bw_drew ?_)), (two_boxes w rfl _ _).1, by show _ = some (Obj.cells #[.int .u64 (wd noneP 0), .int .u64 (wd noneP 1), .int .u64 (wd noneP 2), .int .u64 (wd noneP 3)] ST4 (0, 0)); rw [wd_none, wd_none, wd_none, wd_none]; exact (two_boxes w rfl _ _).2⟩ ?_
  intro V hv
  have HV := Lib.hid hv
  clear hv
  go_wp2
  go_loopw [6] (fun u wr => ∃ k : Nat, k ≤ n ∧ u = .int .i64 k ∧ Hid (AllAt w (wd (allN L id k)) wr)) (fun u _ => (n - intOf u).toNat)
  case atStart => exact ⟨0, Nat.zero_le _, rfl, HV⟩
  case round =>
    obtain ⟨k, hk, rfl, HA⟩ := hrel
    clear HV
    by_cases hlt : k < n
    · obtain ⟨T, hTk⟩ := nth_of HT.out.len hlt
      obtain ⟨g, og, rfl, hat⟩ := (HT.out.view.below HA.out.low).at_ hTk
      have HTT := Lib.hid (HL.out T (List.mem_of_getElem? hTk))
      have HOK := Lib.hid (HT.out.ok.at_ hTk)
      obtain ⟨c0, c1, c2, c3, c4, c5, c6⟩ := hat
      have hk0 : (0 : Int) ≤ (k : Int) := by omega
      have hkn : (k : Int) < (n : Int) := by omega
      have hks : IntKind.i64.wrap ((k : Int) + 1) = (k : Int) + 1 := IntWalk.i64_in _ (by omega)
      obtain ⟨C, hC⟩ : ∃ C : Nat, T.c = (C : Int) := ⟨T.c.toNat, by have := HTT.out.c1; omega⟩
      have HC := Lib.hid hC
      clear hC
      by_cases hid : T.id = id
      · have hd : (T.id == id) = true := by simp [hid]
        have hd2 : (T.id != id) = false := by simp [hid]
        have HN : Hid (allN L id (k + 1) = allN L id k) := allN_is hTk hid
        clear hid hTk
        go_wp2
        go_roundw
        case rel => exact ⟨k + 1, by omega, by go_num, by rw [HN.out]; exact HA⟩
        case measure => simp [intOf]; omega
      · have hd : (T.id == id) = false := by simp [hid]
        have hd2 : (T.id != id) = true := by simp [hid]
        have HN : Hid (allN L id (k + 1) = orP (allN L id k) (inP T.us 0 T.c.toNat)) := allN_not hTk hid
        have UC := Lib.hid (fun v (hb : Below wr.heap.size wr v) => rused_any T HTT.out C HC.out v (HOK.out.below (below_up HA.out.low hb)))
        rw [show inP T.us 0 C = inP T.us 0 T.c.toNat by rw [HC.out]; rfl] at UC
        have OC := Lib.hid (ror_two (allN L id k) (inP T.us 0 T.c.toNat))
        rw [← HN.out] at OC
        unfold SetBack at UC
        clear HN hid hTk
        obtain ⟨p2, hp2⟩ : ∃ p2, wd (allN L id (k + 1)) = p2 := ⟨_, rfl⟩
        have HP2 := Lib.hid hp2
        rw [hp2] at OC
        clear hp2
        generalize wd (allN L id k) = p at *
        generalize wd (inP T.us 0 T.c.toNat) = y at *
        have a0 : wr.cell? ⟨w.heap.size + 1, 0, none⟩ = some (.int .u64 (p 0)) := by rw [blk_cell HA.out.all]; rfl
        have a1 : wr.cell? ⟨w.heap.size + 1, 1, none⟩ = some (.int .u64 (p 1)) := by rw [blk_cell HA.out.all]; rfl
        have a2 : wr.cell? ⟨w.heap.size + 1, 2, none⟩ = some (.int .u64 (p 2)) := by rw [blk_cell HA.out.all]; rfl
        have a3 : wr.cell? ⟨w.heap.size + 1, 3, none⟩ = some (.int .u64 (p 3)) := by rw [blk_cell HA.out.all]; rfl
        have f0 := blk_free HA.out.all 0
        have f1 := blk_free HA.out.all 1
        have f2 := blk_free HA.out.all 2
        have f3 := blk_free HA.out.all 3
        go_upto_region 6 with fail
        go_region_with (first
          | (go_at_call 63; (refine (UC.out _ (by repeat (first | exact Below.refl _ _ | refine bw_drew ?_))).mono ?_); rintro e w1 ⟨rfl, b1⟩; have HA3 := Lib.hid (HA.out.below (below_up (W := wr) (by repeat (first | exact Below.refl _ _ | refine bw_drew ?_)) b1)); clear b1; have a0 : w1.cell? ⟨w.heap.size + 1, 0, none⟩ = some (.int .u64 (p 0)) := (by rw [blk_cell HA3.out.all]; rfl); have a1 : w1.cell? ⟨w.heap.size + 1, 1, none⟩ = some (.int .u64 (p 1)) := (by rw [blk_cell HA3.out.all]; rfl); have a2 : w1.cell? ⟨w.heap.size + 1, 2, none⟩ = some (.int .u64 (p 2)) := (by rw [blk_cell HA3.out.all]; rfl); have a3 : w1.cell? ⟨w.heap.size + 1, 3, none⟩ = some (.int .u64 (p 3)) := (by rw [blk_cell HA3.out.all]; rfl); have f0 := blk_free HA3.out.all 0; have f1 := blk_free HA3.out.all 1; have f2 := blk_free HA3.out.all 2; have f3 := blk_free HA3.out.all 3)
          | (go_at_call 62; (refine (OC.out _ _ (by simp) (by simp) (by simp) (by simp) (by simp) (by simp) (by simp) (by simp) (by simp)).mono ?_); rintro e w2 ⟨rfl, b2⟩; have HA4 := Lib.hid ((HA3.out.below ((Below.refl _ _).alloc (Nat.le_refl _) _)).below b2); clear b2; have a0 : w2.cell? ⟨w.heap.size + 1, 0, none⟩ = some (.int .u64 (p 0)) := (by rw [blk_cell HA4.out.all]; rfl); have a1 : w2.cell? ⟨w.heap.size + 1, 1, none⟩ = some (.int .u64 (p 1)) := (by rw [blk_cell HA4.out.all]; rfl); have a2 : w2.cell? ⟨w.heap.size + 1, 2, none⟩ = some (.int .u64 (p 2)) := (by rw [blk_cell HA4.out.all]; rfl); have a3 : w2.cell? ⟨w.heap.size + 1, 3, none⟩ = some (.int .u64 (p 3)) := (by rw [blk_cell HA4.out.all]; rfl); have f0 := blk_free HA4.out.all 0; have f1 := blk_free HA4.out.all 1; have f2 := blk_free HA4.out.all 2; have f3 := blk_free HA4.out.all 3))
        all_goals
          go_wp2
          go_roundw
          case rel => exact ⟨k + 1, by omega, by go_num, by rw [HP2.out]; exact HA4.out.put p2⟩
          case measure => simp [intOf]; omega
    · obtain rfl : k = n := by omega
      have hres := HA.out.res
      have hall := HA.out.all
      have a0 : wr.cell? ⟨w.heap.size + 1, 0, none⟩ = some (.int .u64 (wd (allN L id k) 0)) := by rw [blk_cell hall]; rfl
      have a1 : wr.cell? ⟨w.heap.size + 1, 1, none⟩ = some (.int .u64 (wd (allN L id k) 1)) := by rw [blk_cell hall]; rfl
      have a2 : wr.cell? ⟨w.heap.size + 1, 2, none⟩ = some (.int .u64 (wd (allN L id k) 2)) := by rw [blk_cell hall]; rfl
      have a3 : wr.cell? ⟨w.heap.size + 1, 3, none⟩ = some (.int .u64 (wd (allN L id k) 3)) := by rw [blk_cell hall]; rfl
      have z0 : wr.cell? ⟨w.heap.size, 0, none⟩ = some (.int .u64 0) := by rw [blk_cell hres]; rfl
      have f0 := blk_free hres 0
      have z1 : wr.cell? ⟨w.heap.size, 1, none⟩ = some (.int .u64 0) := by rw [blk_cell hres]; rfl
      have f1 := blk_free hres 1
      have z2 : wr.cell? ⟨w.heap.size, 2, none⟩ = some (.int .u64 0) := by rw [blk_cell hres]; rfl
      have f2 := blk_free hres 2
      have z3 : wr.cell? ⟨w.heap.size, 3, none⟩ = some (.int .u64 0) := by rw [blk_cell hres]; rfl
      have f3 := blk_free hres 3
      have hz := Blk4.set (show Blk4 wr w.heap.size 0 0 0 0 from hres) (wd (allN L id k) 0) (wd (allN L id k) 1) (wd (allN L id k) 2) (wd (allN L id k) 3)
      have HZ := Lib.hid hz.cells
      clear hres hz hall
      obtain ⟨p, hp⟩ : ∃ p, wd (allN L id k) = p := ⟨_, rfl⟩
      have HP := Lib.hid hp
      rw [hp] at a0 a1 a2 a3 HZ
      clear hp
      go_wp2
      obtain ⟨y0, y1, y2, y3⟩ := HZ.out
      refine bodyPost_ret (v := .agg #[.int .u64 (p 0), .int .u64 (p 1), .int .u64 (p 2), .int .u64 (p 3)]) ?_ rfl ⟨by rw [← HP.out], ?_⟩
      · simp [results, Try.results38, go_sem, y0, y1, y2, y3]
      · exact below_set4 HA.out.low (Nat.le_refl _) (p 0) (p 1) (p 2) (p 3)
end Go.Proofs.Ytlglncnhhgofoaa

/-
  The walk over the higher ones of a row of tasks.
-/
namespace Go.Proofs.Ytlglncnhhgofoaa
open Go.RowKit Go.Maps Go.Shelf

/-- The rest of a row cleared. -/
theorem clear_row {w : World} {B go n c : Nat} {M : List TV} (h : OwnT w B (.slice (some ⟨go, 0, none⟩) n c) M) {k : Nat} (hk : k < n) :
    ∃ w', (∀ ty, (Builtin.clear_ #[25] ty #[.slice (some ⟨go, k * 7, none⟩) (n - k) (c - k)]).run Try.prog w = .ok (.tuple #[]) w') ∧ OwnT w' B (.slice (some ⟨go, 0, none⟩) k c) (M.take k) ∧ KeepI w w' ∧ Below B w w' := by
  rcases h with ⟨h0, q | ⟨g, cap, cur, e, hb, h3, h1, h2, h4, h5⟩⟩
  · cases q.1
  · obtain ⟨rfl, hM, rfl⟩ : go = g ∧ M.length = n ∧ c = cap := by
      simp only [Value.slice.injEq, Option.some.injEq, Addr.mk.injEq] at e
      exact ⟨e.1.1, e.2.1.symm, e.2.2⟩
    have hz : ∀ m : Nat, ((Builtin.zeroCells (Value.agg #[.int .i64 0, .int .i64 0, .int .i64 0, .int .i64 0, .int .i64 0, .slice none 0 0, .slice none 0 0]).cells m).toList).length = m * 7 := by
      intro m; simp [Builtin.zeroCells, Value.cells]
    have h1c : ∀ m : Nat, ∀ v ∈ (Builtin.zeroCells (Value.agg #[.int .i64 0, .int .i64 0, .int .i64 0, .int .i64 0, .int .i64 0, .slice none 0 0, .slice none 0 0]).cells m).toList, v.oneCell' = true := by
      intro m v hv
      simp only [Builtin.zeroCells, Value.cells, Array.toList_map, List.mem_map] at hv
      obtain ⟨i, _, rfl⟩ := hv
      have hi : i % 7 < 7 := Nat.mod_lt _ (by omega)
      show ((#[Value.int .i64 0, .int .i64 0, .int .i64 0, .int .i64 0, .int .i64 0, .slice none 0 0, .slice none 0 0] : Array Value)[i % 7]!).oneCell' = true
      match i % 7, hi with
      | 0, _ => rfl
      | 1, _ => rfl
      | 2, _ => rfl
      | 3, _ => rfl
      | 4, _ => rfl
      | 5, _ => rfl
      | 6, _ => rfl
    obtain ⟨Z, hZ, hzl, hz1⟩ : ∃ Z : List Value, (Builtin.zeroCells (Value.agg #[.int .i64 0, .int .i64 0, .int .i64 0, .int .i64 0, .int .i64 0, .slice none 0 0, .slice none 0 0]).cells (n - k)).toList = Z ∧ Z.length = (n - k) * 7 ∧ ∀ v ∈ Z, v.oneCell' = true := ⟨_, rfl, hz _, h1c _⟩
    have hfit : k * 7 + 0 + Z.length ≤ cur.size := by rw [h4, hzl]; have := Nat.mul_le_mul_right 7 h1; rw [hM] at this; omega
    have hst := run_storeCells_at Try.prog go (k * 7) TT Z 0 cur w h3 hfit hz1
    refine ⟨w.setRow go (cur.toList.take (k * 7 + 0) ++ Z ++ cur.toList.drop (k * 7 + 0 + Z.length)).toArray, fun ty => ?_, ?_, ?_, ?_⟩
    · obtain ⟨m, hm⟩ : ∃ m, n - k = m + 1 := ⟨n - k - 1, by omega⟩
      rw [hm] at hZ ⊢
      simp [Builtin.clear_, run_underlying Try.underlying25, zeroTask, hZ, hst]
    · have hlk : (M.take k).length = k := by rw [List.length_take, hM]; omega
      refine ⟨by rw [flat_len], .inr ⟨go, c, _, by rw [hlk], hb, setRow_heap w go cur _ TT (0, 0) h3, by rw [hlk]; omega, h2, ?_, ?_⟩⟩
      · simp only [List.size_toArray, List.length_append, List.length_take, List.length_drop, Array.length_toList]
        rw [hzl] at hfit ⊢
        omega
      · rw [hlk, flat_take, ← h5, hM, List.take_take]
        simp only [Nat.add_zero]
        rw [List.append_assoc, List.take_append_of_le_length (by rw [List.length_take, Array.length_toList]; omega), List.take_take]
        congr 1; omega
    · intro b cs T fr hc hT
      refine setRow_other w go b _ ?_
      rintro rfl
      rw [h3] at hc
      simp at hc
      rcases hT with q | q <;> rw [q] at hc <;> exact absurd hc.2.1 (by decide)
    · exact ⟨rfl, rfl, rfl, by simp [World.setRow], fun b hbB => setRow_other w go b _ (by omega)⟩

theorem filter_none {M : List TV} {q : Int} (h : ∀ x ∈ M, decide (q ≤ x.p) = false) : M.filter (fun x => decide (x.p < q)) = M := by
  rw [List.filter_eq_self]
  intro x hx
  have := h x hx
  simp only [decide_eq_false_iff_not, decide_eq_true_eq] at this ⊢
  omega
theorem filter_some {M : List TV} {q : Int} {k : Nat} {x : TV} (hs : M.Pairwise (fun x y => x.p ≤ y.p)) (hx : M[k]? = some x) (hp : decide (q ≤ x.p) = true) (ha : ∀ (j : Nat) (y : TV), j < k → M[j]? = some y → decide (q ≤ y.p) = false) :
    M.filter (fun x => decide (x.p < q)) = M.take k ∧ ∀ (j : Nat) (y : TV), k ≤ j → M[j]? = some y → decide (q ≤ y.p) = true := by
  obtain ⟨hkl, hke⟩ := List.getElem?_eq_some_iff.1 hx
  simp only [decide_eq_true_eq] at hp
  have hall : ∀ (j : Nat) (y : TV), k ≤ j → M[j]? = some y → q ≤ y.p := by
    intro j y hj hy
    rcases Nat.lt_or_ge k j with h | h
    · obtain ⟨hjl, hje⟩ := List.getElem?_eq_some_iff.1 hy
      have := (List.pairwise_iff_getElem.1 hs) k j hkl hjl h
      rw [hke, hje] at this
      omega
    · obtain rfl : j = k := by omega
      rw [hx] at hy; cases hy; exact hp
  refine ⟨?_, fun j y hj hy => by simp only [decide_eq_true_eq]; exact hall j y hj hy⟩
  have e : M.filter (fun x => decide (x.p < q)) = (M.take k).filter (fun x => decide (x.p < q)) ++ (M.drop k).filter (fun x => decide (x.p < q)) := by
    rw [← List.filter_append, List.take_append_drop]
  have e1 : (M.take k).filter (fun x => decide (x.p < q)) = M.take k := by
    rw [List.filter_eq_self]
    intro y hy
    obtain ⟨j, hj⟩ := List.mem_iff_getElem?.1 hy
    rw [List.getElem?_take] at hj
    split at hj
    · rename_i hjk
      have := ha j y hjk hj
      simp only [decide_eq_false_iff_not, decide_eq_true_eq] at this ⊢
      omega
    · cases hj
  have e2 : (M.drop k).filter (fun x => decide (x.p < q)) = [] := by
    rw [List.filter_eq_nil_iff]
    intro y hy
    obtain ⟨j, hj⟩ := List.mem_iff_getElem?.1 hy
    rw [List.getElem?_drop] at hj
    have := hall (k + j) y (by omega) hj
    simp only [decide_eq_true_eq]
    omega
  rw [e, e1, e2, List.append_nil]

/-- The higher ones that come back. -/
def DelBack (B go n c : Nat) (M : List TV) (q : Int) (w : World) (e : Ending) (w' : World) : Prop :=
  ∃ k : Nat, e = .returned (.slice (some ⟨go, 0, none⟩) k c) ∧ k ≤ n ∧ OwnT w' B (.slice (some ⟨go, 0, none⟩) k c) (M.take k) ∧ AllOk w' (M.take k) ∧ M.filter (fun x => decide (x.p < q)) = M.take k ∧ Below B w w'

end Go.Proofs.Ytlglncnhhgofoaa

/-
  The walk over the tasks that are higher than one.
-/
namespace Go.Proofs.Ytlglncnhhgofoaa
open Go.RowKit Go.Maps Go.Shelf

/-- The tasks that are higher than that of a number, by priority; none, if there is no such task. -/
def Highs (L : List Tk) (id : Int) (M : List Tk) : Prop :=
  (findTk L id = none ∧ M = []) ∨ ∃ (t : Tk) (K : List Tk), findTk L id = some t ∧ Ranks L K ∧ M = K.filter (fun x => decide (x.p < t.p))
/-- A row of tasks that comes back. -/
def RowOf (K : List Tk → Prop) (w : World) (e : Ending) (w' : World) : Prop :=
  ∃ (a : Option Addr) (n c : Nat) (M : List TV), e = .returned (.slice a n c) ∧ Tasks w' a n c M ∧ K (M.map TV.tk) ∧ Below w.heap.size w w'
theorem OwnT.length {w : World} {B n c : Nat} {a : Option Addr} {l : List TV} (h : OwnT w B (.slice a n c) l) : l.length = n := by
  obtain ⟨a', c', e, _⟩ := h.slice
  simp only [Value.slice.injEq] at e
  exact e.2.1.symm

end Go.Proofs.Ytlglncnhhgofoaa

/-
  The walk over the document's task of a number.
-/
namespace Go.Proofs.Ytlglncnhhgofoaa
open Go.RowKit Go.Maps Go.Shelf

/-- A system in a box, a task that comes back. -/
structure RFindAt (w : World) (s r : Int) (a : Option Addr) (n cap : Nat) (W : World) : Prop where
  low : Below w.heap.size w W
  box : W.heap[w.heap.size]? = some (.cells #[.int .i64 s, .int .i64 r, .slice a n cap] 27 (0, 0))
  res : W.heap[w.heap.size + 1]? = some (.cells #[.int .i64 0, .int .i64 0, .int .i64 0, .int .i64 0, .int .i64 0, .slice none 0 0, .slice none 0 0] TT (0, 0))
theorem rfindAt_new {w : World} {s r : Int} {a : Option Addr} {n cap : Nat} : RFindAt w s r a n cap ((w.alloc (.cells #[.int .i64 s, .int .i64 r, .slice a n cap] 27)).alloc (.cells #[.int .i64 0, .int .i64 0, .int .i64 0, .int .i64 0, .int .i64 0, .slice none 0 0, .slice none 0 0] TT)) := by
  refine ⟨(by repeat (first | exact Below.refl _ _ | (with_reducible assumption) | refine bw_alloc ?_ _ | refine bw_drew ?_)), ?_, ?_⟩
  · rw [Below.heap_alloc _ _ _ (by simp)]; exact heap_alloc_new w _
  · have := heap_alloc_new (w.alloc (.cells #[.int .i64 s, .int .i64 r, .slice a n cap] 27)) (.cells #[.int .i64 0, .int .i64 0, .int .i64 0, .int .i64 0, .int .i64 0, .slice none 0 0, .slice none 0 0] TT)
    rwa [World.size_alloc] at this
theorem RFindAt.miss {w W : World} {s r id : Int} {a : Option Addr} {n cap : Nat} {L : List TV} (h : RFindAt w s r a n cap W) (hf : findTk (L.map TV.tk) id = none) (x0 x1 x2 x3 x4 x5 x6 : Value) :
    FindBack L id w (.returned (.tuple #[.agg #[.int .i64 0, .int .i64 0, .int .i64 0, .int .i64 0, .int .i64 0, .slice none 0 0, .slice none 0 0], .bool false])) ((((((((W.setCell ⟨w.heap.size + 1, 0, none⟩ x0).setCell ⟨w.heap.size + 1, 1, none⟩ x1).setCell ⟨w.heap.size + 1, 2, none⟩ x2).setCell ⟨w.heap.size + 1, 3, none⟩ x3).setCell ⟨w.heap.size + 1, 4, none⟩ x4).setCell ⟨w.heap.size + 1, 5, none⟩ x5).setCell ⟨w.heap.size + 1, 6, none⟩ x6)) :=
  ⟨tv0, false, rfl, tv0_ok _, ⟨.inl rfl, .inl rfl⟩, .inr ⟨rfl, hf, rfl⟩, below_set7 h.low (by omega) x0 x1 x2 x3 x4 x5 x6⟩
theorem RFindAt.hit {w W : World} {s r id : Int} {a : Option Addr} {n cap : Nat} {L : List TV} {y : TV} (h : RFindAt w s r a n cap W) (hf : findTk (L.map TV.tk) id = some y.tk) (hy : y.ok W) (hi : IsI W y.a1 y.ch ∧ IsI W y.a2 y.us) (x0 x1 x2 x3 x4 x5 x6 : Value) :
    FindBack L id w (.returned (.tuple #[.agg #[.int .i64 y.id, .int .i64 y.c, .int .i64 y.d, .int .i64 y.t, .int .i64 y.p, .slice y.a1 y.ch.length y.c1, .slice y.a2 y.us.length y.c2], .bool true])) ((((((((W.setCell ⟨w.heap.size + 1, 0, none⟩ x0).setCell ⟨w.heap.size + 1, 1, none⟩ x1).setCell ⟨w.heap.size + 1, 2, none⟩ x2).setCell ⟨w.heap.size + 1, 3, none⟩ x3).setCell ⟨w.heap.size + 1, 4, none⟩ x4).setCell ⟨w.heap.size + 1, 5, none⟩ x5).setCell ⟨w.heap.size + 1, 6, none⟩ x6)) :=
  ⟨y, true, rfl, hy.kept hi (keepI_set7 h.res x0 x1 x2 x3 x4 x5 x6), ⟨hi.1.kept (keepI_set7 h.res x0 x1 x2 x3 x4 x5 x6), hi.2.kept (keepI_set7 h.res x0 x1 x2 x3 x4 x5 x6)⟩, .inl ⟨rfl, hf⟩, below_set7 h.low (by omega) x0 x1 x2 x3 x4 x5 x6⟩

set_option maxRecDepth 100000 in
set_option maxHeartbeats 4000000 in
theorem rfind_sys {w : World} {a : Option Addr} {n cap : Nat} {L : List TV} (s r id : Int) (ha : Tasks w a n cap L) (hi : IsAll w L) :
    Calls Try.prog 37 #[.agg #[.int .i64 s, .int .i64 r, .slice a n cap], .int .i64 id] w (FindBack L id w) := by
  have HA := Lib.hid ha
  have HI := Lib.hid hi
  have hz := zeroTask
  have hn9 : (n : Int) ≤ 9223372036854775807 := by have := ha.le; have := ha.small; omega
  clear ha hi
  go_enter Try.func37, Try.ntmps37
  go_upto_region 1 with fail
  refine gen_world (RFindAt w s r a n cap) rfindAt_new ?_
  intro W1 hw1
  have H1 := Lib.hid hw1
  have e2 : W1.cell? ⟨w.heap.size, 2, none⟩ = some (.slice a n cap) := by rw [blk_cell hw1.box]; rfl
  have hl1 : w.heap.size < W1.heap.size := lt_of_block hw1.box
  have hr1 : w.heap.size + 1 < W1.heap.size := lt_of_block hw1.res
  have r0 : W1.cell? ⟨w.heap.size + 1, 0, none⟩ = some (.int .i64 0) := by rw [blk_cell hw1.res]; rfl
  have r1 : W1.cell? ⟨w.heap.size + 1, 1, none⟩ = some (.int .i64 0) := by rw [blk_cell hw1.res]; rfl
  have r2 : W1.cell? ⟨w.heap.size + 1, 2, none⟩ = some (.int .i64 0) := by rw [blk_cell hw1.res]; rfl
  have r3 : W1.cell? ⟨w.heap.size + 1, 3, none⟩ = some (.int .i64 0) := by rw [blk_cell hw1.res]; rfl
  have r4 : W1.cell? ⟨w.heap.size + 1, 4, none⟩ = some (.int .i64 0) := by rw [blk_cell hw1.res]; rfl
  have r5 : W1.cell? ⟨w.heap.size + 1, 5, none⟩ = some (.slice none 0 0) := by rw [blk_cell hw1.res]; rfl
  have r6 : W1.cell? ⟨w.heap.size + 1, 6, none⟩ = some (.slice none 0 0) := by rw [blk_cell hw1.res]; rfl
  have f0 := blk_free hw1.res 0
  have f1 := blk_free hw1.res 1
  have f2 := blk_free hw1.res 2
  have f3 := blk_free hw1.res 3
  have f4 := blk_free hw1.res 4
  have f5 := blk_free hw1.res 5
  have f6 := blk_free hw1.res 6
  clear hw1
  go_wp2_with fail
  go_loop [6] (fun u => ∃ k : Nat, k ≤ n ∧ u = .int .i64 k ∧ Hid (∀ (j : Nat) (y : TV), j < k → L[j]? = some y → decide (y.id = id) = false)) (fun u => (n - intOf u).toNat)
  case atStart => exact ⟨0, by omega, rfl, fun j y hj => absurd hj (Nat.not_lt_zero _)⟩
  case round =>
    obtain ⟨k, hk, rfl, HS⟩ := hrel
    by_cases hlt : k < n
    · obtain ⟨x, hx⟩ := nth_of HA.out.len hlt
      obtain ⟨g, o, rfl, ⟨c0, c1, c2, c3, c4, c5, c6⟩⟩ := (HA.out.view.below H1.out.low).at_ hx
      have hk1 : (k : Int) < (n : Int) := by omega
      have hk0 : (0 : Int) ≤ (k : Int) := by omega
      by_cases hq : x.id = id
      · have HX := Lib.hid (H1.out.hit (told_some hx (decide_eq_true hq) HS.out) ((HA.out.ok.at_ hx).below H1.out.low) ⟨(HI.out x (List.mem_of_getElem? hx)).1.below H1.out.low, (HI.out x (List.mem_of_getElem? hx)).2.below H1.out.low⟩)
        have d1 : (x.id == id) = true := by rw [beq_iff_eq]; exact hq
        clear hq hx HS
        go_wp2_with fail
        exact bodyPost_ret (v := .tuple #[.agg #[.int .i64 x.id, .int .i64 x.c, .int .i64 x.d, .int .i64 x.t, .int .i64 x.p, .slice x.a1 x.ch.length x.c1, .slice x.a2 x.us.length x.c2], .bool true]) (by simp [results, Try.results37, go_sem, r0, r1, r2, r3, r4, r5, r6]) rfl (HX.out _ _ _ _ _ _ _)
      · have HS2 : Hid (∀ (j : Nat) (y : TV), j < k + 1 → L[j]? = some y → decide (y.id = id) = false) := fun j y hj hy => by
          rcases Nat.lt_or_ge j k with h | h
          · exact HS.out j y h hy
          · obtain rfl : j = k := by omega
            rw [hx] at hy; cases hy; exact decide_eq_false hq
        have d1 : (x.id == id) = false := by rw [beq_eq_false_iff_ne]; exact hq
        clear hq hx HS
        go_wp2_with fail
        go_round
        case rel => exact ⟨k + 1, by omega, by go_num, HS2⟩
        case measure => simp [intOf]; omega
    · obtain rfl : n = k := by omega
      have HX := Lib.hid (H1.out.miss (L := L) (id := id) (told_none (fun x hx => by
        obtain ⟨j, hj⟩ := List.mem_iff_getElem?.1 hx
        exact HS.out j x (by have := (List.getElem?_eq_some_iff.1 hj).1; have := HA.out.len; omega) hj)))
      go_wp2_with fail
      exact bodyPost_ret (v := .tuple #[.agg #[.int .i64 0, .int .i64 0, .int .i64 0, .int .i64 0, .int .i64 0, .slice none 0 0, .slice none 0 0], .bool false]) (by simp [results, Try.results37, go_sem, r0, r1, r2, r3, r4, r5, r6]) rfl (HX.out _ _ _ _ _ _ _)
end Go.Proofs.Ytlglncnhhgofoaa

/-
  The walks over the document's Find, of any system, and over its charges of a task.
-/
namespace Go.Proofs.Ytlglncnhhgofoaa
open Go.RowKit Go.Maps

/-- The task of a number, told; its rows can be read. -/
def RawBack (L : List TV) (id : Int) (w : World) (e : Ending) (w' : World) : Prop :=
  ∃ (y : TV) (b : Bool), e = .returned (.tuple #[.agg #[.int .i64 y.id, .int .i64 y.c, .int .i64 y.d, .int .i64 y.t, .int .i64 y.p, .slice y.a1 y.ch.length y.c1, .slice y.a2 y.us.length y.c2], .bool b]) ∧ y.ok w' ∧ Told L id y b ∧ Below w.heap.size w w'
theorem RFindAt.rmiss {w W : World} {s r id : Int} {a : Option Addr} {n cap : Nat} {L : List TV} (h : RFindAt w s r a n cap W) (hf : findTk (L.map TV.tk) id = none) (x0 x1 x2 x3 x4 x5 x6 : Value) :
    RawBack L id w (.returned (.tuple #[.agg #[.int .i64 0, .int .i64 0, .int .i64 0, .int .i64 0, .int .i64 0, .slice none 0 0, .slice none 0 0], .bool false])) ((((((((W.setCell ⟨w.heap.size + 1, 0, none⟩ x0).setCell ⟨w.heap.size + 1, 1, none⟩ x1).setCell ⟨w.heap.size + 1, 2, none⟩ x2).setCell ⟨w.heap.size + 1, 3, none⟩ x3).setCell ⟨w.heap.size + 1, 4, none⟩ x4).setCell ⟨w.heap.size + 1, 5, none⟩ x5).setCell ⟨w.heap.size + 1, 6, none⟩ x6)) :=
  ⟨tv0, false, rfl, tv0_ok _, .inr ⟨rfl, hf, rfl⟩, below_set7 h.low (by omega) x0 x1 x2 x3 x4 x5 x6⟩
theorem RFindAt.rhit {w W : World} {s r id : Int} {a : Option Addr} {n cap : Nat} {L : List TV} {y : TV} (h : RFindAt w s r a n cap W) (hf : findTk (L.map TV.tk) id = some y.tk) (hy : y.ok w) (x0 x1 x2 x3 x4 x5 x6 : Value) :
    RawBack L id w (.returned (.tuple #[.agg #[.int .i64 y.id, .int .i64 y.c, .int .i64 y.d, .int .i64 y.t, .int .i64 y.p, .slice y.a1 y.ch.length y.c1, .slice y.a2 y.us.length y.c2], .bool true])) ((((((((W.setCell ⟨w.heap.size + 1, 0, none⟩ x0).setCell ⟨w.heap.size + 1, 1, none⟩ x1).setCell ⟨w.heap.size + 1, 2, none⟩ x2).setCell ⟨w.heap.size + 1, 3, none⟩ x3).setCell ⟨w.heap.size + 1, 4, none⟩ x4).setCell ⟨w.heap.size + 1, 5, none⟩ x5).setCell ⟨w.heap.size + 1, 6, none⟩ x6)) :=
  ⟨y, true, rfl, hy.below (below_set7 h.low (by omega) x0 x1 x2 x3 x4 x5 x6), .inl ⟨rfl, hf⟩, below_set7 h.low (by omega) x0 x1 x2 x3 x4 x5 x6⟩

set_option maxRecDepth 100000 in
set_option maxHeartbeats 4000000 in
theorem rfind_raw {w : World} {a : Option Addr} {n cap : Nat} {L : List TV} (s r id : Int) (ha : Tasks w a n cap L) :
    Calls Try.prog 37 #[.agg #[.int .i64 s, .int .i64 r, .slice a n cap], .int .i64 id] w (RawBack L id w) := by
  have HA := Lib.hid ha
  have hz := zeroTask
  have hn9 : (n : Int) ≤ 9223372036854775807 := by have := ha.le; have := ha.small; omega
  clear ha
  go_enter Try.func37, Try.ntmps37
  go_upto_region 1 with fail
  refine gen_world (RFindAt w s r a n cap) rfindAt_new ?_
  intro W1 hw1
  have H1 := Lib.hid hw1
  have e2 : W1.cell? ⟨w.heap.size, 2, none⟩ = some (.slice a n cap) := by rw [blk_cell hw1.box]; rfl
  have hl1 : w.heap.size < W1.heap.size := lt_of_block hw1.box
  have hr1 : w.heap.size + 1 < W1.heap.size := lt_of_block hw1.res
  have r0 : W1.cell? ⟨w.heap.size + 1, 0, none⟩ = some (.int .i64 0) := by rw [blk_cell hw1.res]; rfl
  have r1 : W1.cell? ⟨w.heap.size + 1, 1, none⟩ = some (.int .i64 0) := by rw [blk_cell hw1.res]; rfl
  have r2 : W1.cell? ⟨w.heap.size + 1, 2, none⟩ = some (.int .i64 0) := by rw [blk_cell hw1.res]; rfl
  have r3 : W1.cell? ⟨w.heap.size + 1, 3, none⟩ = some (.int .i64 0) := by rw [blk_cell hw1.res]; rfl
  have r4 : W1.cell? ⟨w.heap.size + 1, 4, none⟩ = some (.int .i64 0) := by rw [blk_cell hw1.res]; rfl
  have r5 : W1.cell? ⟨w.heap.size + 1, 5, none⟩ = some (.slice none 0 0) := by rw [blk_cell hw1.res]; rfl
  have r6 : W1.cell? ⟨w.heap.size + 1, 6, none⟩ = some (.slice none 0 0) := by rw [blk_cell hw1.res]; rfl
  have f0 := blk_free hw1.res 0
  have f1 := blk_free hw1.res 1
  have f2 := blk_free hw1.res 2
  have f3 := blk_free hw1.res 3
  have f4 := blk_free hw1.res 4
  have f5 := blk_free hw1.res 5
  have f6 := blk_free hw1.res 6
  clear hw1
  go_wp2_with fail
  go_loop [6] (fun u => ∃ k : Nat, k ≤ n ∧ u = .int .i64 k ∧ Hid (∀ (j : Nat) (y : TV), j < k → L[j]? = some y → decide (y.id = id) = false)) (fun u => (n - intOf u).toNat)
  case atStart => exact ⟨0, by omega, rfl, fun j y hj => absurd hj (Nat.not_lt_zero _)⟩
  case round =>
    obtain ⟨k, hk, rfl, HS⟩ := hrel
    by_cases hlt : k < n
    · obtain ⟨x, hx⟩ := nth_of HA.out.len hlt
      obtain ⟨g, o, rfl, ⟨c0, c1, c2, c3, c4, c5, c6⟩⟩ := (HA.out.view.below H1.out.low).at_ hx
      have hk1 : (k : Int) < (n : Int) := by omega
      have hk0 : (0 : Int) ≤ (k : Int) := by omega
      by_cases hq : x.id = id
      · have HX := Lib.hid (H1.out.rhit (told_some hx (decide_eq_true hq) HS.out) (HA.out.ok.at_ hx))
        have d1 : (x.id == id) = true := by rw [beq_iff_eq]; exact hq
        clear hq hx HS
        go_wp2_with fail
        exact bodyPost_ret (v := .tuple #[.agg #[.int .i64 x.id, .int .i64 x.c, .int .i64 x.d, .int .i64 x.t, .int .i64 x.p, .slice x.a1 x.ch.length x.c1, .slice x.a2 x.us.length x.c2], .bool true]) (by simp [results, Try.results37, go_sem, r0, r1, r2, r3, r4, r5, r6]) rfl (HX.out _ _ _ _ _ _ _)
      · have HS2 : Hid (∀ (j : Nat) (y : TV), j < k + 1 → L[j]? = some y → decide (y.id = id) = false) := fun j y hj hy => by
          rcases Nat.lt_or_ge j k with h | h
          · exact HS.out j y h hy
          · obtain rfl : j = k := by omega
            rw [hx] at hy; cases hy; exact decide_eq_false hq
        have d1 : (x.id == id) = false := by rw [beq_eq_false_iff_ne]; exact hq
        clear hq hx HS
        go_wp2_with fail
        go_round
        case rel => exact ⟨k + 1, by omega, by go_num, HS2⟩
        case measure => simp [intOf]; omega
    · obtain rfl : n = k := by omega
      have HX := Lib.hid (H1.out.rmiss (L := L) (id := id) (told_none (fun x hx => by
        obtain ⟨j, hj⟩ := List.mem_iff_getElem?.1 hx
        exact HS.out j x (by have := (List.getElem?_eq_some_iff.1 hj).1; have := HA.out.len; omega) hj)))
      go_wp2_with fail
      exact bodyPost_ret (v := .tuple #[.agg #[.int .i64 0, .int .i64 0, .int .i64 0, .int .i64 0, .int .i64 0, .slice none 0 0, .slice none 0 0], .bool false]) (by simp [results, Try.results37, go_sem, r0, r1, r2, r3, r4, r5, r6]) rfl (HX.out _ _ _ _ _ _ _)

theorem told_tkR {L : List TV} {id : Int} {y : TV} (h : findTk (L.map TV.tk) id = some y.tk) : ∃ x ∈ L, x.tk = y.tk := by
  unfold findTk at h
  have := List.mem_of_find?_eq_some h
  obtain ⟨x, hx, e⟩ := List.mem_map.1 this
  exact ⟨x, hx, e⟩
theorem told_of_tkR {x y : TV} (h : l_Told x) (e : x.tk = y.tk) : l_Told y := by
  have e1 : x.c = y.c := congrArg Tk.c e
  have e2 : x.us = y.us := congrArg Tk.us e
  exact ⟨e1 ▸ h.c1, e1 ▸ h.c30, e2 ▸ h.n64, e2 ▸ h.us⟩
theorem find_idR {L : List TV} {id : Int} {y : TV} (h : findTk (L.map TV.tk) id = some y.tk) : y.id = id := by
  unfold findTk at h
  have := List.find?_some h
  exact of_decide_eq_true this
/-- What the document's charges are. -/
def ofVal (id : Int) (o : Option Cg) : Value := match o with
  | some c => .agg #[.int .i64 id, .int .i64 c.u, .int .i64 c.v, .int .i64 c.b, .int .i64 c.b]
  | none => .agg #[.int .i64 0, .int .i64 0, .int .i64 0, .int .i64 0, .int .i64 0]
/-- The boxes of the document's charges: a system, what comes back, a task, all that others use, the set of all. -/
structure RofAt (w : World) (s r : Int) (a : Option Addr) (n cap gt : Nat) (y : TV) (ga : Nat) (o : Nat → Nat) (gw : Nat) (p : Nat → Nat) (V : World) : Prop where
  low : Below w.heap.size w V
  sys : V.heap[w.heap.size]? = some (.cells #[.int .i64 s, .int .i64 r, .slice a n cap] 27 (0, 0))
  res : Blk5 V (w.heap.size + 1) 0 0 0 0 0
  tb : V.heap[gt]? = some (.cells #[.int .i64 y.id, .int .i64 y.c, .int .i64 y.d, .int .i64 y.t, .int .i64 y.p, .slice y.a1 y.ch.length y.c1, .slice y.a2 y.us.length y.c2] TT (0, 0))
  ab : V.heap[ga]? = some (.cells #[.int .u64 (o 0), .int .u64 (o 1), .int .u64 (o 2), .int .u64 (o 3)] ST4 (0, 0))
  wb : V.heap[gw]? = some (.cells #[.int .u64 (p 0), .int .u64 (p 1), .int .u64 (p 2), .int .u64 (p 3)] ST4 (0, 0))
  l1 : w.heap.size + 1 < gt
  l2 : gt < ga
  l3 : ga < gw
theorem RofAt.below {w : World} {s r : Int} {a : Option Addr} {n cap gt : Nat} {y : TV} {ga : Nat} {o : Nat → Nat} {gw : Nat} {p : Nat → Nat} {V V' : World} (h : RofAt w s r a n cap gt y ga o gw p V) (hb : Below V.heap.size V V') : RofAt w s r a n cap gt y ga o gw p V' :=
  ⟨below_up h.low hb, kept_obj hb h.sys, kept_obj hb h.res, kept_obj hb h.tb, kept_obj hb h.ab, kept_obj hb h.wb, h.l1, h.l2, h.l3⟩
theorem RofAt.put {w : World} {s r : Int} {a : Option Addr} {n cap gt : Nat} {y : TV} {ga : Nat} {o : Nat → Nat} {gw : Nat} {p : Nat → Nat} {V : World} (h : RofAt w s r a n cap gt y ga o gw p V) (q : Nat → Nat) : RofAt w s r a n cap gt y ga o gw q ((((V.setCell ⟨gw, 0, none⟩ (.int .u64 (q 0))).setCell ⟨gw, 1, none⟩ (.int .u64 (q 1))).setCell ⟨gw, 2, none⟩ (.int .u64 (q 2))).setCell ⟨gw, 3, none⟩ (.int .u64 (q 3))) := by
  have h1 := h.l1; have h2 := h.l2; have h3 := h.l3
  exact ⟨(((h.low.setCell (p := ⟨gw, 0, none⟩) (by show _ ≤ gw; omega) _).setCell (p := ⟨gw, 1, none⟩) (by show _ ≤ gw; omega) _).setCell (p := ⟨gw, 2, none⟩) (by show _ ≤ gw; omega) _).setCell (p := ⟨gw, 3, none⟩) (by show _ ≤ gw; omega) _,
    (set4_far (by omega) _ _ _ _).trans h.sys, (set4_far (by omega) _ _ _ _).trans h.res, (set4_far (by omega) _ _ _ _).trans h.tb, (set4_far (by omega) _ _ _ _).trans h.ab, Blk4.set (show Blk4 V gw _ _ _ _ from h.wb) (q 0) (q 1) (q 2) (q 3), h.l1, h.l2, h.l3⟩

set_option maxRecDepth 100000 in
set_option maxHeartbeats 16000000 in
theorem rof10_any {w : World} {a : Option Addr} {n cap : Nat} {L : List TV} (s r id : Int) (ha : Tasks w a n cap L) :
    Calls Try.prog 20 #[.agg #[.int .i64 s, .int .i64 r, .slice a n cap], .int .i64 id] w fun e w' => e = .returned (ofVal id (cgAt s r L id)) ∧ Below w.heap.size w w' := by
  have FC := Lib.hid (fun v (hb : Below w.heap.size w v) => rfind_raw s r id (ha.below hb))
  have KC := Lib.hid (fun v (hb : Below w.heap.size w v) => rcheck_any s r (ha.below hb))
  have HA := Lib.hid ha
  clear ha
  go_enter Try.func20, Try.ntmps20
  go_upto_region 1 with fail
  refine gen_world (fun v => Below w.heap.size w v ∧ v.heap[w.heap.size]? = some (.cells #[.int .i64 s, .int .i64 r, .slice a n cap] 27 (0, 0)) ∧ Blk5 v (w.heap.size + 1) 0 0 0 0 0) ⟨(by repeat (first | exact Below.refl _ _ | (with_reducible assumption) | refine bw_alloc ?_ _ | refine bw_drew ?_)), (two_boxes w rfl _ _).1, (two_boxes w rfl _ _).2⟩ ?_
  intro V0 ⟨hl0, hs0, hr0⟩
  have HL0 := Lib.hid hl0
  have HS0 := Lib.hid hs0
  have HR0 := Lib.hid hr0
  have s0 : V0.cell? ⟨w.heap.size, 0, none⟩ = some (.int .i64 s) := by rw [blk_cell hs0]; rfl
  have s1 : V0.cell? ⟨w.heap.size, 1, none⟩ = some (.int .i64 r) := by rw [blk_cell hs0]; rfl
  have s2 : V0.cell? ⟨w.heap.size, 2, none⟩ = some (.slice a n cap) := by rw [blk_cell hs0]; rfl
  clear hl0 hs0 hr0
  go_upto_region 2 with (go_at_call 37; (with_reducible refine (FC.out _ HL0.out).mono ?_); rintro e w2 ⟨y, b, rfl, hy, hto, b2⟩; have H2 := Lib.hid (And.intro hy (And.intro hto b2)); clear hy hto b2)
  obtain ⟨hok, hto, b2⟩ := H2.out
  have HTO := Lib.hid hto
  obtain ⟨gt, hgt⟩ : ∃ gt, w2.heap.size = gt := ⟨_, rfl⟩
  have hq2 := heap_alloc_new w2 (.cells #[.int .i64 y.id, .int .i64 y.c, .int .i64 y.d, .int .i64 y.t, .int .i64 y.p, .slice y.a1 y.ch.length y.c1, .slice y.a2 y.us.length y.c2] TT)
  rw [hgt] at hq2 ⊢
  refine gen_world (fun v => Below V0.heap.size V0 v ∧ v.heap[gt]? = some (.cells #[.int .i64 y.id, .int .i64 y.c, .int .i64 y.d, .int .i64 y.t, .int .i64 y.p, .slice y.a1 y.ch.length y.c1, .slice y.a2 y.us.length y.c2] TT (0, 0)) ∧ y.ok v ∧ V0.heap.size ≤ gt) ⟨below_up b2 (by repeat (first | exact Below.refl _ _ | (with_reducible assumption) | refine bw_alloc ?_ _ | refine bw_drew ?_)), hq2, hok.below (by repeat (first | exact Below.refl _ _ | (with_reducible assumption) | refine bw_alloc ?_ _ | refine bw_drew ?_)), by rw [← hgt]; exact b2.size⟩ ?_
  intro V1 ⟨hb1, ht1, hok1, hgl⟩
  have HB1 := Lib.hid hb1
  have HT1 := Lib.hid ht1
  have HOK1 := Lib.hid hok1
  have HGL : Hid (w.heap.size + 1 < gt) := Nat.lt_of_lt_of_le (lt_of_block HR0.out) hgl
  have hs1 := kept_obj hb1 HS0.out
  have hr1 := kept_obj hb1 HR0.out
  have s0 : V1.cell? ⟨w.heap.size, 0, none⟩ = some (.int .i64 s) := by rw [blk_cell hs1]; rfl
  have s1 : V1.cell? ⟨w.heap.size, 1, none⟩ = some (.int .i64 r) := by rw [blk_cell hs1]; rfl
  have s2 : V1.cell? ⟨w.heap.size, 2, none⟩ = some (.slice a n cap) := by rw [blk_cell hs1]; rfl
  clear hok hto b2 hq2 hgt H2 hb1 ht1 hok1 hgl hs1 hr1
  by_cases hbad : b = false ∨ ¬ checkOf s r L = 0
  · have HNONE : Hid (cgAt s r L id = none) := by
      rcases hbad with rfl | h
      · rcases HTO.out with ⟨q, _⟩ | ⟨_, q, _⟩
        · cases q
        · exact cgAt_none q
      · exact cgAt_bad h id
    have hr1 := kept_obj HB1.out HR0.out
    have fin : Hid (∀ v, Below V1.heap.size V1 v → Blk5 v (w.heap.size + 1) 0 0 0 0 0 ∧ Below w.heap.size w v) := fun v hb => ⟨kept_obj hb hr1, below_up (below_up HL0.out HB1.out) hb⟩
    have z0 : V1.cell? ⟨w.heap.size + 1, 0, none⟩ = some (.int .i64 0) := by rw [blk_cell hr1]; rfl
    have z1 : V1.cell? ⟨w.heap.size + 1, 1, none⟩ = some (.int .i64 0) := by rw [blk_cell hr1]; rfl
    have z2 : V1.cell? ⟨w.heap.size + 1, 2, none⟩ = some (.int .i64 0) := by rw [blk_cell hr1]; rfl
    have z3 : V1.cell? ⟨w.heap.size + 1, 3, none⟩ = some (.int .i64 0) := by rw [blk_cell hr1]; rfl
    have z4 : V1.cell? ⟨w.heap.size + 1, 4, none⟩ = some (.int .i64 0) := by rw [blk_cell hr1]; rfl
    have f0 := blk_free hr1 0
    have f1 := blk_free hr1 1
    have f2 := blk_free hr1 2
    have f3 := blk_free hr1 3
    have f4 := blk_free hr1 4
    have HF1 := Lib.hid (fin.out V1 (Below.refl _ _))
    cases b with
    | false =>
      clear hbad hr1
      go_wp2_with fail
      have hzz := Blk5.set HF1.out.1 0 0 0 0 0
      unfold Blk5 at hzz
      have y0 := blk_cell (o := 0) hzz
      have y1 := blk_cell (o := 1) hzz
      have y2 := blk_cell (o := 2) hzz
      have y3 := blk_cell (o := 3) hzz
      have y4 := blk_cell (o := 4) hzz
      refine bodyPost_ret (v := .agg #[.int .i64 0, .int .i64 0, .int .i64 0, .int .i64 0, .int .i64 0]) ?_ rfl ⟨by rw [HNONE.out]; rfl, ?_⟩
      · simp [results, Try.results20, go_sem, y0, y1, y2, y3, y4]
      · exact ((((HF1.out.2.setCell (p := ⟨w.heap.size + 1, 0, none⟩) (Nat.le_succ _) _).setCell (p := ⟨w.heap.size + 1, 1, none⟩) (Nat.le_succ _) _).setCell (p := ⟨w.heap.size + 1, 2, none⟩) (Nat.le_succ _) _).setCell (p := ⟨w.heap.size + 1, 3, none⟩) (Nat.le_succ _) _).setCell (p := ⟨w.heap.size + 1, 4, none⟩) (Nat.le_succ _) _
    | true =>
      have hc : ¬ checkOf s r L = 0 := by
        rcases hbad with q | q
        · cases q
        · exact q
      have d1 : (checkOf s r L == 0) = false := by rw [beq_eq_false_iff_ne]; exact hc
      have d2 : (checkOf s r L != 0) = true := by rw [bne, d1]; rfl
      generalize checkOf s r L = q at *
      clear hbad hc hr1
      go_wp2_with (go_at_call 19; (with_reducible refine (KC.out _ (below_up HL0.out HB1.out)).mono ?_); rintro e w3 ⟨rfl, b3⟩; have hr3 := (fin.out _ b3).1; have HF3 := Lib.hid (fin.out _ b3); have z0 : w3.cell? ⟨w.heap.size + 1, 0, none⟩ = some (.int .i64 0) := (by rw [blk_cell hr3]; rfl); have z1 : w3.cell? ⟨w.heap.size + 1, 1, none⟩ = some (.int .i64 0) := (by rw [blk_cell hr3]; rfl); have z2 : w3.cell? ⟨w.heap.size + 1, 2, none⟩ = some (.int .i64 0) := (by rw [blk_cell hr3]; rfl); have z3 : w3.cell? ⟨w.heap.size + 1, 3, none⟩ = some (.int .i64 0) := (by rw [blk_cell hr3]; rfl); have z4 : w3.cell? ⟨w.heap.size + 1, 4, none⟩ = some (.int .i64 0) := (by rw [blk_cell hr3]; rfl); have f0 := blk_free hr3 0; have f1 := blk_free hr3 1; have f2 := blk_free hr3 2; have f3 := blk_free hr3 3; have f4 := blk_free hr3 4; clear b3 hr3)
      have hzz := Blk5.set HF3.out.1 0 0 0 0 0
      unfold Blk5 at hzz
      have y0 := blk_cell (o := 0) hzz
      have y1 := blk_cell (o := 1) hzz
      have y2 := blk_cell (o := 2) hzz
      have y3 := blk_cell (o := 3) hzz
      have y4 := blk_cell (o := 4) hzz
      refine bodyPost_ret (v := .agg #[.int .i64 0, .int .i64 0, .int .i64 0, .int .i64 0, .int .i64 0]) ?_ rfl ⟨by rw [HNONE.out]; rfl, ?_⟩
      · simp [results, Try.results20, go_sem, y0, y1, y2, y3, y4]
      · exact ((((HF3.out.2.setCell (p := ⟨w.heap.size + 1, 0, none⟩) (Nat.le_succ _) _).setCell (p := ⟨w.heap.size + 1, 1, none⟩) (Nat.le_succ _) _).setCell (p := ⟨w.heap.size + 1, 2, none⟩) (Nat.le_succ _) _).setCell (p := ⟨w.heap.size + 1, 3, none⟩) (Nat.le_succ _) _).setCell (p := ⟨w.heap.size + 1, 4, none⟩) (Nat.le_succ _) _
  · obtain rfl : b = true := by
      cases b with
      | false => exact absurd (.inl rfl) hbad
      | true => rfl
    have hc : checkOf s r L = 0 := by
      by_cases q : checkOf s r L = 0
      · exact q
      · exact absurd (.inr q) hbad
    have hf : findTk (L.map TV.tk) id = some y.tk := by
      rcases HTO.out with ⟨_, q⟩ | ⟨q, _⟩
      · exact q
      · cases q
    obtain ⟨_, hr, hl, ht⟩ := check_ok hc
    obtain ⟨hrr0, hrr1⟩ := hr
    have hyid : y.id = id := find_idR hf
    have HY : Hid (l_Told y) := by
      obtain ⟨x, hx, e⟩ := told_tkR hf
      exact told_of_tkR (ht x hx).1 e
    have HCG := Lib.hid (cgAt_some hc hf)
    rw [hc] at KC
    have hlen := HA.out.len
    obtain ⟨O, hO⟩ : ∃ O, allN L id n = O := ⟨_, rfl⟩
    have AC := Lib.hid (fun v (hb : Below w.heap.size w v) => rall_any L (fun T hT => (ht T hT).1) id v a n cap (by omega) (HA.out.below hb))
    rw [hO] at AC
    unfold SetBack at AC
    obtain ⟨K, hK⟩ : ∃ K : Nat, y.c = (K : Int) := ⟨y.c.toNat, by have := HY.out.c1; omega⟩
    have M1 := Lib.hid (fun v (hb : y.ok v) => rmost_any y HY.out K hK v hb (lowP 256))
    have M2 := Lib.hid (fun v (hb : y.ok v) => rmost_any y HY.out K hK v hb O)
    have LC := Lib.hid (fun v => rlen_any O v)
    have HCV : Hid (cgOf r L y.tk = ⟨r * ((mostOf y.us K (lowP 256)).1 : Nat), r * (cntN O 256 : Nat), r * ((mostOf y.us K O).1 : Nat)⟩) := by
      show _ = _
      unfold cgOf
      rw [hlen, show y.tk.us = y.us from rfl, show y.tk.id = y.id from rfl, show y.tk.c = y.c from rfl, hK, hyid, hO]; rfl
    obtain ⟨mu, hmu⟩ : ∃ mu, mostOf y.us K (lowP 256) = mu := ⟨_, rfl⟩
    obtain ⟨mb, hmb⟩ : ∃ mb, mostOf y.us K O = mb := ⟨_, rfl⟩
    obtain ⟨cv, hcv⟩ : ∃ cv, cntN O 256 = cv := ⟨_, rfl⟩
    have k1 : mu.1 ≤ 256 := by rw [← hmu]; exact most_le _ _ _
    have k2 : mb.1 ≤ 256 := by rw [← hmb]; exact most_le _ _ _
    have k3 : cv ≤ 256 := by rw [← hcv]; exact cntN_le _ _
    have hle := cg_least hrr0 L y.tk
    rw [HCV.out, hmu, hmb, hcv] at hle
    rw [hmu, hmb, hcv] at HCV
    rw [hmu] at M1
    rw [hmb] at M2
    rw [hcv] at LC
    have w1 := mul_wrap hrr0 hrr1 k1
    have w2x := mul_wrap hrr0 hrr1 k3
    have w3 := mul_wrap hrr0 hrr1 k2
    rw [HCV.out] at HCG
    obtain ⟨U, hU⟩ : ∃ U, r * (mu.1 : Int) = U := ⟨_, rfl⟩
    obtain ⟨V, hV⟩ : ∃ V, r * (cv : Int) = V := ⟨_, rfl⟩
    obtain ⟨B, hB⟩ : ∃ B, r * (mb.1 : Int) = B := ⟨_, rfl⟩
    simp only [hU, hV, hB] at hle HCG w1 w2x w3
    obtain ⟨le1, le2⟩ := hle
    have HU := Lib.hid hU
    have HV := Lib.hid hV
    have HBB := Lib.hid hB
    clear hbad hc hf ht hl hyid hlen hO hK hmu hmb hcv HCV hrr0 hrr1 k1 k2 k3 hU hV hB HTO
    go_upto_region 4 with (go_at_call 19; (with_reducible refine (KC.out _ (below_up HL0.out HB1.out)).mono ?_); rintro e w3 ⟨rfl, b3⟩; have HB3 := Lib.hid (below_up HB1.out b3); have HB13 := Lib.hid b3; have HT3 := Lib.hid (kept_obj b3 HT1.out); have HOK3 := Lib.hid (HOK1.out.below b3); clear b3)
    have s2 : w3.cell? ⟨w.heap.size, 2, none⟩ = some (.slice a n cap) := by rw [blk_cell (kept_obj HB3.out HS0.out)]; rfl
    go_upto_region 5 with (go_at_call 38; (with_reducible refine (AC.out _ (below_up HL0.out HB3.out)).mono ?_); rintro e w4 ⟨rfl, b4⟩; have HB4 := Lib.hid (below_up HB3.out b4); have HB14 := Lib.hid (below_up HB13.out b4); have HT4 := Lib.hid (kept_obj b4 HT3.out); have HOK4 := Lib.hid (HOK3.out.below b4); clear b4)
    go_upto_region 6 with fail
    obtain ⟨ga, hga⟩ : ∃ ga, w4.heap.size = ga := ⟨_, rfl⟩
    obtain ⟨qa, qb⟩ := two_boxes w4 hga (.cells #[.int .u64 (wd O 0), .int .u64 (wd O 1), .int .u64 (wd O 2), .int .u64 (wd O 3)] ST4) (.cells #[.int .u64 0, .int .u64 0, .int .u64 0, .int .u64 0] ST4)
    have hlt4 := lt_of_block HT4.out
    rw [hga] at hlt4 ⊢
    refine gen_world (fun v => RofAt w s r a n cap gt y ga (wd O) (ga + 1) (wd (lowP 0)) v ∧ Below V1.heap.size V1 v) ⟨⟨below_up (below_up HL0.out HB4.out) (by repeat (first | exact Below.refl _ _ | (with_reducible assumption) | refine bw_alloc ?_ _ | refine bw_drew ?_)), kept_obj (by repeat (first | exact Below.refl _ _ | (with_reducible assumption) | refine bw_alloc ?_ _ | refine bw_drew ?_)) (kept_obj HB4.out HS0.out), kept_obj (by repeat (first | exact Below.refl _ _ | (with_reducible assumption) | refine bw_alloc ?_ _ | refine bw_drew ?_)) (kept_obj HB4.out HR0.out), kept_obj (by repeat (first | exact Below.refl _ _ | (with_reducible assumption) | refine bw_alloc ?_ _ | refine bw_drew ?_)) HT4.out, qa, ?_, HGL.out, hlt4, Nat.lt_succ_self _⟩, below_up HB14.out (by repeat (first | exact Below.refl _ _ | (with_reducible assumption) | refine bw_alloc ?_ _ | refine bw_drew ?_))⟩ ?_
    · rw [lowP_zero, wd_none, wd_none, wd_none, wd_none]; exact qb
    intro V5 ⟨hv5, hb15⟩
    have HV5 := Lib.hid hv5
    have HB15 := Lib.hid hb15
    have HGE : Hid (V1.heap.size ≤ ga + 1) := by have := HB14.out.size; show _ ≤ _; omega
    have HSZ : Hid (ga + 1 < V5.heap.size) := lt_of_block hv5.wb
    clear hv5 hb15 qa qb hlt4 hga s0 s1 s2 HB4 HT4 HOK4 HB3 HT3 HOK3 HB1 HT1 HGL HB13 HB14
    obtain ⟨gw, hgw⟩ : ∃ gw, ga + 1 = gw := ⟨_, rfl⟩
    rw [hgw] at HV5 HSZ HGE ⊢
    clear hgw
    go_upto_block 0 with fail
    go_cut [9] (fun u wx => Hid (RofAt w s r a n cap gt y ga (wd O) gw (wd (lowP 256)) wx) ∧ Hid (Below V1.heap.size V1 wx))
    case first =>
      go_wp2
      go_loopw [9] (fun u wr => ∃ k : Nat, k ≤ 256 ∧ u = .int .i64 k ∧ Hid (RofAt w s r a n cap gt y ga (wd O) gw (wd (lowP k)) wr) ∧ Hid (Below V1.heap.size V1 wr)) (fun u _ => (256 - intOf u).toNat)
      case atStart => exact ⟨0, Nat.zero_le _, rfl, HV5, HB15⟩
      case round =>
        obtain ⟨k, hk, rfl, HP, HK⟩ := hrel
        clear HV5
        have hwb := HP.out.wb
        have a0 : wr.cell? ⟨gw, 0, none⟩ = some (.int .u64 (wd (lowP k) 0)) := by rw [blk_cell hwb]; rfl
        have a1 : wr.cell? ⟨gw, 1, none⟩ = some (.int .u64 (wd (lowP k) 1)) := by rw [blk_cell hwb]; rfl
        have a2 : wr.cell? ⟨gw, 2, none⟩ = some (.int .u64 (wd (lowP k) 2)) := by rw [blk_cell hwb]; rfl
        have a3 : wr.cell? ⟨gw, 3, none⟩ = some (.int .u64 (wd (lowP k) 3)) := by rw [blk_cell hwb]; rfl
        by_cases hlt : k < 256
        · have OC := Lib.hid (fun w => rwith_any (lowP k) k w)
          rw [lowP_next] at OC
          have hk2 : (k : Int) < 256 := by omega
          have hkw : IntKind.i64.wrap ((k : Int) + 1) = (k : Int) + 1 := IntWalk.i64_in _ (by omega)
          obtain ⟨p2, hp2⟩ : ∃ p2, wd (lowP (k + 1)) = p2 := ⟨_, rfl⟩
          have HP2 := Lib.hid hp2
          rw [hp2] at OC
          clear hp2 hwb
          generalize wd (lowP k) = p at *
          go_wp2_with (go_at_call 39; (with_reducible refine (OC.out _).mono ?_); rintro e w2 ⟨rfl, b2⟩; have HA4 := Lib.hid (HP.out.below b2); have HK4 := Lib.hid (below_up HK.out b2); clear b2; have a0 : w2.cell? ⟨gw, 0, none⟩ = some (.int .u64 (p 0)) := (by rw [blk_cell HA4.out.wb]; rfl); have a1 : w2.cell? ⟨gw, 1, none⟩ = some (.int .u64 (p 1)) := (by rw [blk_cell HA4.out.wb]; rfl); have a2 : w2.cell? ⟨gw, 2, none⟩ = some (.int .u64 (p 2)) := (by rw [blk_cell HA4.out.wb]; rfl); have a3 : w2.cell? ⟨gw, 3, none⟩ = some (.int .u64 (p 3)) := (by rw [blk_cell HA4.out.wb]; rfl); have f0 := blk_free HA4.out.wb 0; have f1 := blk_free HA4.out.wb 1; have f2 := blk_free HA4.out.wb 2; have f3 := blk_free HA4.out.wb 3)
          have HKS : Hid (Below V1.heap.size V1 ((((w2.setCell ⟨gw, 0, none⟩ (.int .u64 (p2 0))).setCell ⟨gw, 1, none⟩ (.int .u64 (p2 1))).setCell ⟨gw, 2, none⟩ (.int .u64 (p2 2))).setCell ⟨gw, 3, none⟩ (.int .u64 (p2 3)))) := (((HK4.out.setCell (p := ⟨gw, 0, none⟩) HGE.out _).setCell (p := ⟨gw, 1, none⟩) HGE.out _).setCell (p := ⟨gw, 2, none⟩) HGE.out _).setCell (p := ⟨gw, 3, none⟩) HGE.out _
          go_roundw
          case rel => exact ⟨k + 1, by omega, by go_num, by rw [HP2.out]; exact HA4.out.put p2, HKS⟩
          case measure => simp [intOf]; omega
        · obtain rfl : k = 256 := by omega
          clear hwb
          go_wp2_with fail
          go_meet
          exact ⟨HP, HK⟩
    case rest =>
      obtain ⟨HV6, HOK6⟩ := hcut
      clear HV5 HB15 HSZ
      have htb := HV6.out.tb
      have hwb := HV6.out.wb
      have t0 : wc.cell? ⟨gt, 0, none⟩ = some (.int .i64 y.id) := by rw [blk_cell htb]; rfl
      have t1 : wc.cell? ⟨gt, 1, none⟩ = some (.int .i64 y.c) := by rw [blk_cell htb]; rfl
      have t2 : wc.cell? ⟨gt, 2, none⟩ = some (.int .i64 y.d) := by rw [blk_cell htb]; rfl
      have t3 : wc.cell? ⟨gt, 3, none⟩ = some (.int .i64 y.t) := by rw [blk_cell htb]; rfl
      have t4 : wc.cell? ⟨gt, 4, none⟩ = some (.int .i64 y.p) := by rw [blk_cell htb]; rfl
      have t5 : wc.cell? ⟨gt, 5, none⟩ = some (.slice y.a1 y.ch.length y.c1) := by rw [blk_cell htb]; rfl
      have t6 : wc.cell? ⟨gt, 6, none⟩ = some (.slice y.a2 y.us.length y.c2) := by rw [blk_cell htb]; rfl
      have b0 : wc.cell? ⟨gw, 0, none⟩ = some (.int .u64 (wd (lowP 256) 0)) := by rw [blk_cell hwb]; rfl
      have b1 : wc.cell? ⟨gw, 1, none⟩ = some (.int .u64 (wd (lowP 256) 1)) := by rw [blk_cell hwb]; rfl
      have b2 : wc.cell? ⟨gw, 2, none⟩ = some (.int .u64 (wd (lowP 256) 2)) := by rw [blk_cell hwb]; rfl
      have b3 : wc.cell? ⟨gw, 3, none⟩ = some (.int .u64 (wd (lowP 256) 3)) := by rw [blk_cell hwb]; rfl
      have P1 := Lib.hid (M1.out wc (HOK1.out.below HOK6.out))
      clear htb hwb
      go_upto_region 11 with (go_at_call 40; (with_reducible refine P1.out.mono ?_); rintro e x1 ⟨rfl, b1⟩; have HX1 := Lib.hid b1; clear b1)
      obtain ⟨g10, hg10⟩ : ∃ g10, x1.heap.size = g10 := ⟨_, rfl⟩
      have hq10 := heap_alloc_new x1 (.cells #[.int .i64 (mu.1 : Nat), .int .i64 (mu.2 : Nat)] PT)
      rw [hg10] at hq10 ⊢
      refine gen_world (fun v => RofAt w s r a n cap gt y ga (wd O) gw (wd (lowP 256)) v ∧ Below V1.heap.size V1 v ∧ v.heap[g10]? = some (.cells #[.int .i64 (mu.1 : Nat), .int .i64 (mu.2 : Nat)] PT (0, 0))) ⟨HV6.out.below (below_up HX1.out (by repeat (first | exact Below.refl _ _ | (with_reducible assumption) | refine bw_alloc ?_ _ | refine bw_drew ?_))), below_up HOK6.out (below_up HX1.out (by repeat (first | exact Below.refl _ _ | (with_reducible assumption) | refine bw_alloc ?_ _ | refine bw_drew ?_))), hq10⟩ ?_
      intro V6 ⟨hv6, hb6, hp6⟩
      have HV6 := Lib.hid hv6
      have HB6 := Lib.hid hb6
      have HP10 := Lib.hid hp6
      have htb := hv6.tb
      have hab := hv6.ab
      have t0 : V6.cell? ⟨gt, 0, none⟩ = some (.int .i64 y.id) := by rw [blk_cell htb]; rfl
      have t1 : V6.cell? ⟨gt, 1, none⟩ = some (.int .i64 y.c) := by rw [blk_cell htb]; rfl
      have t2 : V6.cell? ⟨gt, 2, none⟩ = some (.int .i64 y.d) := by rw [blk_cell htb]; rfl
      have t3 : V6.cell? ⟨gt, 3, none⟩ = some (.int .i64 y.t) := by rw [blk_cell htb]; rfl
      have t4 : V6.cell? ⟨gt, 4, none⟩ = some (.int .i64 y.p) := by rw [blk_cell htb]; rfl
      have t5 : V6.cell? ⟨gt, 5, none⟩ = some (.slice y.a1 y.ch.length y.c1) := by rw [blk_cell htb]; rfl
      have t6 : V6.cell? ⟨gt, 6, none⟩ = some (.slice y.a2 y.us.length y.c2) := by rw [blk_cell htb]; rfl
      have a0 : V6.cell? ⟨ga, 0, none⟩ = some (.int .u64 (wd O 0)) := by rw [blk_cell hab]; rfl
      have a1 : V6.cell? ⟨ga, 1, none⟩ = some (.int .u64 (wd O 1)) := by rw [blk_cell hab]; rfl
      have a2 : V6.cell? ⟨ga, 2, none⟩ = some (.int .u64 (wd O 2)) := by rw [blk_cell hab]; rfl
      have a3 : V6.cell? ⟨ga, 3, none⟩ = some (.int .u64 (wd O 3)) := by rw [blk_cell hab]; rfl
      have P2 := Lib.hid (M2.out V6 (HOK1.out.below hb6))
      clear htb hab hv6 hb6 hp6 hq10 hg10 b0 b1 b2 b3
      go_upto_region 12 with (go_at_call 40; (with_reducible refine P2.out.mono ?_); rintro e x2 ⟨rfl, b2⟩; have HX2 := Lib.hid b2; clear b2)
      obtain ⟨g11, hg11⟩ : ∃ g11, x2.heap.size = g11 := ⟨_, rfl⟩
      have hq11 := heap_alloc_new x2 (.cells #[.int .i64 (mb.1 : Nat), .int .i64 (mb.2 : Nat)] PT)
      rw [hg11] at hq11 ⊢
      refine gen_world (fun v => RofAt w s r a n cap gt y ga (wd O) gw (wd (lowP 256)) v ∧ v.heap[g10]? = some (.cells #[.int .i64 (mu.1 : Nat), .int .i64 (mu.2 : Nat)] PT (0, 0)) ∧ v.heap[g11]? = some (.cells #[.int .i64 (mb.1 : Nat), .int .i64 (mb.2 : Nat)] PT (0, 0))) ⟨HV6.out.below (below_up HX2.out (by repeat (first | exact Below.refl _ _ | (with_reducible assumption) | refine bw_alloc ?_ _ | refine bw_drew ?_))), kept_obj (below_up HX2.out (by repeat (first | exact Below.refl _ _ | (with_reducible assumption) | refine bw_alloc ?_ _ | refine bw_drew ?_))) HP10.out, hq11⟩ ?_
      intro V7 ⟨hv7, hp7, hp8⟩
      have HV7 := Lib.hid hv7
      have HP7 := Lib.hid hp7
      have HP8 := Lib.hid hp8
      clear hv7 hp7 hp8 hq11 hg11 t0 t1 t2 t3 t4 t5 t6 a0 a1 a2 a3
      have MK : Hid (∀ w', Below V7.heap.size V7 w' → (w'.cell? ⟨w.heap.size, 1, none⟩ = some (.int .i64 r) ∧ w'.cell? ⟨g10, 0, none⟩ = some (.int .i64 (mu.1 : Nat)) ∧ w'.cell? ⟨g11, 0, none⟩ = some (.int .i64 (mb.1 : Nat)) ∧ w'.cell? ⟨ga, 0, none⟩ = some (.int .u64 (wd O 0)) ∧ w'.cell? ⟨ga, 1, none⟩ = some (.int .u64 (wd O 1)) ∧ w'.cell? ⟨ga, 2, none⟩ = some (.int .u64 (wd O 2)) ∧ w'.cell? ⟨ga, 3, none⟩ = some (.int .u64 (wd O 3)))) := fun w' hb => by
        have x0 := kept_obj hb HV7.out.sys
        have x1 := kept_obj hb HP7.out
        have x2 := kept_obj hb HP8.out
        have x3 := kept_obj hb HV7.out.ab
        exact ⟨by rw [blk_cell x0]; rfl, by rw [blk_cell x1]; rfl, by rw [blk_cell x2]; rfl, by rw [blk_cell x3]; rfl, by rw [blk_cell x3]; rfl, by rw [blk_cell x3]; rfl, by rw [blk_cell x3]; rfl⟩
      have hu := HU.out
      have hv := HV.out
      have hbb := HBB.out
      go_cut [12] (fun u wx => ∃ gx : Nat, u = .pointer (some ⟨gx, 0, none⟩) ∧ Hid (Blk5 wx gx id U V B 0) ∧ Hid (Below V7.heap.size V7 wx) ∧ Hid (V7.heap.size ≤ gx))
      case first =>
        go_region_held3 (fun w' => w'.cell? ⟨w.heap.size, 1, none⟩ = some (.int .i64 r) ∧ w'.cell? ⟨g10, 0, none⟩ = some (.int .i64 (mu.1 : Nat)) ∧ w'.cell? ⟨g11, 0, none⟩ = some (.int .i64 (mb.1 : Nat)) ∧ w'.cell? ⟨ga, 0, none⟩ = some (.int .u64 (wd O 0)) ∧ w'.cell? ⟨ga, 1, none⟩ = some (.int .u64 (wd O 1)) ∧ w'.cell? ⟨ga, 2, none⟩ = some (.int .u64 (wd O 2)) ∧ w'.cell? ⟨ga, 3, none⟩ = some (.int .u64 (wd O 3))) (exact MK.out _ (by repeat (first | exact Below.refl _ _ | (with_reducible assumption) | refine bw_drew ?_ | refine bw_alloc ?_ _ | refine Below.setCell ?_ (by show _ ≤ _; first | exact Nat.le_refl _ | exact bx1.size) _))) (first
          | (go_at_call 41; (with_reducible refine (Calls.upV (V := V7) (by repeat (first | exact Below.refl _ _ | (with_reducible assumption) | refine bw_alloc ?_ _ | refine bw_drew ?_)) (LC.out _)).mono ?_); rintro e wx ⟨rfl, bz, bx1⟩; (try (have hq : wx.heap[V7.heap.size]? = some (.cells #[.int .i64 0, .int .i64 0, .int .i64 0, .int .i64 0, .int .i64 0] 60 (0, 0)) := kept_obj bz (heap_alloc_new V7.drew _); have HQ := Lib.hid hq; have z0 : wx.cell? ⟨V7.heap.size, 0, none⟩ = some (.int .i64 0) := (by rw [blk_cell hq]; rfl); have f0 : wx.frozen? ⟨V7.heap.size, 0, none⟩ = false := blk_free hq 0; have z1 : wx.cell? ⟨V7.heap.size, 1, none⟩ = some (.int .i64 0) := (by rw [blk_cell hq]; rfl); have f1 : wx.frozen? ⟨V7.heap.size, 1, none⟩ = false := blk_free hq 1; have z2 : wx.cell? ⟨V7.heap.size, 2, none⟩ = some (.int .i64 0) := (by rw [blk_cell hq]; rfl); have f2 : wx.frozen? ⟨V7.heap.size, 2, none⟩ = false := blk_free hq 2; have z3 : wx.cell? ⟨V7.heap.size, 3, none⟩ = some (.int .i64 0) := (by rw [blk_cell hq]; rfl); have f3 : wx.frozen? ⟨V7.heap.size, 3, none⟩ = false := blk_free hq 3; have z4 : wx.cell? ⟨V7.heap.size, 4, none⟩ = some (.int .i64 0) := (by rw [blk_cell hq]; rfl); have f4 : wx.frozen? ⟨V7.heap.size, 4, none⟩ = false := blk_free hq 4; clear hq)); clear bz))
        all_goals
          go_wp2_with fail
          go_meet
          first
            | with_reducible exact ⟨V7.heap.size, rfl, Lib.hid (Blk5.set (blk5_of HQ.out) id U V B 0), Lib.hid (by repeat (first | (with_reducible assumption) | refine bw_alloc ?_ _ | refine Below.setCell ?_ (by show _ ≤ _; first | exact Nat.le_refl _ | exact bx1.size) _)), Lib.hid (Nat.le_refl _)⟩
            | with_reducible exact ⟨wx.heap.size, rfl, Lib.hid (blk5_new wx _ _ _ _ _), Lib.hid (by repeat (first | (with_reducible assumption) | refine bw_alloc ?_ _ | refine Below.setCell ?_ (by show _ ≤ _; first | exact Nat.le_refl _ | exact bx1.size) _)), Lib.hid bx1.size⟩
      case rest =>
        obtain ⟨gx, rfl, HX, HB, HGX⟩ := hcut
        clear MK HP7 HP8 P1 P2 M1 M2 LC hu hv hbb
        have HV8 := Lib.hid (HV7.out.below HB.out)
        have HNE : Hid (w.heap.size + 1 < gx ∧ w.heap.size < gx) := ⟨Nat.lt_of_lt_of_le (lt_of_block HV7.out.res) HGX.out, Nat.lt_of_lt_of_le (lt_of_block HV7.out.sys) HGX.out⟩
        have x1 : wc.cell? ⟨gx, 1, none⟩ = some (.int .i64 U) := by rw [blk_cell HX.out]; rfl
        have x4 : wc.cell? ⟨gx, 4, none⟩ = some (.int .i64 0) := by rw [blk_cell HX.out]; rfl
        have xf := blk_free HX.out 4
        go_upto_region 14 with fail
        refine gen_world (fun v => Blk5 v gx id U V B U ∧ Blk5 v (w.heap.size + 1) 0 0 0 0 0 ∧ Below w.heap.size w v) ⟨(blk_set (o := 4) HX.out (.int .i64 U)).trans rfl, (blk_far (a := ⟨gx, 4, none⟩) (Nat.ne_of_lt HNE.out.1) _).trans HV8.out.res, HV8.out.low.setCell (p := ⟨gx, 4, none⟩) (Nat.le_of_lt HNE.out.2) _⟩ ?_
        intro V9 ⟨h9, hr9, hl9⟩
        have H9 := Lib.hid h9
        have HR9 := Lib.hid hr9
        have HL9 := Lib.hid hl9
        have x2 : V9.cell? ⟨gx, 2, none⟩ = some (.int .i64 V) := by rw [blk_cell h9]; rfl
        have x4 : V9.cell? ⟨gx, 4, none⟩ = some (.int .i64 U) := by rw [blk_cell h9]; rfl
        have xf := blk_free h9 4
        clear x1 h9 hr9 hl9 HV8 HV7 HX HB
        go_upto_if 69 with fail
        go_cut [] (fun wx => ∃ z : Int, Hid (Blk5 wx gx id U V B z) ∧ B ≤ z ∧ (z = U ∨ z = V) ∧ Hid (Blk5 wx (w.heap.size + 1) 0 0 0 0 0) ∧ Hid (Below w.heap.size w wx))
        case first =>
          by_cases q : V < U
          · go_wp2_with fail
            go_meet
            exact ⟨V, Lib.hid ((blk_set (o := 4) H9.out (.int .i64 V)).trans rfl), le2, .inr rfl, Lib.hid ((blk_far (a := ⟨gx, 4, none⟩) (Nat.ne_of_lt HNE.out.1) _).trans HR9.out), Lib.hid (HL9.out.setCell (p := ⟨gx, 4, none⟩) (Nat.le_of_lt HNE.out.2) _)⟩
          · go_wp2_with fail
            go_meet
            exact ⟨U, H9, le1, .inl rfl, HR9, HL9⟩
        case rest =>
          obtain ⟨z, H10, hz1, hz2, HR10, HL10⟩ := hcut
          have hx := H10.out
          have x3 : wc.cell? ⟨gx, 3, none⟩ = some (.int .i64 B) := by rw [blk_cell hx]; rfl
          have x4 : wc.cell? ⟨gx, 4, none⟩ = some (.int .i64 z) := by rw [blk_cell hx]; rfl
          have xf := blk_free hx 4
          clear hx x2
          go_upto_if 77 with fail
          go_cut [] (fun wx => Hid (Blk5 wx gx id U V B B) ∧ Hid (Blk5 wx (w.heap.size + 1) 0 0 0 0 0) ∧ Hid (Below w.heap.size w wx))
          case first =>
            by_cases q : B < z
            · go_wp2_with fail
              go_meet
              exact ⟨Lib.hid ((blk_set (o := 4) H10.out (.int .i64 B)).trans rfl), Lib.hid ((blk_far (a := ⟨gx, 4, none⟩) (Nat.ne_of_lt HNE.out.1) _).trans HR10.out), Lib.hid (HL10.out.setCell (p := ⟨gx, 4, none⟩) (Nat.le_of_lt HNE.out.2) _)⟩
            · have hzb : z = B := by omega
              have H10' : Hid (Blk5 wc gx id U V B B) := by rw [hzb] at H10; exact H10
              clear hz1 hz2 hzb
              go_wp2_with fail
              go_meet
              exact ⟨H10', HR10, HL10⟩
          case rest =>
            obtain ⟨H11, HR11, HL11⟩ := hcut
            clear H10 HR10 HL10 x3 x4 xf hz1 hz2
            have hx := H11.out
            have hres := HR11.out
            have x0 : wc.cell? ⟨gx, 0, none⟩ = some (.int .i64 id) := by rw [blk_cell hx]; rfl
            have z0 : wc.cell? ⟨w.heap.size + 1, 0, none⟩ = some (.int .i64 0) := by rw [blk_cell hres]; rfl
            have f0 := blk_free hres 0
            have x1 : wc.cell? ⟨gx, 1, none⟩ = some (.int .i64 U) := by rw [blk_cell hx]; rfl
            have z1 : wc.cell? ⟨w.heap.size + 1, 1, none⟩ = some (.int .i64 0) := by rw [blk_cell hres]; rfl
            have f1 := blk_free hres 1
            have x2 : wc.cell? ⟨gx, 2, none⟩ = some (.int .i64 V) := by rw [blk_cell hx]; rfl
            have z2 : wc.cell? ⟨w.heap.size + 1, 2, none⟩ = some (.int .i64 0) := by rw [blk_cell hres]; rfl
            have f2 := blk_free hres 2
            have x3 : wc.cell? ⟨gx, 3, none⟩ = some (.int .i64 B) := by rw [blk_cell hx]; rfl
            have z3 : wc.cell? ⟨w.heap.size + 1, 3, none⟩ = some (.int .i64 0) := by rw [blk_cell hres]; rfl
            have f3 := blk_free hres 3
            have x4 : wc.cell? ⟨gx, 4, none⟩ = some (.int .i64 B) := by rw [blk_cell hx]; rfl
            have z4 : wc.cell? ⟨w.heap.size + 1, 4, none⟩ = some (.int .i64 0) := by rw [blk_cell hres]; rfl
            have f4 := blk_free hres 4
            have hy := Blk5.set hres id U V B B
            have HLOW : Hid (Below w.heap.size w (((((wc.setCell ⟨w.heap.size + 1, 0, none⟩ (.int .i64 id)).setCell ⟨w.heap.size + 1, 1, none⟩ (.int .i64 U)).setCell ⟨w.heap.size + 1, 2, none⟩ (.int .i64 V)).setCell ⟨w.heap.size + 1, 3, none⟩ (.int .i64 B)).setCell ⟨w.heap.size + 1, 4, none⟩ (.int .i64 B))) :=
              ((((HL11.out.setCell (p := ⟨w.heap.size + 1, 0, none⟩) (Nat.le_succ _) _).setCell (p := ⟨w.heap.size + 1, 1, none⟩) (Nat.le_succ _) _).setCell (p := ⟨w.heap.size + 1, 2, none⟩) (Nat.le_succ _) _).setCell (p := ⟨w.heap.size + 1, 3, none⟩) (Nat.le_succ _) _).setCell (p := ⟨w.heap.size + 1, 4, none⟩) (Nat.le_succ _) _
            clear hx hres
            go_wp2
            unfold Blk5 at hy
            have y0 := blk_cell (o := 0) hy
            have y1 := blk_cell (o := 1) hy
            have y2 := blk_cell (o := 2) hy
            have y3 := blk_cell (o := 3) hy
            have y4 := blk_cell (o := 4) hy
            refine bodyPost_ret (v := .agg #[.int .i64 id, .int .i64 U, .int .i64 V, .int .i64 B, .int .i64 B]) ?_ rfl ⟨by rw [HCG.out]; rfl, HLOW.out⟩
            simp [results, Try.results20, go_sem, y0, y1, y2, y3, y4]
end Go.Proofs.Ytlglncnhhgofoaa

/-
  Rows of charges: five cells each.
-/
namespace Go.Proofs.Ytlglncnhhgofoaa
open Go.RowKit Go.Maps

abbrev CgE : Type := Int × Cg
def gcells (x : CgE) : List Value := [.int .i64 x.1, .int .i64 x.2.u, .int .i64 x.2.v, .int .i64 x.2.b, .int .i64 x.2.b]
/-- The cells of a charge, from a place on. -/
structure GAt (w : World) (g o : Nat) (x : CgE) : Prop where
  c0 : w.cell? ⟨g, o, none⟩ = some (.int .i64 x.1)
  c1 : w.cell? ⟨g, o + 1, none⟩ = some (.int .i64 x.2.u)
  c2 : w.cell? ⟨g, o + 2, none⟩ = some (.int .i64 x.2.v)
  c3 : w.cell? ⟨g, o + 3, none⟩ = some (.int .i64 x.2.b)
  c4 : w.cell? ⟨g, o + 4, none⟩ = some (.int .i64 x.2.b)
theorem GAt.below {w w' : World} {g o : Nat} {x : CgE} (h : GAt w g o x) (hb : Below w.heap.size w w') : GAt w' g o x :=
  ⟨kept_cell hb h.c0, kept_cell hb h.c1, kept_cell hb h.c2, kept_cell hb h.c3, kept_cell hb h.c4⟩
/-- The cells of a row of tasks. -/
def gflat : List (CgE) → List Value
  | [] => []
  | x :: l => gcells x ++ gflat l
theorem gcells_len (x : CgE) : (gcells x).length = 5 := rfl
theorem gflat_len : ∀ l : List (CgE), (gflat l).length = l.length * 5
  | [] => rfl
  | x :: l => by simp [gflat, gflat_len l, gcells_len]; omega
theorem gflat_append : ∀ l m : List (CgE), gflat (l ++ m) = gflat l ++ gflat m
  | [], _ => rfl
  | x :: l, m => by simp [gflat, gflat_append l m]
theorem gflat_at : ∀ (l : List (CgE)) (k : Nat) (x : CgE), l[k]? = some x → ∀ i, i < 5 → (gflat l)[k * 5 + i]? = (gcells x)[i]?
  | [], k, x, h => by simp at h
  | y :: l, 0, x, h => by
    simp at h; subst h
    intro i hi
    rw [Nat.zero_mul, Nat.zero_add, gflat, List.getElem?_append_left (by rw [gcells_len]; exact hi)]
  | y :: l, k + 1, x, h => by
    intro i hi
    have := gflat_at l k x (by simpa using h) i hi
    rw [show (k + 1) * 5 + i = 5 + (k * 5 + i) by omega, gflat, List.getElem?_append_right (by rw [gcells_len]; omega), gcells_len, ← this]
    congr 1; omega
theorem gflat_one : ∀ (l : List (CgE)), ∀ u ∈ gflat l, u.oneCell' = true
  | [], u, h => by simp [gflat] at h
  | x :: l, u, h => by
    rcases List.mem_append.1 h with h | h
    · simp [gcells] at h
      rcases h with rfl | rfl | rfl | rfl <;> rfl
    · exact gflat_one l u h
theorem gflat_drop : ∀ (k : Nat) (l : List (CgE)), gflat (l.drop k) = (gflat l).drop (k * 5)
  | 0, l => by simp
  | k + 1, [] => by simp [gflat]
  | k + 1, x :: l => by
    rw [List.drop_succ_cons, gflat_drop k l, gflat, List.drop_append, show (k + 1) * 5 = 5 + k * 5 by omega]
    simp [gcells_len]
theorem gflat_take : ∀ (k : Nat) (l : List (CgE)), gflat (l.take k) = (gflat l).take (k * 5)
  | 0, l => by simp [gflat]
  | k + 1, [] => by simp [gflat]
  | k + 1, x :: l => by
    rw [List.take_succ_cons, gflat, gflat, gflat_take k l, List.take_append, show (k + 1) * 5 = 5 + k * 5 by omega]
    simp [gcells_len]
    rw [List.take_of_length_le (by rw [gcells_len]; omega)]

/-- A row of tasks that can be read. -/
def GView (w : World) (a : Option Addr) (l : List (CgE)) : Prop :=
  l = [] ∨ ∃ g o, a = some ⟨g, o, none⟩ ∧ ∀ j u, (gflat l)[j]? = some u → w.cell? ⟨g, o + j, none⟩ = some u
theorem GView.nil {w : World} {a : Option Addr} : GView w a [] := .inl rfl
theorem GView.at_ {w : World} {a : Option Addr} {l : List (CgE)} (h : GView w a l) {k : Nat} {x : CgE} (hx : l[k]? = some x) : ∃ g o, a = some ⟨g, o, none⟩ ∧ GAt w g (o + k * 5) x := by
  rcases h with rfl | ⟨g, o, rfl, hc⟩
  · simp at hx
  · have f := gflat_at l k x hx
    refine ⟨g, o, rfl, ⟨?_, ?_, ?_, ?_, ?_⟩⟩
    · exact hc _ _ (f 0 (by omega))
    · exact hc _ _ (f 1 (by omega))
    · exact hc _ _ (f 2 (by omega))
    · exact hc _ _ (f 3 (by omega))
    · exact hc _ _ (f 4 (by omega))
theorem GView.below {w w' : World} {a : Option Addr} {l : List (CgE)} (h : GView w a l) (hb : Below w.heap.size w w') : GView w' a l := by
  rcases h with rfl | ⟨g, o, rfl, hc⟩
  · exact .inl rfl
  · exact .inr ⟨g, o, rfl, fun j u hj => kept_cell hb (hc j u hj)⟩
theorem GView.drop {w : World} {g o : Nat} {l : List (CgE)} (h : GView w (some ⟨g, o, none⟩) l) (k : Nat) : GView w (some ⟨g, o + k * 5, none⟩) (l.drop k) := by
  rcases h with rfl | ⟨g', o', e, hc⟩
  · left; simp
  · cases e
    refine .inr ⟨_, _, rfl, fun j u hj => ?_⟩
    rw [gflat_drop, List.getElem?_drop] at hj
    rw [Nat.add_assoc]
    exact hc _ u hj
theorem GView.take {w : World} {a : Option Addr} {l : List (CgE)} (h : GView w a l) (k : Nat) : GView w a (l.take k) := by
  rcases h with rfl | ⟨g, o, rfl, hc⟩
  · left; simp
  · refine .inr ⟨g, o, rfl, fun j u hj => ?_⟩
    rw [gflat_take, List.getElem?_take] at hj
    split at hj
    · exact hc j u hj
    · cases hj
theorem GView.of_at {w : World} {g o : Nat} {x : CgE} (h : GAt w g o x) : GView w (some ⟨g, o, none⟩) [x] := by
  refine .inr ⟨g, o, rfl, fun j u hj => ?_⟩
  simp only [gflat, List.append_nil, gcells] at hj
  match j, hj with
  | 0, hj => simp at hj; subst hj; exact h.c0
  | 1, hj => simp at hj; subst hj; exact h.c1
  | 2, hj => simp at hj; subst hj; exact h.c2
  | 3, hj => simp at hj; subst hj; exact h.c3
  | 4, hj => simp at hj; subst hj; exact h.c4
  | j + 5, hj => simp at hj
abbrev CT5 : TypeId := 60
def OwnG (w : World) (B : Nat) (v : Value) (l : List (CgE)) : Prop := w.ownsRow B CT5 5 v l.length (gflat l)
theorem OwnG.nil (w : World) (B : Nat) : OwnG w B (.slice none 0 0) [] := World.ownsRow_nil _ _ _ _
theorem OwnG.made (w : World) : OwnG (w.alloc (.cells #[] CT5)) w.heap.size (.slice (some ⟨w.heap.size, 0, none⟩) 0 0) [] :=
  World.ownsRow_made (w := w) #[] 0 (Nat.le_refl _) (by decide) rfl
theorem OwnG.low {w : World} {B B' : Nat} {v : Value} {l : List (CgE)} (h : OwnG w B v l) (hB : B' ≤ B) : OwnG w B' v l := by
  rcases h with ⟨h0, h | ⟨g, cap, cur, rfl, hb, r⟩⟩
  · exact ⟨h0, .inl h⟩
  · exact ⟨h0, .inr ⟨g, cap, cur, rfl, by omega, r⟩⟩
theorem OwnG.slice {w : World} {B : Nat} {v : Value} {l : List (CgE)} (h : OwnG w B v l) : ∃ a cap, v = .slice a l.length cap ∧ GView w a l ∧ l.length ≤ cap ∧ (cap : Int) ≤ 9223372036854775807 := by
  rcases h.2 with ⟨rfl, h0⟩ | ⟨g, cap, cur, rfl, _, h3, h1, h2, h4, h5⟩
  · exact ⟨none, 0, by rw [h0], .inl (List.length_eq_zero_iff.1 h0), by omega, by omega⟩
  · refine ⟨_, cap, rfl, .inr ⟨g, 0, rfl, fun j u hj => ?_⟩, h1, by unfold maxLen at h2; omega⟩
    rw [Nat.zero_add, blk_cell h3]
    rw [← h5] at hj
    rw [List.getElem?_take] at hj
    split at hj
    · simpa using hj
    · cases hj
theorem OwnG.new {w : World} {B : Nat} {v : Value} {l : List (CgE)} (h : OwnG w B v l) {k : Nat} (hk : v.ownBlock = some k) : B ≤ k ∧ k < w.heap.size := World.ownsRow.lt h k hk
theorem OwnG.below {w w' : World} {B : Nat} {v : Value} {l : List (CgE)} (h : OwnG w B v l) (hb : Below w.heap.size w w') : OwnG w' B v l := by
  rcases h with ⟨h0, h | ⟨g, cap, cur, rfl, hB, h3, r⟩⟩
  · exact ⟨h0, .inl h⟩
  · exact ⟨h0, .inr ⟨g, cap, cur, rfl, hB, kept_obj hb h3, r⟩⟩
theorem OwnG.none_len {w : World} {B n c : Nat} {l : List (CgE)} (h : OwnG w B (.slice none n c) l) : n = 0 := by
  rcases h.2 with ⟨h1, h0⟩ | ⟨g, cap, cur, h1, _⟩
  · cases h1; rfl
  · cases h1

theorem infoCg5 : (Try.prog.info? CT5).map (fun i => (i.zero, i.size, i.bytes)) = some (some (.agg #[.int .i64 0, .int .i64 0, .int .i64 0, .int .i64 0, .int .i64 0]), 5, 40) := by kernel_rfl
theorem zeroCg5 (w : World) : (zeroValue CT5).run Try.prog w = .ok (.agg #[.int .i64 0, .int .i64 0, .int .i64 0, .int .i64 0, .int .i64 0]) w := by kernel_rfl
theorem ginfoParts : ∃ i, Try.prog.info? CT5 = some i ∧ i.zero = some (.agg #[.int .i64 0, .int .i64 0, .int .i64 0, .int .i64 0, .int .i64 0]) ∧ i.size = 5 ∧ i.bytes = 40 := by
  obtain ⟨i, h1, h2⟩ := Option.map_eq_some_iff.1 infoCg5
  simp only [Prod.mk.injEq] at h2
  exact ⟨i, h1, h2.1, h2.2.1, h2.2.2⟩

/-- A row that was appended to: what it holds, where it lies. -/
theorem append_gview {w : World} {B m c : Nat} {v : Value} {q l : List (CgE)} {ad : Option Addr} (h : OwnG w B v q) (hB : B ≤ w.heap.size) (hv : GView w ad l) (hl : l.length = m) (hs : q.length + m ≤ 1000000) (hn : ad = none → m = 0) (ty : TypeId) :
    ∃ v' w', (Builtin.append_ #[63, 63] ty #[v, .slice ad m c]).run Try.prog w = .ok v' w' ∧ OwnG w' B v' (q ++ l) ∧ w.grownBy w' v.ownBlock ∧ ∀ k, v'.ownBlock = some k → v.ownBlock = some k ∨ w.heap.size ≤ k := by
  obtain ⟨i0, hi, hz0, hz1, hz2⟩ := ginfoParts
  cases ad with
  | none =>
    obtain rfl := hn rfl
    obtain rfl : l = [] := List.length_eq_zero_iff.1 hl
    refine ⟨v, w, ?_, by rw [List.append_nil]; exact h, ⟨rfl, rfl, rfl, Nat.le_refl _, fun _ _ _ => rfl⟩, fun k hk => .inl hk⟩
    rcases h.2 with ⟨rfl, h0⟩ | ⟨g, cap, cur, rfl, _, h3, h1, h2, h4, h5⟩
    · have hs := Src.ofNil (w := w) (size := i0.size) Try.underlying63 c
      simp [Builtin.append_, run_underlying Try.underlying63, sizeOf, typeInfo, hi, hs.len, hs.cells]
    · have := run_append_room_src (P := Try.prog) (w := w) 63 63 ty CT5 i0 Try.underlying63 hi g 0 q.length cap (.slice none 0 c) 0 [] (Src.ofNil w Try.underlying63 c) (by omega) (fun j hj => absurd hj (Nat.not_lt_zero _)) (fun j hj => absurd hj (Nat.not_lt_zero _))
      simpa [World.setCells] using this
  | some x =>
    have hnews : ∀ j u, (gflat l)[j]? = some u → w.cell? (x.add j) = some u := by
      intro j u hj
      rcases hv with rfl | ⟨g, o, e, hc⟩
      · simp [gflat] at hj
      · cases e
        rw [addr_at]; exact hc j u hj
    obtain ⟨v', w', h1, h2, h3, _, h5⟩ := run_append_own_at (P := Try.prog) w B 63 ty CT5 i0 _ 5 40 Try.underlying63 hi hz0 hz1 hz2 rfl (by decide) v q.length (gflat q) h x m c (gflat l) (by rw [gflat_len, hl]) hnews (gflat_one l) (by unfold maxLen; omega) (by omega) hB
    refine ⟨v', w', h1, ?_, h3, fun k hk => ?_⟩
    · unfold OwnG
      rw [List.length_append, gflat_append, hl]
      exact h2
    · rcases h5 with z | z
      · left; rw [← z]; exact hk
      · right; rw [z] at hk; cases hk; exact Nat.le_refl _

theorem gstep_append {w : World} {ops : Array Oper} {o : Oper} {a : Act} {K : Act → World → Prop} {Q : Exit → Act → World → Prop} {E : Prop} (hgd : o.guard = none) (s x : Operand)
    (ho : o.op = .call { callee := .builtin .append, args := #[s, x], argTypes := #[63, 63] }) {B m c : Nat} {v : Value} {q l : List (CgE)} {ad : Option Addr} (hs : a.eval s = v) (hx : a.eval x = .slice ad m c)
    (hown : OwnG w B v q) (hB : B ≤ w.heap.size) (hv : GView w ad l) (hl : l.length = m) (hsm : q.length + m ≤ 1000000) (hn : ad = none → m = 0) (N : Nat) (hN : q.length + m = N)
    (h : ∀ a' cp' w', OwnG w' B (.slice a' N cp') (q ++ l) → w.grownBy w' v.ownBlock → (∀ k, (Value.slice a' N cp').ownBlock = some k → v.ownBlock = some k ∨ w.heap.size ≤ k) → K (a.put o.dst (.slice a' N cp')) w') :
    if Region.wanted o (yielded ops a.tmps) = true then Oper.wp Try.prog o a w K Q else E := by
  have hw : Region.wanted o (yielded ops a.tmps) = true := by simp [Region.wanted, hgd]
  rw [if_pos hw]
  obtain ⟨v', w', hr, h2, h3, h4⟩ := append_gview (c := c) hown hB hv hl hsm hn o.type
  obtain ⟨a', cp', hv', _⟩ := h2.slice
  rw [List.length_append, hl, hN] at hv'
  subst hv'
  unfold Oper.wp execOp
  simp only [ho, resolve, invoke, builtin, Sem.run_bind, Sem.run_pure, Result.andThen_ok, List.map_toArray, List.map_cons, List.map_nil, hs, hx, hr]
  exact h a' cp' w' h2 h3 h4
theorem wp_gappend {ops : Array Oper} {rest : List Oper} {o : Oper} {a : Act} {Q : Exit → Act → World → Prop} {w : World} (hgd : o.guard = none) (s x : Operand)
    (ho : o.op = .call { callee := .builtin .append, args := #[s, x], argTypes := #[63, 63] }) {B m c : Nat} {v : Value} {q l : List (CgE)} {ad : Option Addr} (hs : a.eval s = v) (hx : a.eval x = .slice ad m c)
    (hown : OwnG w B v q) (hB : B ≤ w.heap.size) (hv : GView w ad l) (hl : l.length = m) (hsm : q.length + m ≤ 1000000) (hn : ad = none → m = 0) (N : Nat) (hN : q.length + m = N)
    (h : ∀ a' cp' w', OwnG w' B (.slice a' N cp') (q ++ l) → w.grownBy w' v.ownBlock → (∀ k, (Value.slice a' N cp').ownBlock = some k → v.ownBlock = some k ∨ w.heap.size ≤ k) → wpList Try.prog ops Q rest (a.put o.dst (.slice a' N cp')) w') : wpList Try.prog ops Q (o :: rest) a w :=
  wpList_step fun _ hK => gstep_append hgd s x ho hs hx hown hB hv hl hsm hn N hN (fun a' cp' w' o' g' l' => hK _ _ (h a' cp' w' o' g' l'))



end Go.Proofs.Ytlglncnhhgofoaa

/-
  The walk over all charges of a system.
-/
namespace Go.Proofs.Ytlglncnhhgofoaa
open Go.RowKit Go.Maps

/-- The charges of the first k tasks; all of a right system. -/
def cgRow (r : Int) (L : List TV) (k : Nat) : List CgE := (L.take k).map fun x => (x.id, cgOf r L x.tk)
theorem cgRow_next {r : Int} {L : List TV} {k : Nat} {x : TV} (h : L[k]? = some x) : cgRow r L (k + 1) = cgRow r L k ++ [(x.id, cgOf r L x.tk)] := by
  unfold cgRow; rw [List.take_add_one, h, List.map_append]; rfl
theorem cgRow_len {r : Int} {L : List TV} {k : Nat} (h : k ≤ L.length) : (cgRow r L k).length = k := by unfold cgRow; rw [List.length_map, List.length_take]; omega
def rowAll (s r : Int) (L : List TV) : List CgE := if checkOf s r L = 0 then cgRow r L L.length else []
/-- A row of charges that comes back. -/
def CgBack (R : List CgE) (w : World) (e : Ending) (w' : World) : Prop := ∃ a c, e = .returned (.slice a R.length c) ∧ GView w' a R ∧ Below w.heap.size w w'
theorem make_cgs (c : Nat) (hc : c ≤ 1000000) (w : World) : (Instr.makeSlice 63 (.int .i64 0) (.int .i64 (c : Int))).run Try.prog w = .ok (.slice (some ⟨w.heap.size, 0, none⟩) 0 c) (w.alloc (.cells (madeCells #[.int .i64 0, .int .i64 0, .int .i64 0, .int .i64 0, .int .i64 0] (c * 5)) CT5)) := by
  obtain ⟨i0, hi, hz0, hz1, hz2⟩ := ginfoParts
  have h := run_make w 63 CT5 i0 _ Try.underlying63 hi hz0 .i64 .i64 0 c (by omega) (by omega) (by rw [hz2]; omega) (by omega)
  rw [hz1] at h
  simpa [Value.cells] using h
/-- The boxes: a system, a row of charges of one's own. -/
structure RowAt (w : World) (s r : Int) (a : Option Addr) (n cap : Nat) (B : Nat) (v : Value) (R : List CgE) (V : World) : Prop where
  low : Below w.heap.size w V
  sys : V.heap[w.heap.size]? = some (.cells #[.int .i64 s, .int .i64 r, .slice a n cap] 27 (0, 0))
  own : OwnG V B v R
  l1 : w.heap.size < B
  sz : B ≤ V.heap.size
theorem RowAt.below {w : World} {s r : Int} {a : Option Addr} {n cap B : Nat} {v : Value} {R : List CgE} {V V' : World} (h : RowAt w s r a n cap B v R V) (hb : Below V.heap.size V V') : RowAt w s r a n cap B v R V' :=
  ⟨below_up h.low hb, kept_obj hb h.sys, h.own.below hb, h.l1, Nat.le_trans h.sz hb.size⟩
theorem RowAt.push {w : World} {s r : Int} {a : Option Addr} {n cap B : Nat} {v v' : Value} {R R' : List CgE} {V V' : World} (h : RowAt w s r a n cap B v R V) (hg : V.grownBy V' v.ownBlock) (ho : OwnG V' B v' R') : RowAt w s r a n cap B v' R' V' ∧ Below B V V' := by
  have hb : Below B V V' := (Below.refl _ V).grown hg h.sz (fun k hk => (h.own.new hk).1)
  exact ⟨⟨h.low.trans (hb.mono (Nat.le_of_lt h.l1)), kept_objB hb h.l1 h.sys, ho, h.l1, Nat.le_trans h.sz hb.size⟩, hb⟩
theorem gat_new (w : World) (x : CgE) (T : TypeId) : GAt (w.alloc (.cells #[.int .i64 x.1, .int .i64 x.2.u, .int .i64 x.2.v, .int .i64 x.2.b, .int .i64 x.2.b] T)) w.heap.size 0 x :=
  ⟨by rw [World.cell?_alloc_new]; rfl, by rw [World.cell?_alloc_new]; rfl, by rw [World.cell?_alloc_new]; rfl, by rw [World.cell?_alloc_new]; rfl, by rw [World.cell?_alloc_new]; rfl⟩

/-- A row's own block is no block of another type. -/
theorem OwnG.apart {w : World} {B k : Nat} {v : Value} {l : List CgE} {cs : Array Value} {T : TypeId} {z : Nat × Nat} (h : OwnG w B v l) (hk : w.heap[k]? = some (.cells cs T z)) (hT : T ≠ CT5) : v.ownBlock ≠ some k := by
  rcases h.2 with ⟨rfl, h0⟩ | ⟨g, cap, cur, rfl, _, h3, _⟩
  · exact fun q => by cases q
  · intro q
    obtain rfl : g = k := by
      have : some g = some k := q
      cases this; rfl
    rw [h3] at hk
    cases hk
    exact hT rfl
theorem ChgAt.push {w w' : World} {B : Nat} {v : Value} {l : List CgE} {s r : Int} {a : Option Addr} {n cap G E C : Nat} (h : ChgAt w s r a n cap G E C) (ho : OwnG w B v l) (hg : w.grownBy w' v.ownBlock) : ChgAt w' s r a n cap G E C :=
  ⟨(hg.block G (lt_of_block h.sys) (ho.apart h.sys (by decide)).symm).trans h.sys, (hg.block E (lt_of_block h.evr) (ho.apart h.evr (by decide)).symm).trans h.evr, (hg.block C (lt_of_block h.cst) (ho.apart h.cst (by decide)).symm).trans h.cst⟩

set_option maxRecDepth 100000 in
set_option maxHeartbeats 8000000 in
theorem row10_any {w : World} {a : Option Addr} {n cap : Nat} {L : List TV} (s r : Int) (ha : Tasks w a n cap L) (hw : ∀ x ∈ L, I64 x.p ∧ I64 x.id) :
    Calls Try.prog 22 #[.agg #[.int .i64 s, .int .i64 r, .slice a n cap]] w (CgBack (rowAll s r L) w) := by
  have CC := Lib.hid (fun v (hb : Below w.heap.size w v) => check_any s r (ha.below hb) hw)
  by_cases hc : checkOf s r L = 0
  rotate_left
  · have hg : rowAll s r L = [] := if_neg hc
    rw [hg]
    have d1 : (checkOf s r L == 0) = false := by rw [beq_eq_false_iff_ne]; exact hc
    have d2 : (checkOf s r L != 0) = true := by rw [bne, d1]; rfl
    generalize checkOf s r L = q at *
    clear hc hg
    go_enter Try.func22, Try.ntmps22
    go_wp2_with (go_at_call 33; (with_reducible refine (CC.out _ (by repeat (first | exact Below.refl _ _ | (with_reducible assumption) | refine bw_alloc ?_ _ | refine bw_drew ?_))).mono ?_); rintro e w1 ⟨rfl, b1⟩; have B1 := Lib.hid (below_up (W := w) (by repeat (first | exact Below.refl _ _ | (with_reducible assumption) | refine bw_alloc ?_ _ | refine bw_drew ?_)) b1); clear b1)
    go_ret
    exact ⟨none, 0, rfl, .inl rfl, B1.out⟩
  have HH : Hid (Hands w s r a n cap L) := ⟨hc, ha⟩
  have HG : Hid (rowAll s r L = cgRow r L n) := by show _ = _; rw [← ha.len]; exact if_pos hc
  rw [HG.out]
  rw [hc] at CC
  obtain ⟨_, _, hl64, ht⟩ := check_ok hc
  have hn64 : n ≤ 64 := by rw [← ha.len]; omega
  have HT := Lib.hid ht
  have CH := Lib.hid (fun v => charges_any s r a n cap v)
  have hmk := make_cgs n (by omega)
  clear ha hw ht hl64 hc
  go_enter Try.func22, Try.ntmps22
  go_upto_region 3 with (go_at_call 33; (with_reducible refine (CC.out _ (by repeat (first | exact Below.refl _ _ | (with_reducible assumption) | refine bw_alloc ?_ _ | refine bw_drew ?_))).mono ?_); rintro e w1 ⟨rfl, b1⟩; have S1 := Lib.hid (kept_obj b1 (heap_alloc_new w _)); have B1 := Lib.hid (below_up (W := w) (by repeat (first | exact Below.refl _ _ | (with_reducible assumption) | refine bw_alloc ?_ _ | refine bw_drew ?_)) b1); clear b1)
  have s2 : w1.cell? ⟨w.heap.size, 2, none⟩ = some (.slice a n cap) := by rw [blk_cell S1.out]; rfl
  go_upto_region 4 with fail
  refine gen_world (RowAt w s r a n cap w1.heap.size (.slice (some ⟨w1.heap.size, 0, none⟩) 0 n) []) ?_ ?_
  · have ho := World.ownsRow_made (e := CT5) (size := 5) (base := w1.heap.size) (w := w1) (madeCells #[.int .i64 0, .int .i64 0, .int .i64 0, .int .i64 0, .int .i64 0] (n * 5)) n (Nat.le_refl _) (by unfold maxLen; omega) (by rw [size_madeCells])
    exact ⟨below_up B1.out (by repeat (first | exact Below.refl _ _ | (with_reducible assumption) | refine bw_alloc ?_ _ | refine bw_drew ?_)), kept_obj (by repeat (first | exact Below.refl _ _ | (with_reducible assumption) | refine bw_alloc ?_ _ | refine bw_drew ?_)) S1.out, ho, lt_of_block S1.out, by rw [World.size_alloc]; omega⟩
  intro V1 hv1
  have HV1 := Lib.hid hv1
  have s0 : V1.cell? ⟨w.heap.size, 0, none⟩ = some (.int .i64 s) := by rw [blk_cell hv1.sys]; rfl
  have s1 : V1.cell? ⟨w.heap.size, 1, none⟩ = some (.int .i64 r) := by rw [blk_cell hv1.sys]; rfl
  have s2 : V1.cell? ⟨w.heap.size, 2, none⟩ = some (.slice a n cap) := by rw [blk_cell hv1.sys]; rfl
  obtain ⟨B, hB⟩ : ∃ B, w1.heap.size = B := ⟨_, rfl⟩
  rw [hB] at HV1 ⊢
  clear hv1 hmk hB
  go_upto_region 5 with (go_at_call 34; (with_reducible refine (CH.out _).mono ?_); rintro e w3 ⟨G, E, C, rfl, hc3, b3⟩; have HV3 := Lib.hid (HV1.out.below b3); have HC3 := Lib.hid hc3; clear b3 hc3)
  have s2 : w3.cell? ⟨w.heap.size, 2, none⟩ = some (.slice a n cap) := by rw [blk_cell HV3.out.sys]; rfl
  clear s0 s1 CC CH HV1
  go_wp2
  go_loopw [3, 19] (fun g u wr => ∃ k : Nat, k ≤ n ∧ u = .int .i64 k ∧ Hid (RowAt w s r a n cap B g (cgRow r L k) wr) ∧ Hid (ChgAt wr s r a n cap G E C)) (fun _ u _ => (n - intOf u).toNat)
  case atStart => exact ⟨0, Nat.zero_le _, rfl, HV3, HC3⟩
  case round =>
    obtain ⟨k, hk, rfl, HP, HC⟩ := hrel
    clear HV3 HC3
    by_cases hlt : k < n
    · obtain ⟨x, hx⟩ := nth_of HH.out.tk.len hlt
      obtain ⟨g, o, rfl, hat⟩ := (HH.out.tk.view.below HP.out.low).at_ hx
      have HOK := Lib.hid ((HH.out.tk.ok.at_ hx).below HP.out.low)
      have HTX := Lib.hid (HT.out x (List.mem_of_getElem? hx)).1
      obtain ⟨c0, c1, c2, c3, c4, c5, c6⟩ := hat
      have hk1 : (k : Int) < (n : Int) := by omega
      have hk0 : (0 : Int) ≤ (k : Int) := by omega
      have HN := Lib.hid (cgRow_next (r := r) hx)
      have HL : Hid ((cgRow r L k).length = k) := cgRow_len (by have := HH.out.tk.len; omega)
      have HSM : Hid ((cgRow r L k).length + 1 ≤ 1000000) := by have := HL.out; show _ ≤ _; omega
      have HNN : Hid ((cgRow r L k).length + 1 = k + 1) := by have := HL.out; show _ = _; omega
      have TC := Lib.hid (fun v (hb : Below wr.heap.size wr v) => (HH.out.below (below_up HP.out.low hb)).tell HTX.out (HOK.out.below hb) (HC.out.below hb))
      generalize cgRow r L k = R at *
      obtain ⟨cg, hcg⟩ : ∃ cg, cgOf r L x.tk = cg := ⟨_, rfl⟩
      rw [hcg] at TC HN
      clear hx s2 hcg
      go_upto_region 8 with fail
      refine gen_world (fun v => Below wr.heap.size wr v ∧ v.heap[wr.heap.size]? = some (.cells #[.int .i64 x.id, .int .i64 x.c, .int .i64 x.d, .int .i64 x.t, .int .i64 x.p, .slice x.a1 x.ch.length x.c1, .slice x.a2 x.us.length x.c2] TT (0, 0))) ⟨(by repeat (first | exact Below.refl _ _ | (with_reducible assumption) | refine bw_alloc ?_ _ | refine bw_drew ?_)), heap_alloc_new wr _⟩ ?_
      intro W4 ⟨hb4, hq4⟩
      have HP4 := Lib.hid (HP.out.below hb4)
      have HC4 := Lib.hid (HC.out.below hb4)
      have TC4 := Lib.hid (TC.out W4 hb4)
      clear TC hb4
      generalize wr.heap.size = gt at *
      have t0 : W4.cell? ⟨gt, 0, none⟩ = some (.int .i64 x.id) := by rw [blk_cell hq4]; rfl
      have t1 : W4.cell? ⟨gt, 1, none⟩ = some (.int .i64 x.c) := by rw [blk_cell hq4]; rfl
      have t2 : W4.cell? ⟨gt, 2, none⟩ = some (.int .i64 x.d) := by rw [blk_cell hq4]; rfl
      have t3 : W4.cell? ⟨gt, 3, none⟩ = some (.int .i64 x.t) := by rw [blk_cell hq4]; rfl
      have t4 : W4.cell? ⟨gt, 4, none⟩ = some (.int .i64 x.p) := by rw [blk_cell hq4]; rfl
      have t5 : W4.cell? ⟨gt, 5, none⟩ = some (.slice x.a1 x.ch.length x.c1) := by rw [blk_cell hq4]; rfl
      have t6 : W4.cell? ⟨gt, 6, none⟩ = some (.slice x.a2 x.us.length x.c2) := by rw [blk_cell hq4]; rfl
      clear hq4 c0 c1 c2 c3 c4 c5 c6 HP HC
      go_wp2_with (first
        | (go_at_call 56; (with_reducible refine TC4.out.mono ?_); rintro e w5 ⟨rfl, b5⟩; have HP5 := Lib.hid (HP4.out.below b5); have HC5 := Lib.hid (HC4.out.below b5); clear b5)
        | (at_builtin; refine wp_gappend (m := 1) (l := [(x.id, cg)]) rfl _ _ rfl rfl rfl ((HP5.out.below (by repeat (first | exact Below.refl _ _ | (with_reducible assumption) | refine bw_alloc ?_ _ | refine bw_drew ?_))).own) (HP5.out.below (by repeat (first | exact Below.refl _ _ | (with_reducible assumption) | refine bw_alloc ?_ _ | refine bw_drew ?_))).sz (GView.of_at (gat_new w5 (x.id, cg) _)) rfl HSM.out (fun z => by cases z) (k + 1) HNN.out ?_; intro a6 c6 w6 o6 n6 l6; rw [← HN.out] at o6; obtain ⟨z1, _⟩ := (HP5.out.below (by repeat (first | exact Below.refl _ _ | (with_reducible assumption) | refine bw_alloc ?_ _ | refine bw_drew ?_))).push n6 o6; have HP6 := Lib.hid z1; have HC6 := Lib.hid ((HC5.out.below (by repeat (first | exact Below.refl _ _ | (with_reducible assumption) | refine bw_alloc ?_ _ | refine bw_drew ?_))).push (HP5.out.below (by repeat (first | exact Below.refl _ _ | (with_reducible assumption) | refine bw_alloc ?_ _ | refine bw_drew ?_))).own n6); clear o6 n6 l6 z1))
      go_roundw
      case rel => exact ⟨k + 1, by omega, by go_num, HP6, HC6⟩
      case measure => simp [intOf]; omega
    · obtain rfl : k = n := by omega
      obtain ⟨a', c', rfl, hvw, _, _⟩ := HP.out.own.slice
      have HVW := Lib.hid hvw
      have HL : Hid ((cgRow r L k).length = k) := cgRow_len (by have := HH.out.tk.len; omega)
      rw [HL.out] at HP
      rw [HL.out]
      clear hvw s2
      go_wp2
      go_ret
      exact ⟨a', c', by rw [HL.out]; rfl, HVW.out, HP.out.low⟩
end Go.Proofs.Ytlglncnhhgofoaa
