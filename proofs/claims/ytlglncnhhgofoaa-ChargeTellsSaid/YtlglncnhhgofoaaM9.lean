/- Texts of this claim, put together: FW4, FAwk, KW17, FLaw1, FLaw2, FW5, FLaw3. -/
import Derived.Test.YtlglncnhhgofoaaM8
set_option linter.unusedVariables false
set_option linter.unusedSimpArgs false

/-
  The walks over the four calls that tell a charge.
-/
namespace Go.Proofs.Ytlglncnhhgofoaa
open Go.RowKit Go.Maps

set_option maxRecDepth 100000 in
set_option maxHeartbeats 8000000 in
theorem oneU_any {w : World} {a : Option Addr} {n cap : Nat} {L : List TV} (s r id : Int) (ha : Tasks w a n cap L) (hw : ∀ x ∈ L, I64 x.p ∧ I64 x.id) :
    Calls Try.prog 26 #[.agg #[.int .i64 s, .int .i64 r, .slice a n cap], .int .i64 id, .func (.func 27) #[] #[]] w (OneBack cgU (cgAt s r L id) w) := by
  have CC := Lib.hid (fun v (hb : Below w.heap.size w v) => check_any s r (ha.below hb) hw)
  by_cases hc : checkOf s r L = 0
  rotate_left
  · rw [cgAt_bad hc]
    have d1 : (checkOf s r L == 0) = false := by rw [beq_eq_false_iff_ne]; exact hc
    have d2 : (checkOf s r L != 0) = true := by rw [bne, d1]; rfl
    generalize checkOf s r L = q at *
    clear hc
    go_enter Try.func26, Try.ntmps26
    go_wp2_with (go_at_call 33; (with_reducible refine (CC.out _ (by repeat (first | exact Below.refl _ _ | (with_reducible assumption) | refine bw_alloc ?_ _ | refine bw_drew ?_))).mono ?_); rintro e w1 ⟨rfl, b1⟩; have B1 := Lib.hid (below_up (W := w) (by repeat (first | exact Below.refl _ _ | (with_reducible assumption) | refine bw_alloc ?_ _ | refine bw_drew ?_)) b1); clear b1)
    go_ret2
    exact ⟨rfl, B1.out⟩
  have HH : Hid (Hands w s r a n cap L) := ⟨hc, ha⟩
  rw [hc] at CC
  obtain ⟨_, _, hl, ht⟩ := check_ok hc
  have FC := Lib.hid (fun v (hb : Below w.heap.size w v) => find_sys s r id (ha.below hb) (by rw [← ha.len]; omega) (fun x hx => by have := (ht x hx).1.n64; have := (ht x hx).2; omega))
  have HT := Lib.hid ht
  have CH := Lib.hid (fun v => charges_any s r a n cap v)
  clear ha hw ht hl hc
  go_enter Try.func26, Try.ntmps26
  go_upto_region 3 with (go_at_call 33; (with_reducible refine (CC.out _ (by repeat (first | exact Below.refl _ _ | (with_reducible assumption) | refine bw_alloc ?_ _ | refine bw_drew ?_))).mono ?_); rintro e w1 ⟨rfl, b1⟩; have S1 := Lib.hid (kept_obj b1 (heap_alloc_new w _)); have B1 := Lib.hid (below_up (W := w) (by repeat (first | exact Below.refl _ _ | (with_reducible assumption) | refine bw_alloc ?_ _ | refine bw_drew ?_)) b1); clear b1)
  have s0 : w1.cell? ⟨w.heap.size, 0, none⟩ = some (.int .i64 s) := by rw [blk_cell S1.out]; rfl
  have s1 : w1.cell? ⟨w.heap.size, 1, none⟩ = some (.int .i64 r) := by rw [blk_cell S1.out]; rfl
  have s2 : w1.cell? ⟨w.heap.size, 2, none⟩ = some (.slice a n cap) := by rw [blk_cell S1.out]; rfl
  go_upto_region 4 with (go_at_call 44; (with_reducible refine (FC.out _ B1.out).mono ?_); rintro e w2 ⟨y, b, rfl, hy, _, hto, b2⟩; have H2 := Lib.hid (And.intro hy (And.intro hto b2)); clear hy hto b2)
  obtain ⟨hok, hto, b2⟩ := H2.out
  have hto := Lib.hid hto
  obtain ⟨gt, hgt⟩ : ∃ gt, w2.heap.size = gt := ⟨_, rfl⟩
  have hq2 := heap_alloc_new w2 (.cells #[.int .i64 y.id, .int .i64 y.c, .int .i64 y.d, .int .i64 y.t, .int .i64 y.p, .slice y.a1 y.ch.length y.c1, .slice y.a2 y.us.length y.c2] TT)
  rw [hgt] at hq2 ⊢
  refine gen_world (OneAt w s r a n cap gt y) ⟨below_up B1.out (below_up b2 (by repeat (first | exact Below.refl _ _ | (with_reducible assumption) | refine bw_alloc ?_ _ | refine bw_drew ?_))), kept_obj (below_up b2 (by repeat (first | exact Below.refl _ _ | (with_reducible assumption) | refine bw_alloc ?_ _ | refine bw_drew ?_))) S1.out, hq2, hok.below (by repeat (first | exact Below.refl _ _ | (with_reducible assumption) | refine bw_alloc ?_ _ | refine bw_drew ?_))⟩ ?_
  intro W2 hw2
  have HW := Lib.hid hw2
  clear hok b2 hq2 hgt H2 s0 s1 s2
  cases b with
  | false =>
    have hn : findTk (L.map TV.tk) id = none := by
      rcases hto.out with ⟨q, _⟩ | ⟨_, q, _⟩
      · cases q
      · exact q
    have HN := Lib.hid (cgAt_none (s := s) (r := r) hn)
    clear hto hn
    go_wp2
    go_ret2
    exact ⟨by rw [HN.out]; rfl, HW.out.low⟩
  | true =>
    have hf : findTk (L.map TV.tk) id = some y.tk := by
      rcases hto.out with ⟨_, q⟩ | ⟨q, _⟩
      · exact q
      · cases q
    have HY : Hid (l_Told y) := by
      obtain ⟨x, hx, e⟩ := told_tk hf
      exact told_of_tk (HT.out x hx).1 e
    have HCG := Lib.hid (cgAt_some HH.out.chk hf)
    have MK : Hid (∀ w', Below W2.heap.size W2 w' → (w'.cell? ⟨w.heap.size, 0, none⟩ = some (.int .i64 s) ∧ w'.cell? ⟨w.heap.size, 1, none⟩ = some (.int .i64 r) ∧ w'.cell? ⟨w.heap.size, 2, none⟩ = some (.slice a n cap) ∧ w'.cell? ⟨gt, 0, none⟩ = some (.int .i64 y.id) ∧ w'.cell? ⟨gt, 1, none⟩ = some (.int .i64 y.c) ∧ w'.cell? ⟨gt, 2, none⟩ = some (.int .i64 y.d) ∧ w'.cell? ⟨gt, 3, none⟩ = some (.int .i64 y.t) ∧ w'.cell? ⟨gt, 4, none⟩ = some (.int .i64 y.p) ∧ w'.cell? ⟨gt, 5, none⟩ = some (.slice y.a1 y.ch.length y.c1) ∧ w'.cell? ⟨gt, 6, none⟩ = some (.slice y.a2 y.us.length y.c2))) := fun w' hb => by
      have x0 := kept_obj hb HW.out.sys
      have x1 := kept_obj hb HW.out.tb
      exact ⟨by rw [blk_cell x0]; rfl, by rw [blk_cell x0]; rfl, by rw [blk_cell x0]; rfl, by rw [blk_cell x1]; rfl, by rw [blk_cell x1]; rfl, by rw [blk_cell x1]; rfl, by rw [blk_cell x1]; rfl, by rw [blk_cell x1]; rfl, by rw [blk_cell x1]; rfl, by rw [blk_cell x1]; rfl⟩
    have TC := Lib.hid (fun v (hb : Below w.heap.size w v) (hb2 : Below W2.heap.size W2 v) G E C (hc : ChgAt v s r a n cap G E C) => (HH.out.below hb).tell HY.out (HW.out.ok.below hb2) hc)
    have PC := Lib.hid (fun v => pick_U y.id (cgOf r L y.tk) v)
    generalize cgOf r L y.tk = cg at *
    clear hto hf hw2
    obtain ⟨s0, s1, s2, t0, t1, t2, t3, t4, t5, t6⟩ := MK.out W2 (Below.refl _ _)
    go_upto_region 6 with fail
    go_region_held3 (fun w' => w'.cell? ⟨w.heap.size, 0, none⟩ = some (.int .i64 s) ∧ w'.cell? ⟨w.heap.size, 1, none⟩ = some (.int .i64 r) ∧ w'.cell? ⟨w.heap.size, 2, none⟩ = some (.slice a n cap) ∧ w'.cell? ⟨gt, 0, none⟩ = some (.int .i64 y.id) ∧ w'.cell? ⟨gt, 1, none⟩ = some (.int .i64 y.c) ∧ w'.cell? ⟨gt, 2, none⟩ = some (.int .i64 y.d) ∧ w'.cell? ⟨gt, 3, none⟩ = some (.int .i64 y.t) ∧ w'.cell? ⟨gt, 4, none⟩ = some (.int .i64 y.p) ∧ w'.cell? ⟨gt, 5, none⟩ = some (.slice y.a1 y.ch.length y.c1) ∧ w'.cell? ⟨gt, 6, none⟩ = some (.slice y.a2 y.us.length y.c2)) (exact MK.out _ (by repeat (first | exact B5.out | exact B4.out | exact B3.out | exact Below.refl _ _ | (with_reducible assumption) | refine bw_drew ?_ | refine bw_alloc ?_ _))) (first
      | (go_at_call 34; (with_reducible refine (CH.out _).mono ?_); rintro e w3 ⟨G, E, C, rfl, hc3, b3⟩; have B3 := Lib.hid (below_up (W := W2) (by repeat (first | exact Below.refl _ _ | (with_reducible assumption) | refine bw_alloc ?_ _ | refine bw_drew ?_)) b3); have HC3 := Lib.hid hc3; clear b3 hc3)
      | (go_at_call 56; (with_reducible refine (TC.out _ (below_up HW.out.low (by repeat (first | exact B3.out | refine bw_drew ?_))) (by repeat (first | exact B3.out | refine bw_drew ?_)) _ _ _ HC3.out).mono ?_); rintro e w4 ⟨rfl, b4⟩; have B4 := Lib.hid (below_up (W := W2) (by repeat (first | exact B3.out | refine bw_drew ?_)) b4); clear b4)
      | (go_at_call 27; (with_reducible refine (PC.out _).mono ?_); rintro e w5 ⟨rfl, b5⟩; have B5 := Lib.hid (below_up (W := W2) (by repeat (first | exact B4.out | refine bw_drew ?_)) b5); clear b5))
    all_goals
      go_wp2_with fail
      go_ret2
      exact ⟨by rw [HCG.out]; rfl, below_up HW.out.low B5.out⟩
set_option maxRecDepth 100000 in
set_option maxHeartbeats 8000000 in
theorem oneV_any {w : World} {a : Option Addr} {n cap : Nat} {L : List TV} (s r id : Int) (ha : Tasks w a n cap L) (hw : ∀ x ∈ L, I64 x.p ∧ I64 x.id) :
    Calls Try.prog 26 #[.agg #[.int .i64 s, .int .i64 r, .slice a n cap], .int .i64 id, .func (.func 28) #[] #[]] w (OneBack cgV (cgAt s r L id) w) := by
  have CC := Lib.hid (fun v (hb : Below w.heap.size w v) => check_any s r (ha.below hb) hw)
  by_cases hc : checkOf s r L = 0
  rotate_left
  · rw [cgAt_bad hc]
    have d1 : (checkOf s r L == 0) = false := by rw [beq_eq_false_iff_ne]; exact hc
    have d2 : (checkOf s r L != 0) = true := by rw [bne, d1]; rfl
    generalize checkOf s r L = q at *
    clear hc
    go_enter Try.func26, Try.ntmps26
    go_wp2_with (go_at_call 33; (with_reducible refine (CC.out _ (by repeat (first | exact Below.refl _ _ | (with_reducible assumption) | refine bw_alloc ?_ _ | refine bw_drew ?_))).mono ?_); rintro e w1 ⟨rfl, b1⟩; have B1 := Lib.hid (below_up (W := w) (by repeat (first | exact Below.refl _ _ | (with_reducible assumption) | refine bw_alloc ?_ _ | refine bw_drew ?_)) b1); clear b1)
    go_ret2
    exact ⟨rfl, B1.out⟩
  have HH : Hid (Hands w s r a n cap L) := ⟨hc, ha⟩
  rw [hc] at CC
  obtain ⟨_, _, hl, ht⟩ := check_ok hc
  have FC := Lib.hid (fun v (hb : Below w.heap.size w v) => find_sys s r id (ha.below hb) (by rw [← ha.len]; omega) (fun x hx => by have := (ht x hx).1.n64; have := (ht x hx).2; omega))
  have HT := Lib.hid ht
  have CH := Lib.hid (fun v => charges_any s r a n cap v)
  clear ha hw ht hl hc
  go_enter Try.func26, Try.ntmps26
  go_upto_region 3 with (go_at_call 33; (with_reducible refine (CC.out _ (by repeat (first | exact Below.refl _ _ | (with_reducible assumption) | refine bw_alloc ?_ _ | refine bw_drew ?_))).mono ?_); rintro e w1 ⟨rfl, b1⟩; have S1 := Lib.hid (kept_obj b1 (heap_alloc_new w _)); have B1 := Lib.hid (below_up (W := w) (by repeat (first | exact Below.refl _ _ | (with_reducible assumption) | refine bw_alloc ?_ _ | refine bw_drew ?_)) b1); clear b1)
  have s0 : w1.cell? ⟨w.heap.size, 0, none⟩ = some (.int .i64 s) := by rw [blk_cell S1.out]; rfl
  have s1 : w1.cell? ⟨w.heap.size, 1, none⟩ = some (.int .i64 r) := by rw [blk_cell S1.out]; rfl
  have s2 : w1.cell? ⟨w.heap.size, 2, none⟩ = some (.slice a n cap) := by rw [blk_cell S1.out]; rfl
  go_upto_region 4 with (go_at_call 44; (with_reducible refine (FC.out _ B1.out).mono ?_); rintro e w2 ⟨y, b, rfl, hy, _, hto, b2⟩; have H2 := Lib.hid (And.intro hy (And.intro hto b2)); clear hy hto b2)
  obtain ⟨hok, hto, b2⟩ := H2.out
  have hto := Lib.hid hto
  obtain ⟨gt, hgt⟩ : ∃ gt, w2.heap.size = gt := ⟨_, rfl⟩
  have hq2 := heap_alloc_new w2 (.cells #[.int .i64 y.id, .int .i64 y.c, .int .i64 y.d, .int .i64 y.t, .int .i64 y.p, .slice y.a1 y.ch.length y.c1, .slice y.a2 y.us.length y.c2] TT)
  rw [hgt] at hq2 ⊢
  refine gen_world (OneAt w s r a n cap gt y) ⟨below_up B1.out (below_up b2 (by repeat (first | exact Below.refl _ _ | (with_reducible assumption) | refine bw_alloc ?_ _ | refine bw_drew ?_))), kept_obj (below_up b2 (by repeat (first | exact Below.refl _ _ | (with_reducible assumption) | refine bw_alloc ?_ _ | refine bw_drew ?_))) S1.out, hq2, hok.below (by repeat (first | exact Below.refl _ _ | (with_reducible assumption) | refine bw_alloc ?_ _ | refine bw_drew ?_))⟩ ?_
  intro W2 hw2
  have HW := Lib.hid hw2
  clear hok b2 hq2 hgt H2 s0 s1 s2
  cases b with
  | false =>
    have hn : findTk (L.map TV.tk) id = none := by
      rcases hto.out with ⟨q, _⟩ | ⟨_, q, _⟩
      · cases q
      · exact q
    have HN := Lib.hid (cgAt_none (s := s) (r := r) hn)
    clear hto hn
    go_wp2
    go_ret2
    exact ⟨by rw [HN.out]; rfl, HW.out.low⟩
  | true =>
    have hf : findTk (L.map TV.tk) id = some y.tk := by
      rcases hto.out with ⟨_, q⟩ | ⟨q, _⟩
      · exact q
      · cases q
    have HY : Hid (l_Told y) := by
      obtain ⟨x, hx, e⟩ := told_tk hf
      exact told_of_tk (HT.out x hx).1 e
    have HCG := Lib.hid (cgAt_some HH.out.chk hf)
    have MK : Hid (∀ w', Below W2.heap.size W2 w' → (w'.cell? ⟨w.heap.size, 0, none⟩ = some (.int .i64 s) ∧ w'.cell? ⟨w.heap.size, 1, none⟩ = some (.int .i64 r) ∧ w'.cell? ⟨w.heap.size, 2, none⟩ = some (.slice a n cap) ∧ w'.cell? ⟨gt, 0, none⟩ = some (.int .i64 y.id) ∧ w'.cell? ⟨gt, 1, none⟩ = some (.int .i64 y.c) ∧ w'.cell? ⟨gt, 2, none⟩ = some (.int .i64 y.d) ∧ w'.cell? ⟨gt, 3, none⟩ = some (.int .i64 y.t) ∧ w'.cell? ⟨gt, 4, none⟩ = some (.int .i64 y.p) ∧ w'.cell? ⟨gt, 5, none⟩ = some (.slice y.a1 y.ch.length y.c1) ∧ w'.cell? ⟨gt, 6, none⟩ = some (.slice y.a2 y.us.length y.c2))) := fun w' hb => by
      have x0 := kept_obj hb HW.out.sys
      have x1 := kept_obj hb HW.out.tb
      exact ⟨by rw [blk_cell x0]; rfl, by rw [blk_cell x0]; rfl, by rw [blk_cell x0]; rfl, by rw [blk_cell x1]; rfl, by rw [blk_cell x1]; rfl, by rw [blk_cell x1]; rfl, by rw [blk_cell x1]; rfl, by rw [blk_cell x1]; rfl, by rw [blk_cell x1]; rfl, by rw [blk_cell x1]; rfl⟩
    have TC := Lib.hid (fun v (hb : Below w.heap.size w v) (hb2 : Below W2.heap.size W2 v) G E C (hc : ChgAt v s r a n cap G E C) => (HH.out.below hb).tell HY.out (HW.out.ok.below hb2) hc)
    have PC := Lib.hid (fun v => pick_V y.id (cgOf r L y.tk) v)
    generalize cgOf r L y.tk = cg at *
    clear hto hf hw2
    obtain ⟨s0, s1, s2, t0, t1, t2, t3, t4, t5, t6⟩ := MK.out W2 (Below.refl _ _)
    go_upto_region 6 with fail
    go_region_held3 (fun w' => w'.cell? ⟨w.heap.size, 0, none⟩ = some (.int .i64 s) ∧ w'.cell? ⟨w.heap.size, 1, none⟩ = some (.int .i64 r) ∧ w'.cell? ⟨w.heap.size, 2, none⟩ = some (.slice a n cap) ∧ w'.cell? ⟨gt, 0, none⟩ = some (.int .i64 y.id) ∧ w'.cell? ⟨gt, 1, none⟩ = some (.int .i64 y.c) ∧ w'.cell? ⟨gt, 2, none⟩ = some (.int .i64 y.d) ∧ w'.cell? ⟨gt, 3, none⟩ = some (.int .i64 y.t) ∧ w'.cell? ⟨gt, 4, none⟩ = some (.int .i64 y.p) ∧ w'.cell? ⟨gt, 5, none⟩ = some (.slice y.a1 y.ch.length y.c1) ∧ w'.cell? ⟨gt, 6, none⟩ = some (.slice y.a2 y.us.length y.c2)) (exact MK.out _ (by repeat (first | exact B5.out | exact B4.out | exact B3.out | exact Below.refl _ _ | (with_reducible assumption) | refine bw_drew ?_ | refine bw_alloc ?_ _))) (first
      | (go_at_call 34; (with_reducible refine (CH.out _).mono ?_); rintro e w3 ⟨G, E, C, rfl, hc3, b3⟩; have B3 := Lib.hid (below_up (W := W2) (by repeat (first | exact Below.refl _ _ | (with_reducible assumption) | refine bw_alloc ?_ _ | refine bw_drew ?_)) b3); have HC3 := Lib.hid hc3; clear b3 hc3)
      | (go_at_call 56; (with_reducible refine (TC.out _ (below_up HW.out.low (by repeat (first | exact B3.out | refine bw_drew ?_))) (by repeat (first | exact B3.out | refine bw_drew ?_)) _ _ _ HC3.out).mono ?_); rintro e w4 ⟨rfl, b4⟩; have B4 := Lib.hid (below_up (W := W2) (by repeat (first | exact B3.out | refine bw_drew ?_)) b4); clear b4)
      | (go_at_call 28; (with_reducible refine (PC.out _).mono ?_); rintro e w5 ⟨rfl, b5⟩; have B5 := Lib.hid (below_up (W := W2) (by repeat (first | exact B4.out | refine bw_drew ?_)) b5); clear b5))
    all_goals
      go_wp2_with fail
      go_ret2
      exact ⟨by rw [HCG.out]; rfl, below_up HW.out.low B5.out⟩
set_option maxRecDepth 100000 in
set_option maxHeartbeats 8000000 in
theorem oneB_any {w : World} {a : Option Addr} {n cap : Nat} {L : List TV} (s r id : Int) (ha : Tasks w a n cap L) (hw : ∀ x ∈ L, I64 x.p ∧ I64 x.id) :
    Calls Try.prog 26 #[.agg #[.int .i64 s, .int .i64 r, .slice a n cap], .int .i64 id, .func (.func 29) #[] #[]] w (OneBack cgB (cgAt s r L id) w) := by
  have CC := Lib.hid (fun v (hb : Below w.heap.size w v) => check_any s r (ha.below hb) hw)
  by_cases hc : checkOf s r L = 0
  rotate_left
  · rw [cgAt_bad hc]
    have d1 : (checkOf s r L == 0) = false := by rw [beq_eq_false_iff_ne]; exact hc
    have d2 : (checkOf s r L != 0) = true := by rw [bne, d1]; rfl
    generalize checkOf s r L = q at *
    clear hc
    go_enter Try.func26, Try.ntmps26
    go_wp2_with (go_at_call 33; (with_reducible refine (CC.out _ (by repeat (first | exact Below.refl _ _ | (with_reducible assumption) | refine bw_alloc ?_ _ | refine bw_drew ?_))).mono ?_); rintro e w1 ⟨rfl, b1⟩; have B1 := Lib.hid (below_up (W := w) (by repeat (first | exact Below.refl _ _ | (with_reducible assumption) | refine bw_alloc ?_ _ | refine bw_drew ?_)) b1); clear b1)
    go_ret2
    exact ⟨rfl, B1.out⟩
  have HH : Hid (Hands w s r a n cap L) := ⟨hc, ha⟩
  rw [hc] at CC
  obtain ⟨_, _, hl, ht⟩ := check_ok hc
  have FC := Lib.hid (fun v (hb : Below w.heap.size w v) => find_sys s r id (ha.below hb) (by rw [← ha.len]; omega) (fun x hx => by have := (ht x hx).1.n64; have := (ht x hx).2; omega))
  have HT := Lib.hid ht
  have CH := Lib.hid (fun v => charges_any s r a n cap v)
  clear ha hw ht hl hc
  go_enter Try.func26, Try.ntmps26
  go_upto_region 3 with (go_at_call 33; (with_reducible refine (CC.out _ (by repeat (first | exact Below.refl _ _ | (with_reducible assumption) | refine bw_alloc ?_ _ | refine bw_drew ?_))).mono ?_); rintro e w1 ⟨rfl, b1⟩; have S1 := Lib.hid (kept_obj b1 (heap_alloc_new w _)); have B1 := Lib.hid (below_up (W := w) (by repeat (first | exact Below.refl _ _ | (with_reducible assumption) | refine bw_alloc ?_ _ | refine bw_drew ?_)) b1); clear b1)
  have s0 : w1.cell? ⟨w.heap.size, 0, none⟩ = some (.int .i64 s) := by rw [blk_cell S1.out]; rfl
  have s1 : w1.cell? ⟨w.heap.size, 1, none⟩ = some (.int .i64 r) := by rw [blk_cell S1.out]; rfl
  have s2 : w1.cell? ⟨w.heap.size, 2, none⟩ = some (.slice a n cap) := by rw [blk_cell S1.out]; rfl
  go_upto_region 4 with (go_at_call 44; (with_reducible refine (FC.out _ B1.out).mono ?_); rintro e w2 ⟨y, b, rfl, hy, _, hto, b2⟩; have H2 := Lib.hid (And.intro hy (And.intro hto b2)); clear hy hto b2)
  obtain ⟨hok, hto, b2⟩ := H2.out
  have hto := Lib.hid hto
  obtain ⟨gt, hgt⟩ : ∃ gt, w2.heap.size = gt := ⟨_, rfl⟩
  have hq2 := heap_alloc_new w2 (.cells #[.int .i64 y.id, .int .i64 y.c, .int .i64 y.d, .int .i64 y.t, .int .i64 y.p, .slice y.a1 y.ch.length y.c1, .slice y.a2 y.us.length y.c2] TT)
  rw [hgt] at hq2 ⊢
  refine gen_world (OneAt w s r a n cap gt y) ⟨below_up B1.out (below_up b2 (by repeat (first | exact Below.refl _ _ | (with_reducible assumption) | refine bw_alloc ?_ _ | refine bw_drew ?_))), kept_obj (below_up b2 (by repeat (first | exact Below.refl _ _ | (with_reducible assumption) | refine bw_alloc ?_ _ | refine bw_drew ?_))) S1.out, hq2, hok.below (by repeat (first | exact Below.refl _ _ | (with_reducible assumption) | refine bw_alloc ?_ _ | refine bw_drew ?_))⟩ ?_
  intro W2 hw2
  have HW := Lib.hid hw2
  clear hok b2 hq2 hgt H2 s0 s1 s2
  cases b with
  | false =>
    have hn : findTk (L.map TV.tk) id = none := by
      rcases hto.out with ⟨q, _⟩ | ⟨_, q, _⟩
      · cases q
      · exact q
    have HN := Lib.hid (cgAt_none (s := s) (r := r) hn)
    clear hto hn
    go_wp2
    go_ret2
    exact ⟨by rw [HN.out]; rfl, HW.out.low⟩
  | true =>
    have hf : findTk (L.map TV.tk) id = some y.tk := by
      rcases hto.out with ⟨_, q⟩ | ⟨q, _⟩
      · exact q
      · cases q
    have HY : Hid (l_Told y) := by
      obtain ⟨x, hx, e⟩ := told_tk hf
      exact told_of_tk (HT.out x hx).1 e
    have HCG := Lib.hid (cgAt_some HH.out.chk hf)
    have MK : Hid (∀ w', Below W2.heap.size W2 w' → (w'.cell? ⟨w.heap.size, 0, none⟩ = some (.int .i64 s) ∧ w'.cell? ⟨w.heap.size, 1, none⟩ = some (.int .i64 r) ∧ w'.cell? ⟨w.heap.size, 2, none⟩ = some (.slice a n cap) ∧ w'.cell? ⟨gt, 0, none⟩ = some (.int .i64 y.id) ∧ w'.cell? ⟨gt, 1, none⟩ = some (.int .i64 y.c) ∧ w'.cell? ⟨gt, 2, none⟩ = some (.int .i64 y.d) ∧ w'.cell? ⟨gt, 3, none⟩ = some (.int .i64 y.t) ∧ w'.cell? ⟨gt, 4, none⟩ = some (.int .i64 y.p) ∧ w'.cell? ⟨gt, 5, none⟩ = some (.slice y.a1 y.ch.length y.c1) ∧ w'.cell? ⟨gt, 6, none⟩ = some (.slice y.a2 y.us.length y.c2))) := fun w' hb => by
      have x0 := kept_obj hb HW.out.sys
      have x1 := kept_obj hb HW.out.tb
      exact ⟨by rw [blk_cell x0]; rfl, by rw [blk_cell x0]; rfl, by rw [blk_cell x0]; rfl, by rw [blk_cell x1]; rfl, by rw [blk_cell x1]; rfl, by rw [blk_cell x1]; rfl, by rw [blk_cell x1]; rfl, by rw [blk_cell x1]; rfl, by rw [blk_cell x1]; rfl, by rw [blk_cell x1]; rfl⟩
    have TC := Lib.hid (fun v (hb : Below w.heap.size w v) (hb2 : Below W2.heap.size W2 v) G E C (hc : ChgAt v s r a n cap G E C) => (HH.out.below hb).tell HY.out (HW.out.ok.below hb2) hc)
    have PC := Lib.hid (fun v => pick_B y.id (cgOf r L y.tk) v)
    generalize cgOf r L y.tk = cg at *
    clear hto hf hw2
    obtain ⟨s0, s1, s2, t0, t1, t2, t3, t4, t5, t6⟩ := MK.out W2 (Below.refl _ _)
    go_upto_region 6 with fail
    go_region_held3 (fun w' => w'.cell? ⟨w.heap.size, 0, none⟩ = some (.int .i64 s) ∧ w'.cell? ⟨w.heap.size, 1, none⟩ = some (.int .i64 r) ∧ w'.cell? ⟨w.heap.size, 2, none⟩ = some (.slice a n cap) ∧ w'.cell? ⟨gt, 0, none⟩ = some (.int .i64 y.id) ∧ w'.cell? ⟨gt, 1, none⟩ = some (.int .i64 y.c) ∧ w'.cell? ⟨gt, 2, none⟩ = some (.int .i64 y.d) ∧ w'.cell? ⟨gt, 3, none⟩ = some (.int .i64 y.t) ∧ w'.cell? ⟨gt, 4, none⟩ = some (.int .i64 y.p) ∧ w'.cell? ⟨gt, 5, none⟩ = some (.slice y.a1 y.ch.length y.c1) ∧ w'.cell? ⟨gt, 6, none⟩ = some (.slice y.a2 y.us.length y.c2)) (exact MK.out _ (by repeat (first | exact B5.out | exact B4.out | exact B3.out | exact Below.refl _ _ | (with_reducible assumption) | refine bw_drew ?_ | refine bw_alloc ?_ _))) (first
      | (go_at_call 34; (with_reducible refine (CH.out _).mono ?_); rintro e w3 ⟨G, E, C, rfl, hc3, b3⟩; have B3 := Lib.hid (below_up (W := W2) (by repeat (first | exact Below.refl _ _ | (with_reducible assumption) | refine bw_alloc ?_ _ | refine bw_drew ?_)) b3); have HC3 := Lib.hid hc3; clear b3 hc3)
      | (go_at_call 56; (with_reducible refine (TC.out _ (below_up HW.out.low (by repeat (first | exact B3.out | refine bw_drew ?_))) (by repeat (first | exact B3.out | refine bw_drew ?_)) _ _ _ HC3.out).mono ?_); rintro e w4 ⟨rfl, b4⟩; have B4 := Lib.hid (below_up (W := W2) (by repeat (first | exact B3.out | refine bw_drew ?_)) b4); clear b4)
      | (go_at_call 29; (with_reducible refine (PC.out _).mono ?_); rintro e w5 ⟨rfl, b5⟩; have B5 := Lib.hid (below_up (W := W2) (by repeat (first | exact B4.out | refine bw_drew ?_)) b5); clear b5))
    all_goals
      go_wp2_with fail
      go_ret2
      exact ⟨by rw [HCG.out]; rfl, below_up HW.out.low B5.out⟩

set_option maxRecDepth 100000 in
set_option maxHeartbeats 4000000 in
theorem cUseful_any {w : World} {a : Option Addr} {n cap : Nat} {L : List TV} (s r id : Int) (ha : Tasks w a n cap L) (hw : ∀ x ∈ L, I64 x.p ∧ I64 x.id) :
    Calls Try.prog 12 #[.agg #[.int .i64 s, .int .i64 r, .slice a n cap], .int .i64 id] w (OneBack cgU (cgAt s r L id) w) := by
  have OC := Lib.hid (fun v (hb : Below w.heap.size w v) => oneU_any s r id (ha.below hb) hw)
  unfold OneBack at OC ⊢
  obtain ⟨x, hx⟩ : ∃ x, cgU (cgAt s r L id) = x := ⟨_, rfl⟩
  obtain ⟨b, hb⟩ : ∃ b, (cgAt s r L id).isSome = b := ⟨_, rfl⟩
  rw [hx, hb] at OC ⊢
  clear ha hw hx hb
  go_enter Try.func12, Try.ntmps12
  go_wp2_with (go_at_call 26; (with_reducible refine (OC.out _ (by repeat (first | exact Below.refl _ _ | (with_reducible assumption) | refine bw_alloc ?_ _ | refine bw_drew ?_))).mono ?_); rintro e w1 ⟨rfl, b1⟩; have B1 := Lib.hid (below_up (W := w) (by repeat (first | exact Below.refl _ _ | (with_reducible assumption) | refine bw_alloc ?_ _ | refine bw_drew ?_)) b1); clear b1)
  go_ret2
  exact ⟨rfl, B1.out⟩

set_option maxRecDepth 100000 in
set_option maxHeartbeats 4000000 in
theorem cUsed_any {w : World} {a : Option Addr} {n cap : Nat} {L : List TV} (s r id : Int) (ha : Tasks w a n cap L) (hw : ∀ x ∈ L, I64 x.p ∧ I64 x.id) :
    Calls Try.prog 13 #[.agg #[.int .i64 s, .int .i64 r, .slice a n cap], .int .i64 id] w (OneBack cgV (cgAt s r L id) w) := by
  have OC := Lib.hid (fun v (hb : Below w.heap.size w v) => oneV_any s r id (ha.below hb) hw)
  unfold OneBack at OC ⊢
  obtain ⟨x, hx⟩ : ∃ x, cgV (cgAt s r L id) = x := ⟨_, rfl⟩
  obtain ⟨b, hb⟩ : ∃ b, (cgAt s r L id).isSome = b := ⟨_, rfl⟩
  rw [hx, hb] at OC ⊢
  clear ha hw hx hb
  go_enter Try.func13, Try.ntmps13
  go_wp2_with (go_at_call 26; (with_reducible refine (OC.out _ (by repeat (first | exact Below.refl _ _ | (with_reducible assumption) | refine bw_alloc ?_ _ | refine bw_drew ?_))).mono ?_); rintro e w1 ⟨rfl, b1⟩; have B1 := Lib.hid (below_up (W := w) (by repeat (first | exact Below.refl _ _ | (with_reducible assumption) | refine bw_alloc ?_ _ | refine bw_drew ?_)) b1); clear b1)
  go_ret2
  exact ⟨rfl, B1.out⟩

set_option maxRecDepth 100000 in
set_option maxHeartbeats 4000000 in
theorem cBoth_any {w : World} {a : Option Addr} {n cap : Nat} {L : List TV} (s r id : Int) (ha : Tasks w a n cap L) (hw : ∀ x ∈ L, I64 x.p ∧ I64 x.id) :
    Calls Try.prog 14 #[.agg #[.int .i64 s, .int .i64 r, .slice a n cap], .int .i64 id] w (OneBack cgB (cgAt s r L id) w) := by
  have OC := Lib.hid (fun v (hb : Below w.heap.size w v) => oneB_any s r id (ha.below hb) hw)
  unfold OneBack at OC ⊢
  obtain ⟨x, hx⟩ : ∃ x, cgB (cgAt s r L id) = x := ⟨_, rfl⟩
  obtain ⟨b, hb⟩ : ∃ b, (cgAt s r L id).isSome = b := ⟨_, rfl⟩
  rw [hx, hb] at OC ⊢
  clear ha hw hx hb
  go_enter Try.func14, Try.ntmps14
  go_wp2_with (go_at_call 26; (with_reducible refine (OC.out _ (by repeat (first | exact Below.refl _ _ | (with_reducible assumption) | refine bw_alloc ?_ _ | refine bw_drew ?_))).mono ?_); rintro e w1 ⟨rfl, b1⟩; have B1 := Lib.hid (below_up (W := w) (by repeat (first | exact Below.refl _ _ | (with_reducible assumption) | refine bw_alloc ?_ _ | refine bw_drew ?_)) b1); clear b1)
  go_ret2
  exact ⟨rfl, B1.out⟩

set_option maxRecDepth 100000 in
set_option maxHeartbeats 4000000 in
theorem cOf_any {w : World} {a : Option Addr} {n cap : Nat} {L : List TV} (s r id : Int) (ha : Tasks w a n cap L) (hw : ∀ x ∈ L, I64 x.p ∧ I64 x.id) :
    Calls Try.prog 15 #[.agg #[.int .i64 s, .int .i64 r, .slice a n cap], .int .i64 id] w (OneBack cgB (cgAt s r L id) w) := by
  have OC := Lib.hid (fun v (hb : Below w.heap.size w v) => oneO_any s r id (ha.below hb) hw)
  unfold OneBack at OC ⊢
  obtain ⟨x, hx⟩ : ∃ x, cgB (cgAt s r L id) = x := ⟨_, rfl⟩
  obtain ⟨b, hb⟩ : ∃ b, (cgAt s r L id).isSome = b := ⟨_, rfl⟩
  rw [hx, hb] at OC ⊢
  clear ha hw hx hb
  go_enter Try.func15, Try.ntmps15
  go_wp2_with (go_at_call 26; (with_reducible refine (OC.out _ (by repeat (first | exact Below.refl _ _ | (with_reducible assumption) | refine bw_alloc ?_ _ | refine bw_drew ?_))).mono ?_); rintro e w1 ⟨rfl, b1⟩; have B1 := Lib.hid (below_up (W := w) (by repeat (first | exact Below.refl _ _ | (with_reducible assumption) | refine bw_alloc ?_ _ | refine bw_drew ?_)) b1); clear b1)
  go_ret2
  exact ⟨rfl, B1.out⟩
end Go.Proofs.Ytlglncnhhgofoaa

/-
  The walk over the chapter's example.
-/
namespace Go.Proofs.Ytlglncnhhgofoaa
open Go.RowKit Go.Maps

/-- The example's tasks. -/
def awL (b : Nat) : List TV := [⟨1, 4, 9, 9, 2, none, [], 0, some ⟨b, 0, none⟩, [0, 1], 2⟩, ⟨2, 2, 9, 9, 1, none, [], 0, some ⟨b + 1, 0, none⟩, [1, 2], 2⟩]
theorem awCheck (b : Nat) : checkOf 4 3 (awL b) = 0 := by
  simp [checkOf, sysBad, awL, firstOf, rightOf, idBad, cdBad, chBad, usBad, badB]
theorem awAll (b : Nat) : allN (awL b) 1 2 = orP (allN (awL b) 1 1) (inP [1, 2] 0 2) := allN_not (T := ⟨2, 2, 9, 9, 1, none, [], 0, some ⟨b + 1, 0, none⟩, [1, 2], 2⟩) rfl (by show ¬ (2 : Int) = 1; decide)
theorem awAll1 (b : Nat) : allN (awL b) 1 1 = allN (awL b) 1 0 := allN_is (T := ⟨1, 4, 9, 9, 2, none, [], 0, some ⟨b, 0, none⟩, [0, 1], 2⟩) rfl rfl
theorem awMost : (mostOf [0, 1] 4 (orP noneP (inP [1, 2] 0 2))).1 = 1 := by decide +kernel
theorem awCg (b : Nat) : cgB (cgAt 4 3 (awL b) 1) = 3 ∧ (cgAt 4 3 (awL b) 1).isSome = true := by
  have h := check_find (awCheck b) (x := ⟨1, 4, 9, 9, 2, none, [], 0, some ⟨b, 0, none⟩, [0, 1], 2⟩) (by simp [awL])
  have h1 : cgAt 4 3 (awL b) 1 = _ := h
  rw [h1]
  refine ⟨?_, rfl⟩
  show (3 : Int) * ((mostOf [0, 1] 4 (allN (awL b) 1 2)).1 : Nat) = 3
  rw [awAll, awAll1, show allN (awL b) 1 0 = noneP from rfl, awMost]
  rfl
theorem awWf (b : Nat) : ∀ x ∈ awL b, I64 x.p ∧ I64 x.id := by
  intro x hx
  rcases (show x = ⟨1, 4, 9, 9, 2, none, [], 0, some ⟨b, 0, none⟩, [0, 1], 2⟩ ∨ x = ⟨2, 2, 9, 9, 1, none, [], 0, some ⟨b + 1, 0, none⟩, [1, 2], 2⟩ by simpa [awL] using hx) with rfl | rfl <;> (unfold I64; dsimp only; omega)
theorem ints_two {w : World} {b : Nat} {x y : Int} {T : TypeId} {fr : Nat × Nat} (h : w.heap[b]? = some (.cells #[.int .i64 x, .int .i64 y] T fr)) : Ints w (some ⟨b, 0, none⟩) [x, y] :=
  Ints.of_block h fun j u hj => by
    match j, hj with
    | 0, hj => simp at hj; subst hj; rfl
    | 1, hj => simp at hj; subst hj; rfl
    | j + 2, hj => simp at hj
theorem awTasks {w : World} {b : Nat} (h0 : w.heap[b]? = some (.cells #[.int .i64 0, .int .i64 1] 3 (0, 0))) (h1 : w.heap[b + 1]? = some (.cells #[.int .i64 1, .int .i64 2] 3 (0, 0)))
    (h2 : w.heap[b + 2]? = some (.cells #[.int .i64 1, .int .i64 4, .int .i64 9, .int .i64 9, .int .i64 2, .slice none 0 0, .slice (some ⟨b, 0, none⟩) 2 2, .int .i64 2, .int .i64 2, .int .i64 9, .int .i64 9, .int .i64 1, .slice none 0 0, .slice (some ⟨b + 1, 0, none⟩) 2 2] TT (0, 0))) : Tasks w (some ⟨b + 2, 0, none⟩) 2 2 (awL b) := by
  refine ⟨rfl, .inr ⟨b + 2, 0, rfl, fun j u hj => ?_⟩, ?_, Nat.le_refl _, by omega⟩
  · rw [Nat.zero_add, blk_cell h2, ← hj]
    exact Array.getElem?_toList.symm
  · intro x hx
    rcases (show x = ⟨1, 4, 9, 9, 2, none, [], 0, some ⟨b, 0, none⟩, [0, 1], 2⟩ ∨ x = ⟨2, 2, 9, 9, 1, none, [], 0, some ⟨b + 1, 0, none⟩, [1, 2], 2⟩ by simpa [awL] using hx) with rfl | rfl
    · exact ⟨.inl rfl, ints_two h0, Nat.le_refl _, by dsimp only; omega, Nat.le_refl _, by dsimp only; omega⟩
    · exact ⟨.inl rfl, ints_two h1, Nat.le_refl _, by dsimp only; omega, Nat.le_refl _, by dsimp only; omega⟩
/-- Four blocks, one behind the other. -/
theorem four_boxes (W : World) {N : Nat} (hN : W.heap.size = N) (c1 c2 c3 c4 : Obj) : ((((W.alloc c1).alloc c2).alloc c3).alloc c4).heap[N]? = some c1 ∧ ((((W.alloc c1).alloc c2).alloc c3).alloc c4).heap[N + 1]? = some c2 ∧ ((((W.alloc c1).alloc c2).alloc c3).alloc c4).heap[N + 2]? = some c3 ∧ ((((W.alloc c1).alloc c2).alloc c3).alloc c4).heap[N + 3]? = some c4 := by
  obtain ⟨a1, a2⟩ := two_boxes W hN c1 c2
  obtain ⟨b1, b2⟩ := two_boxes ((W.alloc c1).alloc c2) (N := N + 2) (by rw [World.size_alloc, World.size_alloc, hN]) c3 c4
  have hb : Below ((W.alloc c1).alloc c2).heap.size ((W.alloc c1).alloc c2) ((((W.alloc c1).alloc c2).alloc c3).alloc c4) := (by repeat (first | exact Below.refl _ _ | (with_reducible assumption) | refine bw_alloc ?_ _ | refine bw_drew ?_))
  exact ⟨kept_obj hb a1, kept_obj hb a2, b1, b2⟩

set_option maxRecDepth 100000 in
set_option maxHeartbeats 4000000 in
theorem awake_any (w : World) : Calls Try.prog 8 #[] w fun e w' => e = .returned (.bool true) ∧ Below w.heap.size w w' := by
  have CC := Lib.hid (fun (w : World) (b : Nat) (ht : Tasks w (some ⟨b + 2, 0, none⟩) 2 2 (awL b)) => cOf_any 4 3 1 ht (awWf b))
  unfold OneBack at CC
  go_enter Try.func8, Try.ntmps8
  go_upto_region 2 with fail
  obtain ⟨q0, q1, q2, q3⟩ := four_boxes w rfl (.cells #[.int .i64 0, .int .i64 1] 3) (.cells #[.int .i64 1, .int .i64 2] 3) (.cells #[.int .i64 1, .int .i64 4, .int .i64 9, .int .i64 9, .int .i64 2, .slice none 0 0, .slice (some ⟨w.heap.size, 0, none⟩) 2 2, .int .i64 2, .int .i64 2, .int .i64 9, .int .i64 9, .int .i64 1, .slice none 0 0, .slice (some ⟨w.heap.size + 1, 0, none⟩) 2 2] TT) (.cells #[.int .i64 4, .int .i64 3, .slice (some ⟨w.heap.size + 2, 0, none⟩) 2 2] 27)
  refine gen_world (fun v => Below w.heap.size w v ∧ Tasks v (some ⟨w.heap.size + 2, 0, none⟩) 2 2 (awL w.heap.size) ∧ v.heap[w.heap.size + 1 + 1 + 1]? = some (.cells #[.int .i64 4, .int .i64 3, .slice (some ⟨w.heap.size + 2, 0, none⟩) 2 2] 27 (0, 0))) ⟨(by repeat (first | exact Below.refl _ _ | (with_reducible assumption) | refine bw_alloc ?_ _ | refine bw_drew ?_)), awTasks q0 q1 q2, q3⟩ ?_
  intro V ⟨hl, ht, hs⟩
  have HL := Lib.hid hl
  have HT := Lib.hid ht
  have s0 : V.cell? ⟨w.heap.size + 1 + 1 + 1, 0, none⟩ = some (.int .i64 4) := by rw [blk_cell hs]; rfl
  have s1 : V.cell? ⟨w.heap.size + 1 + 1 + 1, 1, none⟩ = some (.int .i64 3) := by rw [blk_cell hs]; rfl
  have s2 : V.cell? ⟨w.heap.size + 1 + 1 + 1, 2, none⟩ = some (.slice (some ⟨w.heap.size + 2, 0, none⟩) 2 2) := by rw [blk_cell hs]; rfl
  have C := Lib.hid (CC.out V w.heap.size ht)
  obtain ⟨g1, g2⟩ := awCg w.heap.size
  rw [g1, g2] at C
  clear hl ht hs q0 q1 q2 q3 g1 g2 CC
  go_wp2_with (go_at_call 15; (with_reducible refine C.out.mono ?_); rintro e w5 ⟨rfl, b5⟩; have B5 := Lib.hid b5; clear b5)
  go_ret
  exact ⟨rfl, below_up HL.out B5.out⟩
end Go.Proofs.Ytlglncnhhgofoaa

/-
  The walk over the system that a statement's plain numbers mean.
-/
namespace Go.Proofs.Ytlglncnhhgofoaa
open Go.RowKit Go.Maps

/-- Plain numbers in a box, a system that comes back, plain numbers that are being made. -/
structure CopyAt (w : World) (S R : Int) (a : Option Addr) (n cap : Nat) (v : Value) (M : List NV) (W : World) : Prop where
  low : Below w.heap.size w W
  src : W.heap[w.heap.size]? = some (.cells #[.int .i64 S, .int .i64 R, .slice a n cap] 24 (0, 0))
  res : W.heap[w.heap.size + 1]? = some (.cells #[.int .i64 0, .int .i64 0, .slice none 0 0] 27 (0, 0))
  box : W.heap[w.heap.size + 2]? = some (.cells #[.int .i64 S, .int .i64 R, v] 67 (0, 0))
  own : OwnN W (w.heap.size + 3) v M
theorem CopyAt.below {w W W' : World} {S R : Int} {a : Option Addr} {n cap : Nat} {v : Value} {M : List NV} (h : CopyAt w S R a n cap v M W) (hb : Below W.heap.size W W') : CopyAt w S R a n cap v M W' :=
  ⟨below_up h.low hb, kept_obj hb h.src, kept_obj hb h.res, kept_obj hb h.box, h.own.below hb⟩
theorem copyAt_new {w : World} {S R : Int} {a : Option Addr} {n cap : Nat} : CopyAt w S R a n cap (.slice none 0 0) [] (((w.alloc (.cells #[.int .i64 S, .int .i64 R, .slice a n cap] 24)).alloc (.cells #[.int .i64 0, .int .i64 0, .slice none 0 0] 27)).alloc (.cells #[.int .i64 S, .int .i64 R, .slice none 0 0] 67)) := by
  refine ⟨(by repeat (first | exact Below.refl _ _ | (with_reducible assumption) | refine bw_alloc ?_ _ | refine bw_drew ?_)), ?_, ?_, ?_, OwnN.nil _ _⟩
  · rw [Below.heap_alloc _ _ _ (by simp; omega), Below.heap_alloc _ _ _ (by simp)]; exact heap_alloc_new w _
  · rw [Below.heap_alloc _ _ _ (by simp)]
    have := heap_alloc_new (w.alloc (.cells #[.int .i64 S, .int .i64 R, .slice a n cap] 24)) (.cells #[.int .i64 0, .int .i64 0, .slice none 0 0] 27)
    rwa [World.size_alloc] at this
  · have := heap_alloc_new ((w.alloc (.cells #[.int .i64 S, .int .i64 R, .slice a n cap] 24)).alloc (.cells #[.int .i64 0, .int .i64 0, .slice none 0 0] 27)) (.cells #[.int .i64 S, .int .i64 R, .slice none 0 0] 67)
    rwa [World.size_alloc, World.size_alloc] at this
theorem OwnN.set {w : World} {B : Nat} {v : Value} {l : List NV} (h : OwnN w B v l) {a : Addr} (ha : a.block < B) (u : Value) : OwnN (w.setCell a u) B v l := ownsRow_setCell_below h ha u
theorem CopyAt.push {w W w3 : World} {S R : Int} {a : Option Addr} {n cap : Nat} {v v' : Value} {M M' : List NV} (h : CopyAt w S R a n cap v M W) (hg : W.grownBy w3 v.ownBlock) (ho : OwnN w3 (w.heap.size + 3) v' M') :
    CopyAt w S R a n cap v' M' (w3.setCell ⟨w.heap.size + 2, 2, none⟩ v') ∧ w3.cell? ⟨w.heap.size + 2, 2, none⟩ = some v ∧ w3.frozen? ⟨w.heap.size + 2, 2, none⟩ = false := by
  have hs : w.heap.size + 3 ≤ W.heap.size := lt_of_block h.box
  have hb : Below (w.heap.size + 3) W w3 := (Below.refl _ W).grown hg hs (fun k hk => (h.own.new hk).1)
  have h3 := kept_objB hb (by omega) h.box
  refine ⟨⟨(h.low.trans (hb.mono (by omega))).setCell (p := ⟨w.heap.size + 2, 2, none⟩) (by show _ ≤ _ + 2; omega) _, ?_, ?_, (blk_set h3 _).trans rfl, ho.set (by show _ + 2 < _; omega) _⟩, by rw [blk_cell h3]; rfl, blk_free h3 2⟩
  · rw [blk_far (a := ⟨w.heap.size + 2, 2, none⟩) (by show _ ≠ _ + 2; omega)]; exact kept_objB hb (by omega) h.src
  · rw [blk_far (a := ⟨w.heap.size + 2, 2, none⟩) (by show _ ≠ _ + 2; omega)]; exact kept_objB hb (by omega) h.res
theorem copy_done {w W W5 : World} {s r : Int} {a : Option Addr} {n c : Nat} {L : List TV} (hl : Below w.heap.size w W) (hb : Below W.heap.size W W5) (hres : W5.heap[w.heap.size + 1]? = some (.cells #[.int .i64 0, .int .i64 0, .slice none 0 0] 27 (0, 0))) (hrl : w.heap.size + 1 < W.heap.size)
    (ho : OwnT W5 W.heap.size (.slice a n c) L) (hok : AllOk W5 L) (hi : ∀ x ∈ L, IsI W5 x.a1 x.ch ∧ IsI W5 x.a2 x.us) (hm : Made s r L) (x0 x1 x2 : Value) :
    MadeBack w (.returned (.agg #[.int .i64 s, .int .i64 r, .slice a n c])) (((W5.setCell ⟨w.heap.size + 1, 0, none⟩ x0).setCell ⟨w.heap.size + 1, 1, none⟩ x1).setCell ⟨w.heap.size + 1, 2, none⟩ x2) := by
  have hb2 : Below w.heap.size w (((W5.setCell ⟨w.heap.size + 1, 0, none⟩ x0).setCell ⟨w.heap.size + 1, 1, none⟩ x1).setCell ⟨w.heap.size + 1, 2, none⟩ x2) :=
    (((below_up hl hb).setCell (p := ⟨w.heap.size + 1, 0, none⟩) (Nat.le_succ _) x0).setCell (p := ⟨w.heap.size + 1, 1, none⟩) (Nat.le_succ _) x1).setCell (p := ⟨w.heap.size + 1, 2, none⟩) (Nat.le_succ _) x2
  have ho2 := ((ho.set (a := ⟨w.heap.size + 1, 0, none⟩) hrl x0).set (a := ⟨w.heap.size + 1, 1, none⟩) hrl x1).set (a := ⟨w.heap.size + 1, 2, none⟩) hrl x2
  have hk : ∀ (b : Nat) (cs : Array Value) (T : TypeId) (fr : Nat × Nat), W5.heap[b]? = some (.cells cs T fr) → (T = 2 ∨ T = 3) → (((W5.setCell ⟨w.heap.size + 1, 0, none⟩ x0).setCell ⟨w.heap.size + 1, 1, none⟩ x1).setCell ⟨w.heap.size + 1, 2, none⟩ x2).heap[b]? = W5.heap[b]? := by
    intro b cs T fr hc hT
    have hne : b ≠ w.heap.size + 1 := by
      rintro rfl
      rw [hres] at hc
      simp at hc
      rcases hT with q | q <;> rw [q] at hc <;> exact absurd hc.2.1 (by decide)
    rw [blk_far (a := ⟨w.heap.size + 1, 2, none⟩) hne, blk_far (a := ⟨w.heap.size + 1, 1, none⟩) hne, blk_far (a := ⟨w.heap.size + 1, 0, none⟩) hne]
  exact ⟨s, r, a, n, c, L, rfl, ho2.low (by omega), fun x hx => (hok x hx).kept (hi x hx) hk, fun x hx => ⟨(hi x hx).1.kept hk, (hi x hx).2.kept hk⟩, hm, hb2⟩

set_option maxRecDepth 100000 in
set_option maxHeartbeats 4000000 in
theorem made5_any {w : World} {a : Option Addr} {n cap : Nat} {L : List NV} (S R : Int) (hn : Nums w a n cap L) :
    Calls Try.prog 10 #[.agg #[.int .i64 S, .int .i64 R, .slice a n cap]] w (MadeBack w) := by
  have HA := Lib.hid hn
  have hz := zeroSys
  have hn9 := hn.small
  clear hn
  go_enter Try.func10, Try.ntmps10
  go_wp2_with fail
  refine gen_world (CopyAt w S R a n cap (.slice none 0 0) []) copyAt_new ?_
  intro W1 hw1
  have H1 := Lib.hid hw1
  obtain ⟨m, hm⟩ : ∃ m, m = min n 6 := ⟨_, rfl⟩
  have hm1 : m ≤ n := by omega
  have hm6 : m ≤ 6 := by omega
  have hor : m = n ∨ (m = 6 ∧ 6 < n) := by omega
  have HOR := Lib.hid hor
  clear hm hor hw1
  go_loopw [4] (fun u wr => ∃ (k : Nat) (a' : Option Addr) (cp' : Nat), k ≤ m ∧ u = .int .i64 k ∧ Hid (CopyAt w S R a n cap (.slice a' k cp') (L.take k) wr)) (fun u _ => (m - intOf u).toNat)
  case atStart => exact ⟨0, _, _, by omega, rfl, H1⟩
  case round =>
    obtain ⟨k, a', cp', hk, rfl, HP⟩ := hrel
    clear H1
    have b2 : wr.cell? ⟨w.heap.size + 2, 2, none⟩ = some (.slice a' k cp') := by rw [blk_cell HP.out.box]; rfl
    have s2 : wr.cell? ⟨w.heap.size, 2, none⟩ = some (.slice a n cap) := by rw [blk_cell HP.out.src]; rfl
    have hl2 : w.heap.size + 2 < wr.heap.size := lt_of_block HP.out.box
    have hl0 : w.heap.size < wr.heap.size := lt_of_block HP.out.src
    by_cases hlt : k < m
    · obtain ⟨x, hx⟩ := nth_of HA.out.len (show k < n by omega)
      obtain ⟨g', o', rfl, ⟨c0, c1, c2, c3, c4, c5⟩⟩ := (HA.out.view.below HP.out.low).at_ hx
      have hk1 : (k : Int) < (n : Int) := by omega
      have hk6 : (k : Int) < 6 := by omega
      have hk0 : (0 : Int) ≤ (k : Int) := by omega
      have HTL : Hid ((L.take k).length = k) := by show _ = _; rw [List.length_take, HA.out.len]; omega
      have HSM : Hid ((L.take k).length + 1 ≤ 1000000) := by show _ ≤ _; rw [HTL.out]; omega
      have HNN : Hid ((L.take k).length + 1 = k + 1) := by show _ = _; rw [HTL.out]
      have HTK : Hid (L.take k ++ [x] = L.take (k + 1)) := by show _ = _; rw [List.take_add_one, hx]; rfl
      clear hx
      go_upto_region 5 with fail
      go_region_law (refine nstep_append (m := 1) (l := [x]) rfl (.tmp 22) (.tmp 28) rfl (by rfl) (by rfl) (HP.out.below (by repeat (first | exact Below.refl _ _ | (with_reducible assumption) | refine bw_alloc ?_ _ | refine bw_drew ?_))).own (Nat.le_trans (lt_of_block HP.out.box) ((by repeat (first | exact Below.refl _ _ | (with_reducible assumption) | refine bw_alloc ?_ _ | refine bw_drew ?_)) : Below wr.heap.size wr _).size) (by first | exact NView.of_at (nat_new _ _ _) | exact (NView.of_at (nat_new _ _ _)).below (by repeat (first | exact Below.refl _ _ | (with_reducible assumption) | refine bw_alloc ?_ _ | refine bw_drew ?_))) rfl HSM.out (fun z => by cases z) (k + 1) HNN.out ?_
                     intro a3 k3 w3 o3 g3 l3
                     obtain ⟨hq, z1, z2⟩ := (HP.out.below (by repeat (first | exact Below.refl _ _ | (with_reducible assumption) | refine bw_alloc ?_ _ | refine bw_drew ?_))).push g3 (HTK.out ▸ o3)
                     have HN := Lib.hid hq
                     clear hq o3 g3 l3)
      all_goals
        go_wp2
        go_roundw
        case rel => exact ⟨k + 1, _, _, by omega, by go_num, HN⟩
        case measure => simp [intOf]; omega
    · obtain rfl : m = k := by omega
      have b0 : wr.cell? ⟨w.heap.size + 2, 0, none⟩ = some (.int .i64 S) := by rw [blk_cell HP.out.box]; rfl
      have b1 : wr.cell? ⟨w.heap.size + 2, 1, none⟩ = some (.int .i64 R) := by rw [blk_cell HP.out.box]; rfl
      have HTL : Hid ((L.take m).length = m) := by show _ = _; rw [List.length_take, HA.out.len]; omega
      have HNU : Hid (Nums wr a' m cp' (L.take m)) := by
        obtain ⟨a9, c9, e9, v9, _⟩ := HP.out.own.slice
        simp only [Value.slice.injEq] at e9
        obtain ⟨rfl, _, rfl⟩ := e9
        exact ⟨HTL.out, v9, fun x hx => (HA.out.ok x (List.mem_of_mem_take hx)).below HP.out.low, by omega⟩
      have C := Lib.hid (made_any S R HNU.out)
      have q1 : ¬ ((m : Int) < (n : Int)) ∨ ((m : Int) < (n : Int) ∧ ¬ ((m : Int) < 6)) := by
        rcases HOR.out with h | ⟨h1, h2⟩
        · left; omega
        · right; omega
      rcases q1 with q1 | ⟨q1, q2⟩
      all_goals
        go_wp2_with (go_at_call 25; (with_reducible refine (C.out).mono ?_); rintro e w5 ⟨s5, r5, a5, n5, c5, L5, rfl, ho5, hok5, hi5, hm5, b5⟩; have HR := Lib.hid (kept_obj b5 HP.out.res); have r0 : w5.cell? ⟨w.heap.size + 1, 0, none⟩ = some (.int .i64 0) := (by rw [blk_cell HR.out]; rfl); have r1 : w5.cell? ⟨w.heap.size + 1, 1, none⟩ = some (.int .i64 0) := (by rw [blk_cell HR.out]; rfl); have r2 : w5.cell? ⟨w.heap.size + 1, 2, none⟩ = some (.slice none 0 0) := (by rw [blk_cell HR.out]; rfl); have f0 := blk_free HR.out 0; have f1 := blk_free HR.out 1; have f2 := blk_free HR.out 2; have HD := Lib.hid (copy_done HP.out.low b5 HR.out (lt_of_block HP.out.res) ho5 hok5 hi5 hm5); clear ho5 hok5 hi5 hm5 b5)
        exact bodyPost_ret (v := .agg #[.int .i64 s5, .int .i64 r5, .slice a5 n5 c5]) (by simp [results, Try.results10, go_sem, r0, r1, r2]) rfl (HD.out _ _ _)
end Go.Proofs.Ytlglncnhhgofoaa

/-
  The walk over the statement that the charge by both is the least one, and that without a reload, or without others, nothing is paid.
-/
namespace Go.Proofs.Ytlglncnhhgofoaa
open Go.RowKit Go.Maps

/-- At most as many as there are sets. -/
theorem most_sets {us : List Int} {n : Nat} (h : ∀ u ∈ us, u < (n : Int)) (C : Nat) (O : Nat → Bool) : (mostOf us C O).1 ≤ n := by
  refine best_le fun p _ _ => ?_
  refine cntN_below (fun x hx => ?_) 256
  unfold andP at hx
  rw [Bool.and_eq_true, Bool.and_eq_true] at hx
  obtain ⟨k, _, _, e⟩ := inP_iff.1 hx.1.1
  unfold useI at e
  rw [List.getD_eq_getElem?_getD] at e
  cases hq : us[k % us.length]? with
  | none => rw [hq] at e; simp at e
  | some u =>
    rw [hq] at e
    have e2 : u = (x : Int) := by simpa using e
    have := h u (List.mem_of_getElem? hq)
    omega
theorem right_one {s r : Int} {L : List TV} (h : checkOf s r L = 0) {x : TV} (hx : x ∈ L) : checkOf s r [x] = 0 := by
  have h0 := check_ok h
  unfold checkOf at h ⊢
  by_cases g : sysBad s r L
  · rw [if_pos g] at h; omega
  rw [if_neg g] at h
  by_cases g2 : 64 < L.length
  · rw [if_pos g2] at h; omega
  rw [if_neg g2] at h
  have hr := first_right L _ _ h x hx
  have hp := first_rise L _ _ h x hx
  rw [if_neg (by unfold sysBad at g ⊢; simp; omega), if_neg (by simp), firstOf, if_neg (fun z => z hr), if_neg (by omega), if_neg (by simp), firstOf]
theorem check_free {s r : Int} {L : List TV} (h : checkOf s r L = 0) : checkOf s 0 L = 0 := by
  have h0 := check_ok h
  unfold checkOf at h ⊢
  by_cases g : sysBad s r L
  · rw [if_pos g] at h; omega
  rw [if_neg g] at h
  rw [if_neg (by unfold sysBad at g ⊢; omega)]; exact h
theorem most_none (us : List Int) (C : Nat) : (mostOf us C noneP).1 = 0 := most_apart us C fun x _ hx => by cases hx
/-- What the statement asks of a task. -/
structure LeastIs (s r : Int) (L : List TV) (x : TV) (c : Cg) : Prop where
  le1 : c.b ≤ c.u
  le2 : c.b ≤ c.v
  pos : 0 ≤ c.b
  most : c.b ≤ r * s
  ms : IntKind.i64.wrap (r * s) = r * s
theorem least_is {s r : Int} {L : List TV} (h : Made s r L) {x : TV} (hx : x ∈ L) : LeastIs s r L x (cgOf r L x.tk) := by
  have hl := cg_least h.r0 L x.tk
  have hs := (cg_small h.r0 (by have := h.r3; omega) L x.tk).2.2.1
  obtain ⟨k, hk⟩ := List.mem_iff_getElem?.1 hx
  have hg := h.good k x hk
  obtain ⟨n, hn⟩ : ∃ n : Nat, s = (n : Int) := ⟨s.toNat, by have := h.s1; omega⟩
  have h8 := h.s8
  refine ⟨hl.1, hl.2, hs, ?_, ?_⟩
  · rw [hn]
    refine Int.mul_le_mul_of_nonneg_left ?_ h.r0
    have := most_sets (us := x.us) (n := n) (fun u hu => by have := (hg.us u hu).2; omega) x.c.toNat (allN L x.id L.length)
    show (((mostOf x.us x.c.toNat (allN L x.id L.length)).1 : Nat) : Int) ≤ n
    omega
  · rw [hn]
    exact mul_wrap h.r0 (by have := h.r3; omega) (by omega)
theorem free_zero {s r : Int} {L : List TV} (h : checkOf s r L = 0) {x : TV} (hx : x ∈ L) : cgB (cgAt s 0 L x.id) = 0 ∧ (cgAt s 0 L x.id).isSome = true := by
  rw [check_find (check_free h) hx]
  exact ⟨by show (0 : Int) * _ = 0; simp, rfl⟩
theorem alone_zero {s r : Int} {L : List TV} (h : checkOf s r L = 0) {x : TV} (hx : x ∈ L) : cgB (cgAt s r [x] x.id) = 0 ∧ (cgAt s r [x] x.id).isSome = true := by
  rw [check_find (right_one h hx) (List.mem_singleton.2 rfl)]
  refine ⟨?_, rfl⟩
  show r * ((mostOf x.us x.c.toNat (allN [x] x.id 1)).1 : Nat) = 0
  rw [allN_is (T := x) rfl rfl, show allN [x] x.id 0 = noneP from rfl, most_none]; simp

/-- A row of one task, in a block of its own. -/
theorem one_task {w : World} {b : Nat} {T : TV} (h : w.heap[b]? = some (.cells #[.int .i64 T.id, .int .i64 T.c, .int .i64 T.d, .int .i64 T.t, .int .i64 T.p, .slice T.a1 T.ch.length T.c1, .slice T.a2 T.us.length T.c2] TT (0, 0))) (hok : T.ok w) : Tasks w (some ⟨b, 0, none⟩) 1 1 [T] := by
  refine ⟨rfl, .inr ⟨b, 0, rfl, fun j u hj => ?_⟩, ?_, Nat.le_refl _, by omega⟩
  · rw [Nat.zero_add, blk_cell h, ← hj]
    exact Array.getElem?_toList.symm
  · intro x hx
    rw [List.mem_singleton.1 hx]; exact hok
set_option maxRecDepth 100000 in
set_option maxHeartbeats 16000000 in
theorem law_least (W : World) (S R : Int) (a : Option Addr) (n cap : Nat) (L : List NV) (hn : Nums W a n cap L) :
    Calls Try.prog 4 #[.agg #[.int .i64 S, .int .i64 R, .slice a n cap]] W fun e w' => e = .returned (.bool true) ∧ Below W.heap.size W w' := by
  have HN := Lib.hid hn
  have hz2 := zeroSys
  clear hn
  go_enter Try.func4, Try.ntmps4
  go_upto_region 1 with fail
  refine gen_world (fun v => Below W.heap.size W v ∧ v.heap[W.heap.size]? = some (.cells #[.int .i64 S, .int .i64 R, .slice a n cap] 24 (0, 0))) ⟨(by repeat (first | exact Below.refl _ _ | (with_reducible assumption) | refine bw_alloc ?_ _ | refine bw_drew ?_)), heap_alloc_new W _⟩ ?_
  intro W1 ⟨hl1, hb0⟩
  have HL1 := Lib.hid hl1
  have HB0 := Lib.hid hb0
  clear hl1 hb0
  go_upto_region 2 with (go_at_call 8; (with_reducible refine (awake_any _).mono ?_); rintro e w1 ⟨rfl, b1⟩; have HL2 := Lib.hid (below_up HL1.out b1); have HB1 := Lib.hid (kept_obj b1 HB0.out); clear b1)
  have d0 : w1.cell? ⟨W.heap.size, 0, none⟩ = some (.int .i64 S) := by rw [blk_cell HB1.out]; rfl
  have d1 : w1.cell? ⟨W.heap.size, 1, none⟩ = some (.int .i64 R) := by rw [blk_cell HB1.out]; rfl
  have d2 : w1.cell? ⟨W.heap.size, 2, none⟩ = some (.slice a n cap) := by rw [blk_cell HB1.out]; rfl
  have C := Lib.hid (made5_any S R (HN.out.below HL2.out))
  go_upto_region 3 with (go_at_call 10; (with_reducible refine (C.out).mono ?_); rintro e w5 ⟨s, r, a5, N, c5, M, rfl, ho5, hok5, hi5, hm5, b5⟩; have HO5 := Lib.hid ho5; have HT5 := Lib.hid (ho5.tasks hok5); have HM := Lib.hid hm5; have HL5 := Lib.hid (below_up HL2.out b5); clear ho5 hok5 hi5 hm5 b5)
  have hN1 : 0 < N := by have := HM.out.pos; have := HT5.out.len; omega
  have hN6 : N ≤ 6 := by have := HM.out.six; have := HT5.out.len; omega
  have hs1 := HM.out.s1
  have hs8 := HM.out.s8
  have hr0 := HM.out.r0
  have hr3 := HM.out.r3
  obtain ⟨g5, o5, rfl⟩ : ∃ g o, a5 = some ⟨g, o, none⟩ := by
    obtain ⟨t0, ht0⟩ := nth_of HT5.out.len hN1
    obtain ⟨g, o, e, _⟩ := HT5.out.view.at_ ht0
    exact ⟨g, o, e⟩
  have HCK : Hid (checkOf s r M = 0) := check_made HM.out
  have HWF := Lib.hid (made_wf HM.out)
  refine gen_world (fun v => Below w5.heap.size w5 v ∧ v.heap[w5.heap.size]? = some (.cells #[.int .i64 s, .int .i64 r, .slice (some ⟨g5, o5, none⟩) N c5] 27 (0, 0))) ⟨(by repeat (first | exact Below.refl _ _ | (with_reducible assumption) | refine bw_alloc ?_ _ | refine bw_drew ?_)), heap_alloc_new w5 _⟩ ?_
  intro W6 ⟨hl6, hs6⟩
  have HL6 := Lib.hid hl6
  have HS6 := Lib.hid hs6
  clear hl6 hs6 C d0 d1 d2 HL1 HL2 HB0 HB1 hz2
  go_wp2
  go_loopw [5] (fun u wr => ∃ i : Nat, i ≤ N ∧ u = .int .i64 i ∧ Hid (Below W6.heap.size W6 wr)) (fun u _ => (N - intOf u).toNat)
  case atStart => exact ⟨0, Nat.zero_le _, rfl, Below.refl _ _⟩
  case round =>
    obtain ⟨i, hi, rfl, HP⟩ := hrel
    have hsb := kept_obj HP.out HS6.out
    have s0 : wr.cell? ⟨w5.heap.size, 0, none⟩ = some (.int .i64 s) := by rw [blk_cell hsb]; rfl
    have s1 : wr.cell? ⟨w5.heap.size, 1, none⟩ = some (.int .i64 r) := by rw [blk_cell hsb]; rfl
    have s2 : wr.cell? ⟨w5.heap.size, 2, none⟩ = some (.slice (some ⟨g5, o5, none⟩) N c5) := by rw [blk_cell hsb]; rfl
    by_cases hlt : i < N
    · obtain ⟨T, hT⟩ := nth_of HT5.out.len hlt
      have HTM : Hid (T ∈ M) := List.mem_of_getElem? hT
      have HTA : Hid (At w5 g5 (o5 + i * 7) T) := by
        obtain ⟨g, o, e, h⟩ := HT5.out.view.at_ hT
        cases e
        exact h
      have HOK := Lib.hid (HT5.out.ok.at_ hT)
      have hi1 : (i : Int) < (N : Int) := by omega
      have hi0 : (0 : Int) ≤ (i : Int) := by omega
      have c0 := (HTA.out.below (below_up HL6.out HP.out)).c0
      have UC := Lib.hid (fun v (hb : Below w5.heap.size w5 v) => cUseful_any s r T.id (HT5.out.below hb) HWF.out)
      have VC := Lib.hid (fun v (hb : Below w5.heap.size w5 v) => cUsed_any s r T.id (HT5.out.below hb) HWF.out)
      have BC := Lib.hid (fun v (hb : Below w5.heap.size w5 v) => cBoth_any s r T.id (HT5.out.below hb) HWF.out)
      have OC := Lib.hid (fun v (hb : Below w5.heap.size w5 v) => cOf_any s r T.id (HT5.out.below hb) HWF.out)
      have FC := Lib.hid (fun v (hb : Below w5.heap.size w5 v) => cOf_any s 0 T.id (HT5.out.below hb) HWF.out)
      have AC := Lib.hid (fun v (aa : Option Addr) (c : Nat) (ht : Tasks v aa 1 c [T]) => cOf_any s r T.id ht (fun x hx => HWF.out x (by rw [List.mem_singleton.1 hx]; exact HTM.out)))
      obtain ⟨f1, f2⟩ := free_zero HCK.out HTM.out
      obtain ⟨k1, k2⟩ := alone_zero HCK.out HTM.out
      have hcg := check_find HCK.out HTM.out
      have hli := least_is HM.out HTM.out
      unfold OneBack at UC VC BC OC FC AC
      rw [hcg] at UC VC BC OC
      rw [f1, f2] at FC
      rw [k1, k2] at AC
      simp only [cgU, cgV, cgB, Option.isSome] at UC VC BC OC
      generalize cgOf r M T.tk = cg at *
      obtain ⟨l1, l2, l3, l4, l5⟩ := hli
      obtain ⟨u, hu⟩ : ∃ u, cg.u = u := ⟨_, rfl⟩
      obtain ⟨v, hv⟩ : ∃ v, cg.v = v := ⟨_, rfl⟩
      obtain ⟨b, hb⟩ : ∃ b, cg.b = b := ⟨_, rfl⟩
      obtain ⟨z, hz⟩ : ∃ z, r * s = z := ⟨_, rfl⟩
      simp only [hu, hv, hb] at UC VC BC OC l1 l2 l3 l4
      rw [hz] at l4 l5
      have q1 : ¬ u < b := by omega
      have q2 : ¬ v < b := by omega
      have q3 : ¬ b < 0 := by omega
      have q4 : ¬ z < b := by omega
      have q5 : (b != b) = false := by simp
      clear f1 f2 k1 k2 hcg hu hv hb hT hsb
      go_upto_region 8 with (go_at_call 12; (with_reducible refine (UC.out _ (below_up HL6.out HP.out)).mono ?_); rintro e x1 ⟨rfl, b1⟩; have B1 := Lib.hid (below_up HP.out b1); clear b1)
      have hsb := kept_obj B1.out HS6.out
      have s0 : x1.cell? ⟨w5.heap.size, 0, none⟩ = some (.int .i64 s) := by rw [blk_cell hsb]; rfl
      have s1 : x1.cell? ⟨w5.heap.size, 1, none⟩ = some (.int .i64 r) := by rw [blk_cell hsb]; rfl
      have s2 : x1.cell? ⟨w5.heap.size, 2, none⟩ = some (.slice (some ⟨g5, o5, none⟩) N c5) := by rw [blk_cell hsb]; rfl
      clear hsb
      go_upto_region 9 with (go_at_call 13; (with_reducible refine (VC.out _ (below_up HL6.out B1.out)).mono ?_); rintro e x2 ⟨rfl, b1⟩; have B2 := Lib.hid (below_up B1.out b1); clear b1)
      have hsb := kept_obj B2.out HS6.out
      have s0 : x2.cell? ⟨w5.heap.size, 0, none⟩ = some (.int .i64 s) := by rw [blk_cell hsb]; rfl
      have s1 : x2.cell? ⟨w5.heap.size, 1, none⟩ = some (.int .i64 r) := by rw [blk_cell hsb]; rfl
      have s2 : x2.cell? ⟨w5.heap.size, 2, none⟩ = some (.slice (some ⟨g5, o5, none⟩) N c5) := by rw [blk_cell hsb]; rfl
      clear hsb
      go_upto_region 10 with (go_at_call 14; (with_reducible refine (BC.out _ (below_up HL6.out B2.out)).mono ?_); rintro e x3 ⟨rfl, b1⟩; have B3 := Lib.hid (below_up B2.out b1); clear b1)
      have hsb := kept_obj B3.out HS6.out
      have s0 : x3.cell? ⟨w5.heap.size, 0, none⟩ = some (.int .i64 s) := by rw [blk_cell hsb]; rfl
      have s1 : x3.cell? ⟨w5.heap.size, 1, none⟩ = some (.int .i64 r) := by rw [blk_cell hsb]; rfl
      have s2 : x3.cell? ⟨w5.heap.size, 2, none⟩ = some (.slice (some ⟨g5, o5, none⟩) N c5) := by rw [blk_cell hsb]; rfl
      clear hsb
      go_upto_region 11 with (go_at_call 15; (with_reducible refine (OC.out _ (below_up HL6.out B3.out)).mono ?_); rintro e x4 ⟨rfl, b1⟩; have B4 := Lib.hid (below_up B3.out b1); clear b1)
      have hsb := kept_obj B4.out HS6.out
      have s0 : x4.cell? ⟨w5.heap.size, 0, none⟩ = some (.int .i64 s) := by rw [blk_cell hsb]; rfl
      have s1 : x4.cell? ⟨w5.heap.size, 1, none⟩ = some (.int .i64 r) := by rw [blk_cell hsb]; rfl
      have s2 : x4.cell? ⟨w5.heap.size, 2, none⟩ = some (.slice (some ⟨g5, o5, none⟩) N c5) := by rw [blk_cell hsb]; rfl
      clear hsb
      go_upto_region 16 with (go_at_call 15; (with_reducible refine (FC.out _ (below_up HL6.out (below_up B4.out (by repeat (first | exact Below.refl _ _ | (with_reducible assumption) | refine bw_alloc ?_ _ | refine bw_drew ?_))))).mono ?_); rintro e x5 ⟨rfl, b1⟩; have B5 := Lib.hid (below_up B4.out (below_up (W := x4) (by repeat (first | exact Below.refl _ _ | (with_reducible assumption) | refine bw_alloc ?_ _ | refine bw_drew ?_)) b1)); clear b1)
      have hsb := kept_obj B5.out HS6.out
      have s0 : x5.cell? ⟨w5.heap.size, 0, none⟩ = some (.int .i64 s) := by rw [blk_cell hsb]; rfl
      have s1 : x5.cell? ⟨w5.heap.size, 1, none⟩ = some (.int .i64 r) := by rw [blk_cell hsb]; rfl
      have s2 : x5.cell? ⟨w5.heap.size, 2, none⟩ = some (.slice (some ⟨g5, o5, none⟩) N c5) := by rw [blk_cell hsb]; rfl
      obtain ⟨t0, t1, t2, t3, t4, t5, t6⟩ := HTA.out.below (below_up HL6.out B5.out)
      have e9 := block_of_cell s0
      have e8 := block_of_cell t0
      clear hsb c0
      go_upto_region 18 with fail
      have hq := two_boxes x5 rfl (.cells #[.int .i64 s, .int .i64 r, .slice (some ⟨x5.heap.size + 1, 0, none⟩) 1 1] 27) (.cells #[.int .i64 T.id, .int .i64 T.c, .int .i64 T.d, .int .i64 T.t, .int .i64 T.p, .slice T.a1 T.ch.length T.c1, .slice T.a2 T.us.length T.c2] TT)
      refine gen_world (fun v => Below x5.heap.size x5 v ∧ v.heap[x5.heap.size]? = some (.cells #[.int .i64 s, .int .i64 r, .slice (some ⟨x5.heap.size + 1, 0, none⟩) 1 1] 27 (0, 0)) ∧ Tasks v (some ⟨x5.heap.size + 1, 0, none⟩) 1 1 [T]) ⟨(by repeat (first | exact Below.refl _ _ | (with_reducible assumption) | refine bw_alloc ?_ _ | refine bw_drew ?_)), hq.1, one_task hq.2 (HOK.out.below (below_up (below_up HL6.out B5.out) (by repeat (first | exact Below.refl _ _ | (with_reducible assumption) | refine bw_alloc ?_ _ | refine bw_drew ?_))))⟩ ?_
      intro V ⟨hl, hb, ht⟩
      have B6 := Lib.hid (below_up B5.out hl)
      have HT6 := Lib.hid ht
      have y0 : V.cell? ⟨x5.heap.size, 0, none⟩ = some (.int .i64 s) := by rw [blk_cell hb]; rfl
      have y1 : V.cell? ⟨x5.heap.size, 1, none⟩ = some (.int .i64 r) := by rw [blk_cell hb]; rfl
      have y2 : V.cell? ⟨x5.heap.size, 2, none⟩ = some (.slice (some ⟨x5.heap.size + 1, 0, none⟩) 1 1) := by rw [blk_cell hb]; rfl
      clear hq hl hb ht s0 s1 s2 t0 t1 t2 t3 t4 t5 t6 e9 e8
      go_wp2_with (go_at_call 15; (with_reducible refine (AC.out _ _ _ HT6.out).mono ?_); rintro e x7 ⟨rfl, b1⟩; have B7 := Lib.hid (below_up B6.out b1); clear b1)
      go_roundw
      case rel => exact ⟨i + 1, by omega, by go_num, B7.out⟩
      case measure => simp [intOf]; omega
    · obtain rfl : i = N := by omega
      go_wp2
      go_ret
      exact ⟨rfl, below_up HL5.out (below_up HL6.out HP.out)⟩
end Go.Proofs.Ytlglncnhhgofoaa

/-
  The walk over the statement that whose sets are its own pays nothing, nor one whose work is a single tick.
-/
namespace Go.Proofs.Ytlglncnhhgofoaa
open Go.RowKit Go.Maps

/-! ### the row of used sets stored -/
def withUse (x : TV) (a : Option Addr) (us : List Int) (c : Nat) : TV := { x with a2 := a, us := us, c2 := c }
theorem flat_setU : ∀ (l : List TV) (k : Nat) (x : TV) (a : Option Addr) (us : List Int) (c : Nat), l[k]? = some x → flat (l.set k (withUse x a us c)) = (flat l).set (k * 7 + 6) (.slice a us.length c)
  | [], k, x, a, us, c, h => by simp at h
  | y :: l, 0, x, a, us, c, h => by
    simp at h; subst h
    simp [flat, TV.cells, withUse]
  | y :: l, k + 1, x, a, us, c, h => by
    have := flat_setU l k x a us c (by simpa using h)
    simp only [List.set_cons_succ, flat, this]
    rw [show (k + 1) * 7 + 6 = y.cells.length + (k * 7 + 6) by rw [cells_len]; omega, List.set_append_right _ _ (by omega)]
    congr 2; omega
theorem OwnT.setU {w : World} {B go n c : Nat} {l : List TV} (h : OwnT w B (.slice (some ⟨go, 0, none⟩) n c) l) {k : Nat} {x : TV} (hx : l[k]? = some x) (a : Option Addr) (us : List Int) (c' : Nat) : OwnT (w.setCell ⟨go, k * 7 + 6, none⟩ (.slice a us.length c')) B (.slice (some ⟨go, 0, none⟩) n c) (l.set k (withUse x a us c')) ∧ B ≤ go := by
  have hkl : k < l.length := (List.getElem?_eq_some_iff.1 hx).1
  rcases h with ⟨h0, h | ⟨g, cap, cur, e, hb, h3, h1, h2, h4, h5⟩⟩
  · cases h.1
  · cases e
    refine ⟨⟨by rw [List.length_set, flat_len, List.length_set], .inr ⟨go, c, cur.setIfInBounds (k * 7 + 6) (.slice a us.length c'), by rw [List.length_set], hb, blk_set h3 _, by rw [List.length_set]; exact h1, h2, by simp [h4], ?_⟩⟩, hb⟩
    rw [flat_setU l k x a us c' hx, List.length_set, ← h5, Array.toList_setIfInBounds, List.take_set]
theorem OwnT.at0 {w : World} {B n c : Nat} {a : Option Addr} {l : List TV} (h : OwnT w B (.slice a n c) l) {k : Nat} {x : TV} (hx : l[k]? = some x) : ∃ go, a = some ⟨go, 0, none⟩ ∧ At w go (k * 7) x ∧ w.frozen? ⟨go, k * 7 + 6, none⟩ = false ∧ B ≤ go ∧ go < w.heap.size := by
  have hv := h.slice
  rcases h with ⟨h0, h | ⟨g, cap, cur, e, hb, h3, h1, h2, h4, h5⟩⟩
  · have := (List.getElem?_eq_some_iff.1 hx).1; omega
  · cases e
    obtain ⟨a', c', e', v, _⟩ := hv
    cases e'
    obtain ⟨g', o', e2, hat⟩ := v.at_ hx
    cases e2
    rw [Nat.zero_add] at hat
    exact ⟨g, rfl, hat, blk_free h3 _, hb, lt_of_block h3⟩

/-! ### what the changed system is -/
theorem first_map {s s' : Int} : ∀ (L X : List TV) (last : Int) (seen : List Int), L.length = X.length → (∀ (k : Nat) (x y : TV), L[k]? = some x → X[k]? = some y → y.id = x.id ∧ y.p = x.p ∧ rightOf y s' = 0) → firstOf s last seen L = 0 → firstOf s' last seen X = 0
  | [], [], _, _, _, _, _ => rfl
  | [], y :: X, _, _, hl, _, _ => by simp at hl
  | x :: L, [], _, _, hl, _, _ => by simp at hl
  | x :: L, y :: X, last, seen, hl, hk, h => by
    obtain ⟨e1, e2, e3⟩ := hk 0 x y rfl rfl
    rw [firstOf] at h ⊢
    rw [e1, e2, if_neg (fun z => z e3)]
    by_cases h1 : rightOf x s = 0
    · rw [if_neg (fun z => z h1)] at h
      by_cases h2 : x.id ≤ last
      · rw [if_pos h2] at h; omega
      · rw [if_neg h2] at h ⊢
        by_cases h3 : x.p ∈ seen
        · rw [if_pos h3] at h; omega
        · rw [if_neg h3] at h ⊢
          exact first_map L X _ _ (by simpa using hl) (fun k a b ha hb => hk (k + 1) a b (by simpa using ha) (by simpa using hb)) h
    · rw [if_pos h1] at h; exact absurd h h1
theorem right_use {x : TV} {s s' : Int} (h : rightOf x s = 0) (a : Option Addr) (us : List Int) (c : Nat) (hu : us.length ≤ 64 ∧ ∀ u ∈ us, 0 ≤ u ∧ u < s') : rightOf (withUse x a us c) s' = 0 := by
  unfold rightOf at h ⊢
  by_cases g1 : idBad x
  · rw [if_pos g1] at h; omega
  rw [if_neg g1] at h
  by_cases g2 : cdBad x
  · rw [if_pos g2] at h; omega
  rw [if_neg g2] at h
  by_cases g3 : chBad x
  · rw [if_pos g3] at h; omega
  rw [if_neg (show ¬ idBad (withUse x a us c) from g1), if_neg (show ¬ cdBad (withUse x a us c) from g2), if_neg (show ¬ chBad (withUse x a us c) from g3), if_neg]
  unfold usBad withUse
  simp only [not_or, Bool.not_eq_true, List.any_eq_false]
  refine ⟨by omega, fun u hu2 => ?_⟩
  have := hu.2 u hu2
  unfold badB
  simp; omega
theorem right_wide {x : TV} {s s' : Int} (h : rightOf x s = 0) (hs : s ≤ s') : rightOf x s' = 0 := by
  unfold rightOf at h ⊢
  by_cases g1 : idBad x
  · rw [if_pos g1] at h; omega
  rw [if_neg g1] at h ⊢
  by_cases g2 : cdBad x
  · rw [if_pos g2] at h; omega
  rw [if_neg g2] at h ⊢
  by_cases g3 : chBad x
  · rw [if_pos g3] at h; omega
  rw [if_neg g3] at h ⊢
  by_cases g4 : usBad x s
  · rw [if_pos g4] at h; omega
  rw [if_neg]
  unfold usBad at g4 ⊢
  simp only [not_or, Bool.not_eq_true, List.any_eq_false] at g4 ⊢
  refine ⟨g4.1, fun u hu => ?_⟩
  have := g4.2 u hu
  unfold badB at this ⊢
  simp at this ⊢; omega
/-- The sets of the first one are above all others'. -/
def upUse (s : Int) (us : List Int) : List Int := us.map (· + s)
theorem apart_check {s r : Int} {M : List TV} (h : Made s r M) {T : TV} (hT : M[0]? = some T) (a : Option Addr) (c : Nat) : checkOf (2 * s) r (M.set 0 (withUse T a (upUse s T.us) c)) = 0 := by
  have hc := check_made h
  have hk := check_ok hc
  have hs1 := h.s1; have hs8 := h.s8
  unfold checkOf at hc ⊢
  by_cases g : sysBad s r M
  · rw [if_pos g] at hc; omega
  rw [if_neg g] at hc
  by_cases g2 : 64 < M.length
  · rw [if_pos g2] at hc; omega
  rw [if_neg g2] at hc
  rw [if_neg (by unfold sysBad at g ⊢; rw [List.length_set]; omega), if_neg (by rw [List.length_set]; exact g2)]
  have hr := first_right M _ _ hc
  refine first_map M _ _ _ (by rw [List.length_set]) (fun k x y hx hy => ?_) hc
  have hrx := hr x (List.mem_of_getElem? hx)
  rw [List.getElem?_set] at hy
  split at hy
  · rename_i e
    subst e
    rw [hT] at hx; cases hx
    split at hy
    · cases hy
      refine ⟨rfl, rfl, right_use hrx _ _ _ ⟨?_, ?_⟩⟩
      · have := (h.good 0 T hT).us5; unfold upUse; rw [List.length_map]; omega
      · intro u hu
        obtain ⟨v, hv, rfl⟩ := List.mem_map.1 hu
        have := (h.good 0 T hT).us v hv
        omega
    · cases hy
  · rw [hx] at hy; cases hy
    exact ⟨rfl, rfl, right_wide hrx (by omega)⟩
theorem allN_below {L : List TV} {id : Int} {n : Nat} (h : ∀ T ∈ L, ¬ T.id = id → ∀ u ∈ T.us, u < (n : Int)) : ∀ k x, allN L id k x = true → x < n
  | 0, x, hx => by cases hx
  | k + 1, x, hx => by
    have ih := allN_below h k x
    cases hq : L[k]? with
    | none => rw [allN, hq] at hx; exact ih hx
    | some T =>
      by_cases e : T.id = id
      · rw [allN_is hq e] at hx; exact ih hx
      · rw [allN_not hq e] at hx
        unfold orP at hx
        rw [Bool.or_eq_true] at hx
        rcases hx with hx | hx
        · exact ih hx
        · obtain ⟨j, _, _, e2⟩ := inP_iff.1 hx
          unfold useI at e2
          rw [List.getD_eq_getElem?_getD] at e2
          cases hz : T.us[j % T.us.length]? with
          | none => rw [hz] at e2; simp at e2
          | some u =>
            rw [hz] at e2
            have e3 : u = (x : Int) := by simpa using e2
            have := h T (List.mem_of_getElem? hq) e u (List.mem_of_getElem? hz)
            omega
theorem inP_above {us : List Int} {n a b x : Nat} (h : ∀ u ∈ us, (n : Int) ≤ u) (hx : inP us a b x = true) : n ≤ x := by
  obtain ⟨j, _, _, e2⟩ := inP_iff.1 hx
  unfold useI at e2
  rw [List.getD_eq_getElem?_getD] at e2
  cases hz : us[j % us.length]? with
  | none => rw [hz] at e2; simp at e2
  | some u =>
    rw [hz] at e2
    have e3 : u = (x : Int) := by simpa using e2
    have := h u (List.mem_of_getElem? hz)
    omega
theorem apart_zero {s r : Int} {M : List TV} (h : Made s r M) {T : TV} (hT : M[0]? = some T) (a : Option Addr) (c : Nat) : cgB (cgAt (2 * s) r (M.set 0 (withUse T a (upUse s T.us) c)) T.id) = 0 ∧ (cgAt (2 * s) r (M.set 0 (withUse T a (upUse s T.us) c)) T.id).isSome = true := by
  have hm : withUse T a (upUse s T.us) c ∈ M.set 0 (withUse T a (upUse s T.us) c) := List.mem_of_getElem? (i := 0) (by rw [List.getElem?_set, if_pos rfl, if_pos (List.getElem?_eq_some_iff.1 hT).1])
  have hf := check_find (apart_check h hT a c) hm
  rw [show (withUse T a (upUse s T.us) c).id = T.id from rfl] at hf
  rw [hf]
  refine ⟨?_, rfl⟩
  obtain ⟨n, hn⟩ : ∃ n : Nat, s = (n : Int) := ⟨s.toNat, by have := h.s1; omega⟩
  show r * ((mostOf (upUse s T.us) T.c.toNat (allN (M.set 0 (withUse T a (upUse s T.us) c)) T.id _)).1 : Nat) = 0
  rw [most_apart]
  · simp
  · intro x _ hx hp
    have h1 : x < n := allN_below (n := n) (fun T' hT' hid u hu => by
      obtain ⟨k, hk⟩ := List.mem_iff_getElem?.1 hT'
      rw [List.getElem?_set] at hk
      split at hk
      · split at hk
        · cases hk; exact absurd rfl hid
        · cases hk
      · have := (h.good k T' hk).us u hu; omega) _ x hx
    have h2 : n ≤ x := inP_above (fun u hu => by
      obtain ⟨v, hv, rfl⟩ := List.mem_map.1 hu
      have := (h.good 0 T hT).us v hv
      omega) hp
    omega
theorem tick_zero {s r : Int} {X : List TV} (h : checkOf s r X = 0) {x : TV} (hx : x ∈ X) (h1 : x.c = 1) : (cgOf r X x.tk).b = 0 := by
  show r * ((mostOf x.us x.c.toNat (allN X x.id X.length)).1 : Nat) = 0
  rw [h1, show (1 : Int).toNat = 1 from rfl, most_short]; simp

/-- The boxes of the statement: a system whose tasks are a row of one's own, a row of numbers. -/
structure ApAt (w5 : World) (s r : Int) (v : Value) (B : Nat) (X : List TV) (u : Value) (U : List Int) (BU : Nat) (W : World) : Prop where
  low : Below w5.heap.size w5 W
  sb : W.heap[w5.heap.size]? = some (.cells #[.int .i64 s, .int .i64 r, v] 27 (0, 0))
  own : OwnT W B v X
  row : OwnI W 3 BU u U
  l1 : w5.heap.size < B
  l2 : ∀ k, v.ownBlock = some k → k < BU
  sz : BU ≤ W.heap.size
  l3 : w5.heap.size < BU
theorem ApAt.below {w5 : World} {s r : Int} {v : Value} {B : Nat} {X : List TV} {u : Value} {U : List Int} {BU : Nat} {W W' : World} (h : ApAt w5 s r v B X u U BU W) (hb : Below W.heap.size W W') : ApAt w5 s r v B X u U BU W' :=
  ⟨below_up h.low hb, kept_obj hb h.sb, h.own.below hb, h.row.below hb, h.l1, h.l2, Nat.le_trans h.sz hb.size, h.l3⟩
theorem OwnT.belowB {w w' : World} {B C : Nat} {v : Value} {l : List TV} (h : OwnT w B v l) (hb : Below C w w') (hl : ∀ k, v.ownBlock = some k → k < C) : OwnT w' B v l := by
  rcases h with ⟨h0, h | ⟨g, cap, cur, rfl, hB, h3, r⟩⟩
  · exact ⟨h0, .inl h⟩
  · exact ⟨h0, .inr ⟨g, cap, cur, rfl, hB, kept_objB hb (hl g rfl) h3, r⟩⟩
/-- A number appended. -/
theorem ApAt.push {w5 : World} {s r : Int} {v : Value} {B : Nat} {X : List TV} {u u' : Value} {U U' : List Int} {BU : Nat} {W W' : World} (h : ApAt w5 s r v B X u U BU W) (hg : W.grownBy W' u.ownBlock) (ho : OwnI W' 3 BU u' U') : ApAt w5 s r v B X u' U' BU W' := by
  have hb : Below BU W W' := (Below.refl _ W).grown hg h.sz (fun k hk => (h.row.new hk).1)
  exact ⟨h.low.trans (hb.mono (Nat.le_of_lt h.l3)), kept_objB hb h.l3 h.sb, h.own.belowB hb h.l2, ho, h.l1, h.l2, Nat.le_trans h.sz hb.size, h.l3⟩
set_option maxRecDepth 100000 in
set_option maxHeartbeats 16000000 in
theorem law_apart (W : World) (S R : Int) (a : Option Addr) (n cap : Nat) (L : List NV) (hn : Nums W a n cap L) :
    Calls Try.prog 7 #[.agg #[.int .i64 S, .int .i64 R, .slice a n cap]] W fun e w' => e = .returned (.bool true) ∧ Below W.heap.size W w' := by
  have HN := Lib.hid hn
  have hz2 := zeroSys
  clear hn
  go_enter Try.func7, Try.ntmps7
  go_upto_region 1 with fail
  refine gen_world (fun v => Below W.heap.size W v ∧ v.heap[W.heap.size]? = some (.cells #[.int .i64 S, .int .i64 R, .slice a n cap] 24 (0, 0))) ⟨(by repeat (first | exact Below.refl _ _ | (with_reducible assumption) | refine bw_alloc ?_ _ | refine bw_drew ?_)), heap_alloc_new W _⟩ ?_
  intro W1 ⟨hl1, hb0⟩
  have HL1 := Lib.hid hl1
  have HB0 := Lib.hid hb0
  clear hl1 hb0
  go_upto_region 2 with (go_at_call 8; (with_reducible refine (awake_any _).mono ?_); rintro e w1 ⟨rfl, b1⟩; have HL2 := Lib.hid (below_up HL1.out b1); have HB1 := Lib.hid (kept_obj b1 HB0.out); clear b1)
  have d0 : w1.cell? ⟨W.heap.size, 0, none⟩ = some (.int .i64 S) := by rw [blk_cell HB1.out]; rfl
  have d1 : w1.cell? ⟨W.heap.size, 1, none⟩ = some (.int .i64 R) := by rw [blk_cell HB1.out]; rfl
  have d2 : w1.cell? ⟨W.heap.size, 2, none⟩ = some (.slice a n cap) := by rw [blk_cell HB1.out]; rfl
  have C := Lib.hid (made5_any S R (HN.out.below HL2.out))
  go_upto_region 3 with (go_at_call 10; (with_reducible refine (C.out).mono ?_); rintro e w5 ⟨s, r, a5, N, c5, M, rfl, ho5, hok5, hi5, hm5, b5⟩; have HO5 := Lib.hid ho5; have HT5 := Lib.hid (ho5.tasks hok5); have HM := Lib.hid hm5; have HL5 := Lib.hid (below_up HL2.out b5); clear ho5 hok5 hi5 hm5 b5)
  have hN1 : 0 < N := by have := HM.out.pos; have := HT5.out.len; omega
  have hN6 : N ≤ 6 := by have := HM.out.six; have := HT5.out.len; omega
  have hs1 := HM.out.s1
  have hs8 := HM.out.s8
  have hr0 := HM.out.r0
  have hr3 := HM.out.r3
  obtain ⟨g5, o5, rfl⟩ : ∃ g o, a5 = some ⟨g, o, none⟩ := by
    obtain ⟨t0, ht0⟩ := nth_of HT5.out.len hN1
    obtain ⟨g, o, e, _⟩ := HT5.out.view.at_ ht0
    exact ⟨g, o, e⟩
  have HCK : Hid (checkOf s r M = 0) := check_made HM.out
  have HWF := Lib.hid (made_wf HM.out)
  refine gen_world (fun v => Below w5.heap.size w5 v ∧ v.heap[w5.heap.size]? = some (.cells #[.int .i64 s, .int .i64 r, .slice (some ⟨g5, o5, none⟩) N c5] 27 (0, 0))) ⟨(by repeat (first | exact Below.refl _ _ | (with_reducible assumption) | refine bw_alloc ?_ _ | refine bw_drew ?_)), heap_alloc_new w5 _⟩ ?_
  intro W6 ⟨hl6, hs6⟩
  have HL6 := Lib.hid hl6
  have HS6 := Lib.hid hs6
  clear hl6 hs6 C d0 d1 d2 HL1 HL2 HB0 HB1 hz2
  have s2 : W6.cell? ⟨w5.heap.size, 2, none⟩ = some (.slice (some ⟨g5, o5, none⟩) N c5) := by rw [blk_cell HS6.out]; rfl
  have z1 := zeroTask
  have e9 := block_of_cell s2
  go_upto_region 4 with (at_builtin; refine wp_append (m := N) (q := []) (l := M) rfl _ _ rfl rfl rfl (OwnT.made W6) (by rw [World.size_alloc]; omega) ((HT5.out.view.below HL6.out).below (by repeat (first | exact Below.refl _ _ | (with_reducible assumption) | refine bw_alloc ?_ _ | refine bw_drew ?_))) HT5.out.len (by simp; omega) (fun z => by cases z) N (by simp) ?_; intro a7 c7 w7 ho7 hg7 hn7; have HB7 : Hid (Below W6.heap.size W6 w7) := (((Below.refl _ W6).alloc (Nat.le_refl _) _).grown hg7 (by simp) (fun k hk => by cases hk; exact Nat.le_refl _)); have HO7 := Lib.hid ho7; have q2 := kept_cell HB7.out s2; have q3 : w7.frozen? ⟨w5.heap.size, 2, none⟩ = false := (blk_free (kept_obj HB7.out HS6.out) 2); clear ho7 hg7 hn7)
  clear s2 e9 q2 q3
  have hsz : w5.heap.size < W6.heap.size := lt_of_block HS6.out
  obtain ⟨V0, hV0⟩ : ∃ V0, w7.setCell ⟨w5.heap.size, 2, none⟩ (.slice a7 N c7) = V0 := ⟨_, rfl⟩
  have hap : ApAt w5 s r (.slice a7 N c7) W6.heap.size M (.slice none 0 0) [] V0.heap.size V0 := by
    have ho : OwnT V0 W6.heap.size (.slice a7 N c7) M := by rw [← hV0]; exact (by simpa using HO7.out : OwnT w7 W6.heap.size (.slice a7 N c7) M).set hsz _
    refine ⟨?_, ?_, ho, OwnI.nil _ _ _, hsz, fun k hk => (ho.new hk).2, Nat.le_refl _, ?_⟩
    · rw [← hV0]; exact (below_up HL6.out HB7.out).setCell (p := ⟨w5.heap.size, 2, none⟩) (Nat.le_refl _) _
    · rw [← hV0]; exact (blk_set (kept_obj HB7.out HS6.out) _).trans rfl
    · rw [← hV0, World.size_setCell]; exact Nat.lt_of_lt_of_le hsz HB7.out.size
  rw [hV0]
  have HAP := Lib.hid hap
  clear hap hV0 HO7 HB7
  obtain ⟨T, hT⟩ := nth_of HT5.out.len hN1
  have HT := Lib.hid hT
  have HOK := Lib.hid (HT5.out.ok.at_ hT)
  obtain ⟨go, rfl, hat, hfr, hgo, hgl⟩ := HAP.out.own.at0 hT
  have h5 := (HM.out.good 0 T hT).us5
  have HGO := Lib.hid hgo
  clear hT hat hfr hgo hgl
  go_upto_region 5 with fail
  go_wp2
  go_loopw [5, 6] (fun v u wr => ∃ (i : Nat) (au : Option Addr) (cu : Nat), i ≤ T.us.length ∧ u = .int .i64 i ∧ v = .slice au i cu ∧ Hid (ApAt w5 s r (.slice (some ⟨go, 0, none⟩) N c7) W6.heap.size M (.slice au i cu) (upUse s (T.us.take i)) V0.heap.size wr)) (fun _ u _ => (T.us.length - intOf u).toNat)
  case atStart => exact ⟨0, none, 0, Nat.zero_le _, rfl, rfl, HAP⟩
  case round =>
    obtain ⟨i, au, cu, hi, rfl, rfl, HP⟩ := hrel
    have hat := HP.out.own.at0 HT.out
    obtain ⟨go', e1, hat, hfr, _, hgl⟩ := hat
    cases e1
    rw [Nat.zero_mul] at hat
    have c6 := hat.c6
    have s0 : wr.cell? ⟨w5.heap.size, 0, none⟩ = some (.int .i64 s) := by rw [blk_cell HP.out.sb]; rfl
    have s2 : wr.cell? ⟨w5.heap.size, 2, none⟩ = some (.slice (some ⟨go, 0, none⟩) N c7) := by rw [blk_cell HP.out.sb]; rfl
    have hN0 : (0 : Int) < (N : Int) := by omega
    by_cases hlt : i < T.us.length
    · obtain ⟨x, hx⟩ := nth_of rfl hlt
      obtain ⟨gu, ou, ea, cx⟩ := ((HOK.out.below HP.out.low).two).at_ hx
      have hi1 : (i : Int) < (T.us.length : Int) := by omega
      have hi0 : (0 : Int) ≤ (i : Int) := by omega
      have hxr := (HM.out.good 0 T HT.out).us x (List.mem_of_getElem? hx)
      have hw : IntKind.i64.wrap (x + s) = x + s := IntWalk.i64_in _ (by omega)
      have HX : Hid (upUse s (T.us.take (i + 1)) = upUse s (T.us.take i) ++ [x + s]) := by
        show _ = _
        unfold upUse
        rw [List.take_add_one, hx, List.map_append]; rfl
      have HLE : Hid ((upUse s (T.us.take i)).length = i) := by show _ = _; unfold upUse; rw [List.length_map, List.length_take]; omega
      rw [ea] at c6
      clear hx hat hfr hxr
      go_upto_region 8 with fail
      go_region_law (refine step_ints (m := 1) (l := [x + s]) numI rfl (.tmp 30) (.tmp 42) rfl (by rfl) (by rfl) (HP.out.below (by repeat (first | exact Below.refl _ _ | (with_reducible assumption) | refine bw_alloc ?_ _ | refine bw_drew ?_))).row (Nat.le_trans HP.out.sz ((by repeat (first | exact Below.refl _ _ | (with_reducible assumption) | refine bw_alloc ?_ _ | refine bw_drew ?_)) : Below wr.heap.size wr _).size) (by first | exact ints_new _ _ _ | exact (ints_new _ _ _).below (by repeat (first | exact Below.refl _ _ | (with_reducible assumption) | refine bw_alloc ?_ _ | refine bw_drew ?_))) rfl (by rw [HLE.out]; omega) (fun z => by cases z) (i + 1) (by rw [HLE.out]) ?_
                     intro a3 k3 w3 o3 g3 l3
                     have HN := Lib.hid ((HP.out.below (by repeat (first | exact Below.refl _ _ | (with_reducible assumption) | refine bw_alloc ?_ _ | refine bw_drew ?_))).push g3 (HX.out ▸ o3))
                     clear o3 g3 l3)
      all_goals
        go_wp2
        go_roundw
        case rel => exact ⟨i + 1, _, _, by omega, by go_num, rfl, HN⟩
        case measure => simp [intOf]; omega
    · obtain rfl : i = T.us.length := by omega
      have hw2 : IntKind.i64.wrap (2 * s) = 2 * s := IntWalk.i64_in _ (by omega)
      have f0 := blk_free HP.out.sb 0
      have hge : go < wr.heap.size := hgl
      have hse : w5.heap.size < wr.heap.size := lt_of_block HP.out.sb
      have hne : ¬ go = w5.heap.size := by have := HP.out.l1; have := HGO.out; omega
      have hrow := HP.out.row
      have hUL : (upUse s (T.us.take T.us.length)).length = T.us.length := by unfold upUse; rw [List.length_map, List.length_take]; omega
      rw [List.take_of_length_le (Nat.le_refl _)] at hrow hUL
      obtain ⟨V1, hV1⟩ : ∃ V1, (wr.setCell ⟨go, 6, none⟩ (.slice au T.us.length cu)).setCell ⟨w5.heap.size, 0, none⟩ (.int .i64 (2 * s)) = V1 := ⟨_, rfl⟩
      have hEND : Hid (Below w5.heap.size w5 V1 ∧ V1.heap[w5.heap.size]? = some (.cells #[.int .i64 (2 * s), .int .i64 r, .slice (some ⟨go, 0, none⟩) N c7] 27 (0, 0)) ∧ Tasks V1 (some ⟨go, 0, none⟩) N c7 (M.set 0 (withUse T au (upUse s T.us) cu))) := by
        have hsu := HP.out.own.setU HT.out au (upUse s T.us) cu
        rw [hUL] at hsu
        have hgu := HP.out.l2 go rfl
        have hb : Below w5.heap.size w5 V1 := by
          rw [← hV1]
          exact ((HP.out.low).setCell (p := ⟨go, 6, none⟩) (by show _ ≤ go; have := HP.out.l1; have := HGO.out; omega) _).setCell (p := ⟨w5.heap.size, 0, none⟩) (Nat.le_refl _) _
        have hr1 : OwnI V1 3 V0.heap.size (.slice au T.us.length cu) (upUse s T.us) := by
          rw [← hV1]
          exact ownsRow_setCell_below (ownsRow_setCell_below hrow (a := ⟨go, 6, none⟩) hgu _) (a := ⟨w5.heap.size, 0, none⟩) HP.out.l3 _
        refine ⟨hb, ?_, ?_⟩
        · rw [← hV1]
          have h1 : (wr.setCell ⟨go, 6, none⟩ (.slice au T.us.length cu)).heap[w5.heap.size]? = some (.cells #[.int .i64 s, .int .i64 r, .slice (some ⟨go, 0, none⟩) N c7] 27 (0, 0)) := by
            rw [blk_far (a := ⟨go, 6, none⟩) (by show _ ≠ go; omega)]; exact HP.out.sb
          exact (blk_set (o := 0) h1 (.int .i64 (2 * s))).trans rfl
        · have ho : OwnT V1 W6.heap.size (.slice (some ⟨go, 0, none⟩) N c7) (M.set 0 (withUse T au (upUse s T.us) cu)) := by
            rw [← hV1]
            exact (hsu.1).set (a := ⟨w5.heap.size, 0, none⟩) HP.out.l1 _
          refine ho.tasks fun y hy => ?_
          obtain ⟨k, hk⟩ := List.mem_iff_getElem?.1 hy
          rw [List.getElem?_set] at hk
          split at hk
          · split at hk
            · cases hk
              have hokT := HOK.out.below hb
              obtain ⟨aa, cc, e, hi1, hi2, hi3⟩ := hr1.slice
              injection e with e1 e2 e3
              subst e1 e3
              exact ⟨hokT.one, hi1, hokT.l1, hokT.m1, hi2, hi3⟩
            · cases hk
          · exact (HT5.out.ok.at_ hk).below hb
      have hz := apart_zero HM.out HT.out au cu
      have hck := apart_check HM.out HT.out au cu
      obtain ⟨X, hX⟩ : ∃ X, M.set 0 (withUse T au (upUse s T.us) cu) = X := ⟨_, rfl⟩
      have HXL : Hid (X.length = N ∧ (∀ x ∈ X, I64 x.p ∧ I64 x.id) ∧ ∃ y, X[0]? = some y ∧ y.id = T.id) := by
        show _ ∧ _
        rw [← hX]
        refine ⟨by rw [List.length_set]; exact HT5.out.len, fun x hx => ?_, withUse T au (upUse s T.us) cu, by rw [List.getElem?_set, if_pos rfl, if_pos (List.getElem?_eq_some_iff.1 HT.out).1], rfl⟩
        rcases List.mem_or_eq_of_mem_set hx with q | q
        · exact HWF.out x q
        · rw [q]; exact HWF.out T (List.mem_of_getElem? HT.out)
      rw [hX] at hz hck hEND
      have HCK2 := Lib.hid hck
      have HZ := Lib.hid hz
      have c6 := c6
      clear hrow hUL hX hz hck hat
      go_upto_region 11 with fail
      refine gen_world (fun v => v = V1) ?_ ?_
      · rw [← hV1]
      intro V2 hV2
      subst hV2
      obtain ⟨hlow, hsb, htX⟩ := hEND.out
      have HLO := Lib.hid hlow
      have HSB := Lib.hid hsb
      have HTX := Lib.hid htX
      obtain ⟨hXn, hXw, y0, hy0, hyid⟩ := HXL.out
      obtain ⟨gy, oy, ey, hat0⟩ := htX.view.at_ hy0
      cases ey
      have HA0 := Lib.hid hat0
      have OC := Lib.hid (fun id v (hb : Below V2.heap.size V2 v) => cOf_any (2 * s) r id (htX.below hb) hXw)
      unfold OneBack at OC
      obtain ⟨k1, k2⟩ := HZ.out
      have O0 := Lib.hid (OC.out T.id)
      rw [k1, k2, ← hyid] at O0
      have HY0 := Lib.hid hyid
      have MK : Hid (∀ w', Below V2.heap.size V2 w' → (w'.cell? ⟨w5.heap.size, 0, none⟩ = some (.int .i64 (2 * s)) ∧ w'.cell? ⟨w5.heap.size, 1, none⟩ = some (.int .i64 r) ∧ w'.cell? ⟨w5.heap.size, 2, none⟩ = some (.slice (some ⟨go, 0, none⟩) N c7) ∧ w'.cell? ⟨go, 0 + 0 * 7, none⟩ = some (.int .i64 y0.id))) := fun w' hb => by
        have x0 := kept_obj hb HSB.out
        exact ⟨by rw [blk_cell x0]; rfl, by rw [blk_cell x0]; rfl, by rw [blk_cell x0]; rfl, kept_cell hb HA0.out.c0⟩
      obtain ⟨s0, s1, s2, t0⟩ := MK.out V2 (Below.refl _ _)
      clear k1 k2 hV1 hlow hsb htX hXw hat0 hyid c6 f0 hge hse hne
      go_cut [7, 8] (fun u v wx => u = .int .i64 0 ∧ v = .bool true ∧ Hid (Below V2.heap.size V2 wx))
      case first =>
        go_region_held3 (fun w' => w'.cell? ⟨w5.heap.size, 0, none⟩ = some (.int .i64 (2 * s)) ∧ w'.cell? ⟨w5.heap.size, 1, none⟩ = some (.int .i64 r) ∧ w'.cell? ⟨w5.heap.size, 2, none⟩ = some (.slice (some ⟨go, 0, none⟩) N c7) ∧ w'.cell? ⟨go, 0 + 0 * 7, none⟩ = some (.int .i64 y0.id)) (exact MK.out _ (by repeat (first | exact Below.refl _ _ | (with_reducible assumption) | refine bw_alloc ?_ _ | refine bw_drew ?_))) (first
          | (go_at_call 15; (with_reducible refine (O0.out _ (by repeat (first | exact Below.refl _ _ | (with_reducible assumption) | refine bw_alloc ?_ _ | refine bw_drew ?_))).mono ?_); rintro e x1 ⟨rfl, b1⟩; have bx1 := below_up (W := V2) (by repeat (first | exact Below.refl _ _ | (with_reducible assumption) | refine bw_alloc ?_ _ | refine bw_drew ?_)) b1; clear b1))
        all_goals
          go_wp2_with fail
          go_meet
          exact ⟨rfl, rfl, Lib.hid (by assumption)⟩
      case rest =>
        obtain ⟨rfl, rfl, HC⟩ := hcut
        clear s0 s1 s2 t0 O0 MK
        go_wp2
        go_loopw [9] (fun u wx => ∃ i : Nat, i ≤ N ∧ u = .int .i64 i ∧ Hid (Below V2.heap.size V2 wx)) (fun u _ => (N - intOf u).toNat)
        case atStart => exact ⟨0, Nat.zero_le _, rfl, HC⟩
        case round =>
          obtain ⟨i, hi, rfl, HP2⟩ := hrel
          have HPL := Lib.hid HP2.out
          have hsb := kept_obj HP2.out HSB.out
          have s0 : wr.cell? ⟨w5.heap.size, 0, none⟩ = some (.int .i64 (2 * s)) := by rw [blk_cell hsb]; rfl
          have s1 : wr.cell? ⟨w5.heap.size, 1, none⟩ = some (.int .i64 r) := by rw [blk_cell hsb]; rfl
          have s2 : wr.cell? ⟨w5.heap.size, 2, none⟩ = some (.slice (some ⟨go, 0, none⟩) N c7) := by rw [blk_cell hsb]; rfl
          by_cases hlt : i < N
          · obtain ⟨y, hy⟩ := nth_of hXn hlt
            obtain ⟨gy, oy, ey, hat⟩ := HTX.out.view.at_ hy
            cases ey
            rw [Nat.zero_add] at hat
            have HAY := Lib.hid hat
            have hym : y ∈ X := List.mem_of_getElem? hy
            have hcg := check_find HCK2.out hym
            have h1b : y.c = 1 → (cgOf r X y.tk).b = 0 := fun h => tick_zero HCK2.out hym h
            have OY := Lib.hid (OC.out y.id)
            rw [hcg] at OY
            simp only [cgB, Option.isSome] at OY
            generalize cgOf r X y.tk = cg at *
            have hi1 : (i : Int) < (N : Int) := by omega
            have hi0 : (0 : Int) ≤ (i : Int) := by omega
            have MK : Hid (∀ w', Below wr.heap.size wr w' → (w'.cell? ⟨w5.heap.size, 0, none⟩ = some (.int .i64 (2 * s)) ∧ w'.cell? ⟨w5.heap.size, 1, none⟩ = some (.int .i64 r) ∧ w'.cell? ⟨w5.heap.size, 2, none⟩ = some (.slice (some ⟨go, 0, none⟩) N c7) ∧ w'.cell? ⟨go, i * 7, none⟩ = some (.int .i64 y.id))) := fun w' hb => by
              have x0 := kept_obj (below_up HP2.out hb) HSB.out
              exact ⟨by rw [blk_cell x0]; rfl, by rw [blk_cell x0]; rfl, by rw [blk_cell x0]; rfl, kept_cell (below_up HP2.out hb) HAY.out.c0⟩
            have t0 := (MK.out wr (Below.refl _ _)).2.2.2
            clear hy hat hym hcg hsb
            go_upto_region 17 with fail
            go_cut [10, 11] (fun u v wx => u = .int .i64 cg.b ∧ v = .bool true ∧ Hid (Below wr.heap.size wr wx))
            case first =>
              clear h1b
              go_region_held3 (fun w' => w'.cell? ⟨w5.heap.size, 0, none⟩ = some (.int .i64 (2 * s)) ∧ w'.cell? ⟨w5.heap.size, 1, none⟩ = some (.int .i64 r) ∧ w'.cell? ⟨w5.heap.size, 2, none⟩ = some (.slice (some ⟨go, 0, none⟩) N c7) ∧ w'.cell? ⟨go, i * 7, none⟩ = some (.int .i64 y.id)) (exact MK.out _ (by repeat (first | exact Below.refl _ _ | (with_reducible assumption) | refine bw_alloc ?_ _ | refine bw_drew ?_))) (first
                | (go_at_call 15; (with_reducible refine (OY.out _ (below_up HPL.out (by repeat (first | exact Below.refl _ _ | (with_reducible assumption) | refine bw_alloc ?_ _ | refine bw_drew ?_)))).mono ?_); rintro e x1 ⟨rfl, b1⟩; have bx1 := below_up (W := wr) (by repeat (first | exact Below.refl _ _ | (with_reducible assumption) | refine bw_alloc ?_ _ | refine bw_drew ?_)) b1; clear b1))
              all_goals
                go_wp2_with fail
                go_meet
                exact ⟨rfl, rfl, Lib.hid (by assumption)⟩
            case rest =>
              obtain ⟨rfl, rfl, HC2⟩ := hcut
              have HD := Lib.hid (below_up HPL.out HC2.out)
              have hsb := kept_obj HD.out HSB.out
              have s2 : wc.cell? ⟨w5.heap.size, 2, none⟩ = some (.slice (some ⟨go, 0, none⟩) N c7) := by rw [blk_cell hsb]; rfl
              have t1 := kept_cell HD.out HAY.out.c1
              clear hsb MK t0 s0 s1
              by_cases hy1 : y.c = 1
              · have hb0 := h1b hy1
                have d1 : (y.c == 1) = true := by rw [beq_iff_eq]; exact hy1
                rw [hb0]
                clear h1b hy1 hb0
                go_wp2
                go_roundw
                case rel => exact ⟨i + 1, by omega, by go_num, HD⟩
                case measure => simp [intOf]; omega
              · have d1 : (y.c == 1) = false := by rw [beq_eq_false_iff_ne]; exact hy1
                clear h1b hy1
                go_wp2
                go_roundw
                case rel => exact ⟨i + 1, by omega, by go_num, HD⟩
                case measure => simp [intOf]; omega
          · obtain rfl : i = N := by omega
            have HE := Lib.hid (below_up HL5.out (below_up HLO.out HPL.out))
            clear hsb
            go_wp2
            go_ret
            exact ⟨rfl, HE.out⟩
end Go.Proofs.Ytlglncnhhgofoaa

/-
  The walks over slices.Contains, and over the greatest charge of some tasks.
-/
namespace Go.Proofs.Ytlglncnhhgofoaa
open Go.RowKit Go.Maps
attribute [-go_sem] run_max_int2

/-- Where a number stands first. -/
def idxOf (ids : List Int) (v : Int) : Int := if v ∈ ids then ((ids.findIdx (fun u => decide (v = u)) : Nat) : Int) else -1
set_option maxRecDepth 100000 in
set_option maxHeartbeats 4000000 in
theorem idxI_any (ids : List Int) (v : Int) (n : Nat) (hl : ids.length = n) (hn : (n : Int) ≤ 9223372036854775807) (a : Option Addr) (c : Nat) (w : World) (hi : Ints w a ids) :
    Calls Try.prog 61 #[.slice a n c, .int .i64 v] w fun e w' => (∃ z : Int, e = .returned (.int .i64 z) ∧ ((0 ≤ z ∧ v ∈ ids) ∨ (z = -1 ∧ ¬ v ∈ ids))) ∧ w = w' := by
  have HI := Lib.hid hi
  have HL := Lib.hid hl
  clear hi hl
  go_enter Try.func61, Try.ntmps61
  go_wp2
  go_loop [8] (fun u => ∃ k : Nat, k ≤ n ∧ u = .int .i64 k ∧ Hid (∀ (j : Nat) (y : Int), j < k → ids[j]? = some y → ¬ v = y)) (fun u => (n - intOf u).toNat)
  case atStart => exact ⟨0, Nat.zero_le _, rfl, fun j y h => absurd h (Nat.not_lt_zero _)⟩
  case round =>
    obtain ⟨k, hk, rfl, HS⟩ := hrel
    by_cases hlt : k < n
    · obtain ⟨x, hx⟩ := nth_of HL.out hlt
      obtain ⟨b, o, rfl, c0⟩ := HI.out.at_ hx
      have hk1 : (k : Int) < (n : Int) := by omega
      have hk0 : (0 : Int) ≤ (k : Int) := by omega
      by_cases e : v = x
      · have HM : Hid (v ∈ ids) := by rw [e]; exact List.mem_of_getElem? hx
        have d : (v == x) = true := by rw [beq_iff_eq]; exact e
        clear hx e HS
        go_wp2
        go_ret
        exact ⟨⟨_, rfl, .inl ⟨hk0, HM.out⟩⟩, rfl⟩
      · have HS2 : Hid (∀ (j : Nat) (y : Int), j < k + 1 → ids[j]? = some y → ¬ v = y) := fun j y hj hy => by
          rcases Nat.lt_or_ge j k with h | h
          · exact HS.out j y h hy
          · obtain rfl : j = k := by omega
            rw [hx] at hy; cases hy; exact e
        have d : (v == x) = false := by rw [beq_eq_false_iff_ne]; exact e
        clear hx e HS
        go_wp2
        go_round
        case rel => exact ⟨k + 1, by omega, by go_num, HS2⟩
        case measure => simp [intOf]; omega
    · obtain rfl : n = k := by omega
      have HM : Hid (¬ v ∈ ids) := fun h => by
        obtain ⟨j, hj⟩ := List.mem_iff_getElem?.1 h
        exact HS.out j v (by have := (List.getElem?_eq_some_iff.1 hj).1; have := HL.out; omega) hj rfl
      go_wp2
      go_ret
      exact ⟨⟨_, rfl, .inr ⟨rfl, HM.out⟩⟩, rfl⟩
set_option maxRecDepth 100000 in
set_option maxHeartbeats 4000000 in
theorem hasI_any (ids : List Int) (v : Int) (n : Nat) (hl : ids.length = n) (hn : (n : Int) ≤ 9223372036854775807) (a : Option Addr) (c : Nat) (w : World) (hi : Ints w a ids) :
    Calls Try.prog 35 #[.slice a n c, .int .i64 v] w fun e w' => e = .returned (.bool (decide (v ∈ ids))) ∧ w = w' := by
  have C := Lib.hid (idxI_any ids v n hl hn a c w hi)
  clear hi hl
  by_cases h : v ∈ ids
  · rw [decide_eq_true h]
    have HM := Lib.hid h
    clear h
    go_enter Try.func35, Try.ntmps35
    go_wp2_with (go_at_call 61; (with_reducible refine C.out.mono ?_); rintro e w1 ⟨⟨z, rfl, hz⟩, rfl⟩; have hz0 : 0 ≤ z := (by rcases hz with ⟨q, _⟩ | ⟨_, q⟩; exact q; exact absurd HM.out q); have d : decide (0 ≤ z) = true := decide_eq_true hz0; clear hz)
    go_ret
    exact ⟨by first | rfl | simp [d], rfl⟩
  · rw [decide_eq_false h]
    have HM := Lib.hid h
    clear h
    go_enter Try.func35, Try.ntmps35
    go_wp2_with (go_at_call 61; (with_reducible refine C.out.mono ?_); rintro e w1 ⟨⟨z, rfl, hz⟩, rfl⟩; obtain rfl : z = -1 := (by rcases hz with ⟨_, q⟩ | ⟨q, _⟩; exact absurd q HM.out; exact q); clear hz)
    go_ret
    exact ⟨rfl, rfl⟩

theorem field_b (id u v b : Int) (w : World) : (Instr.field 60 (.agg #[.int .i64 id, .int .i64 u, .int .i64 v, .int .i64 b, .int .i64 b]) 4).run Try.prog w = .ok (.int .i64 b) w := by kernel_rfl
/-- The greatest charge of the first k tasks whose numbers are some. -/
def grN (r : Int) (L : List TV) (ids : List Int) : Nat → Int
  | 0 => 0
  | k + 1 => match L[k]? with
    | some x => if x.id ∈ ids then (if grN r L ids k < (cgOf r L x.tk).b then (cgOf r L x.tk).b else grN r L ids k) else grN r L ids k
    | none => grN r L ids k
theorem grN_next {r : Int} {L : List TV} {ids : List Int} {k : Nat} {x : TV} (h : L[k]? = some x) : grN r L ids (k + 1) = if x.id ∈ ids then (if grN r L ids k < (cgOf r L x.tk).b then (cgOf r L x.tk).b else grN r L ids k) else grN r L ids k := by
  rw [grN, h]
theorem grN_le {r : Int} {L : List TV} {ids : List Int} (z : Int) : ∀ k, grN r L ids k ≤ z ↔ 0 ≤ z ∧ ∀ (j : Nat) (x : TV), j < k → L[j]? = some x → x.id ∈ ids → (cgOf r L x.tk).b ≤ z
  | 0 => ⟨fun h => ⟨h, fun j x hj => absurd hj (Nat.not_lt_zero _)⟩, fun h => h.1⟩
  | k + 1 => by
    have ih := grN_le (r := r) (L := L) (ids := ids) z k
    cases hx : L[k]? with
    | none =>
      rw [grN, hx]
      dsimp only
      rw [ih]
      refine and_congr_right fun _ => ⟨fun h j x hj hjx => ?_, fun h j x hj => h j x (by omega)⟩
      rcases Nat.lt_or_ge j k with q | q
      · exact h j x q hjx
      · obtain rfl : j = k := by omega
        rw [hx] at hjx; cases hjx
    | some y =>
      rw [grN_next hx]
      have key : (∀ (j : Nat) (x : TV), j < k + 1 → L[j]? = some x → x.id ∈ ids → (cgOf r L x.tk).b ≤ z) ↔ (∀ (j : Nat) (x : TV), j < k → L[j]? = some x → x.id ∈ ids → (cgOf r L x.tk).b ≤ z) ∧ (y.id ∈ ids → (cgOf r L y.tk).b ≤ z) := by
        refine ⟨fun h => ⟨fun j x hj => h j x (by omega), fun hm => h k y (by omega) hx hm⟩, fun h j x hj hjx hm => ?_⟩
        rcases Nat.lt_or_ge j k with q | q
        · exact h.1 j x q hjx hm
        · obtain rfl : j = k := by omega
          rw [hx] at hjx; cases hjx; exact h.2 hm
      rw [key, ← and_assoc, ← ih]
      by_cases hm : y.id ∈ ids
      · rw [if_pos hm]
        split
        · exact ⟨fun h => ⟨by omega, fun _ => h⟩, fun h => h.2 hm⟩
        · exact ⟨fun h => ⟨h, fun _ => by omega⟩, fun h => h.1⟩
      · rw [if_neg hm]
        exact ⟨fun h => ⟨h, fun q => absurd q hm⟩, fun h => h.1⟩
/-- What the greatest tells. -/
def grOf (s r : Int) (L : List TV) (ids : List Int) : Int := if checkOf s r L = 0 then grN r L ids L.length else 0
theorem grOf_le {s r : Int} {L : List TV} {ids : List Int} (h : checkOf s r L = 0) (z : Int) : grOf s r L ids ≤ z ↔ 0 ≤ z ∧ ∀ x ∈ L, x.id ∈ ids → (cgOf r L x.tk).b ≤ z := by
  unfold grOf
  rw [if_pos h, grN_le]
  refine and_congr_right fun _ => ⟨fun q x hx => ?_, fun q j x _ hj => q x (List.mem_of_getElem? hj)⟩
  obtain ⟨j, hj⟩ := List.mem_iff_getElem?.1 hx
  exact q j x (List.getElem?_eq_some_iff.1 hj).1 hj

set_option maxRecDepth 100000 in
set_option maxHeartbeats 8000000 in
theorem greatest_any {w : World} {a : Option Addr} {n cap : Nat} {L : List TV} (s r : Int) (ha : Tasks w a n cap L) (hw : ∀ x ∈ L, I64 x.p ∧ I64 x.id) (ids : List Int) (m : Nat) (hl : ids.length = m) (hm : (m : Int) ≤ 9223372036854775807) (ai : Option Addr) (ci : Nat) (hi : Ints w ai ids) :
    Calls Try.prog 18 #[.agg #[.int .i64 s, .int .i64 r, .slice a n cap], .slice ai m ci] w fun e w' => e = .returned (.int .i64 (grOf s r L ids)) ∧ Below w.heap.size w w' := by
  have CC := Lib.hid (fun v (hb : Below w.heap.size w v) => check_any s r (ha.below hb) hw)
  by_cases hc : checkOf s r L = 0
  rotate_left
  · have hg : grOf s r L ids = 0 := if_neg hc
    rw [hg]
    have d1 : (checkOf s r L == 0) = false := by rw [beq_eq_false_iff_ne]; exact hc
    have d2 : (checkOf s r L != 0) = true := by rw [bne, d1]; rfl
    generalize checkOf s r L = q at *
    clear hc hg
    go_enter Try.func18, Try.ntmps18
    go_wp2_with (go_at_call 33; (with_reducible refine (CC.out _ (by repeat (first | exact Below.refl _ _ | (with_reducible assumption) | refine bw_alloc ?_ _ | refine bw_drew ?_))).mono ?_); rintro e w1 ⟨rfl, b1⟩; have B1 := Lib.hid (below_up (W := w) (by repeat (first | exact Below.refl _ _ | (with_reducible assumption) | refine bw_alloc ?_ _ | refine bw_drew ?_)) b1); clear b1)
    go_ret
    exact ⟨rfl, B1.out⟩
  have HH : Hid (Hands w s r a n cap L) := ⟨hc, ha⟩
  have HG : Hid (grOf s r L ids = grN r L ids n) := by show _ = _; rw [← ha.len]; exact if_pos hc
  rw [HG.out]
  rw [hc] at CC
  obtain ⟨_, _, hl64, ht⟩ := check_ok hc
  have hn64 : n ≤ 64 := by rw [← ha.len]; omega
  have HT := Lib.hid ht
  have HI := Lib.hid hi
  have CH := Lib.hid (fun v => charges_any s r a n cap v)
  have CT := Lib.hid (fun id v (hb : Below w.heap.size w v) => hasI_any ids id m hl hm ai ci v (hi.below hb))
  clear ha hw ht hl64 hc hi hl
  go_enter Try.func18, Try.ntmps18
  go_upto_region 4 with (go_at_call 33; (with_reducible refine (CC.out _ (by repeat (first | exact Below.refl _ _ | (with_reducible assumption) | refine bw_alloc ?_ _ | refine bw_drew ?_))).mono ?_); rintro e w1 ⟨rfl, b1⟩; have S1 := Lib.hid (kept_obj b1 (heap_alloc_new w _)); have B1 := Lib.hid (below_up (W := w) (by repeat (first | exact Below.refl _ _ | (with_reducible assumption) | refine bw_alloc ?_ _ | refine bw_drew ?_)) b1); clear b1)
  have s0 : w1.cell? ⟨w.heap.size, 0, none⟩ = some (.int .i64 s) := by rw [blk_cell S1.out]; rfl
  have s1 : w1.cell? ⟨w.heap.size, 1, none⟩ = some (.int .i64 r) := by rw [blk_cell S1.out]; rfl
  have s2 : w1.cell? ⟨w.heap.size, 2, none⟩ = some (.slice a n cap) := by rw [blk_cell S1.out]; rfl
  go_upto_region 5 with (go_at_call 34; (with_reducible refine (CH.out _).mono ?_); rintro e w3 ⟨G, E, C, rfl, hc3, b3⟩; have S3 := Lib.hid (kept_obj b3 S1.out); have B3 := Lib.hid (below_up B1.out b3); have HC3 := Lib.hid hc3; clear b3 hc3)
  have s2 : w3.cell? ⟨w.heap.size, 2, none⟩ = some (.slice a n cap) := by rw [blk_cell S3.out]; rfl
  clear s0 s1
  go_wp2
  go_loopw [5, 18] (fun g u wr => ∃ k : Nat, k ≤ n ∧ u = .int .i64 k ∧ g = .int .i64 (grN r L ids k) ∧ Hid (Below w3.heap.size w3 wr)) (fun _ u _ => (n - intOf u).toNat)
  case atStart => exact ⟨0, Nat.zero_le _, rfl, rfl, Below.refl _ _⟩
  case round =>
    obtain ⟨k, hk, rfl, rfl, HP⟩ := hrel
    by_cases hlt : k < n
    · obtain ⟨x, hx⟩ := nth_of HH.out.tk.len hlt
      obtain ⟨g, o, rfl, hat⟩ := (HH.out.tk.view.below (below_up B3.out HP.out)).at_ hx
      have HOK := Lib.hid ((HH.out.tk.ok.at_ hx).below (below_up B3.out HP.out))
      have HTX := Lib.hid (HT.out x (List.mem_of_getElem? hx)).1
      obtain ⟨c0, c1, c2, c3, c4, c5, c6⟩ := hat
      have hk1 : (k : Int) < (n : Int) := by omega
      have hk0 : (0 : Int) ≤ (k : Int) := by omega
      have hN := grN_next (r := r) (ids := ids) hx
      have TC := Lib.hid (fun v (hb : Below wr.heap.size wr v) => (HH.out.below (below_up (below_up B3.out HP.out) hb)).tell HTX.out (HOK.out.below hb) (HC3.out.below (below_up HP.out hb)))
      have CTX := Lib.hid (fun v (hb : Below wr.heap.size wr v) => CT.out x.id v (below_up (below_up B3.out HP.out) hb))
      clear hx s2
      by_cases hm : x.id ∈ ids
      · rw [if_pos hm] at hN
        rw [decide_eq_true hm] at CTX
        have HNN := Lib.hid hN
        generalize cgOf r L x.tk = cg at *
        generalize grN r L ids k = z at *
        clear hm hN
        have hfd := fun w => field_b x.id cg.u cg.v cg.b w
        by_cases hz : z < cg.b
        · rw [if_pos hz] at HNN
          have mx : ∀ (ts : Array TypeId) (t : TypeId) (w : World), (Builtin.max_ ts t #[.int .i64 z, .int .i64 cg.b]).run Try.prog w = .ok (.int .i64 cg.b) w := fun ts t w => by rw [run_max_int2, if_pos hz]
          clear hz
          go_wp2_with (first
            | (go_at_call 35; (with_reducible refine (CTX.out _ (by repeat (first | exact Below.refl _ _ | (with_reducible assumption) | refine bw_alloc ?_ _ | refine bw_drew ?_))).mono ?_); rintro e x1 ⟨rfl, rfl⟩)
            | (go_at_call 56; (with_reducible refine (TC.out _ (by repeat (first | exact Below.refl _ _ | (with_reducible assumption) | refine bw_alloc ?_ _ | refine bw_drew ?_))).mono ?_); rintro e x2 ⟨rfl, b2⟩; have B2 := Lib.hid (below_up (W := wr) (by repeat (first | exact Below.refl _ _ | (with_reducible assumption) | refine bw_alloc ?_ _ | refine bw_drew ?_)) b2); clear b2))
          go_roundw
          case rel => exact ⟨k + 1, by omega, by go_num, by rw [HNN.out], below_up HP.out B2.out⟩
          case measure => simp [intOf]; omega
        · rw [if_neg hz] at HNN
          have mx : ∀ (ts : Array TypeId) (t : TypeId) (w : World), (Builtin.max_ ts t #[.int .i64 z, .int .i64 cg.b]).run Try.prog w = .ok (.int .i64 z) w := fun ts t w => by rw [run_max_int2, if_neg hz]
          clear hz
          go_wp2_with (first
            | (go_at_call 35; (with_reducible refine (CTX.out _ (by repeat (first | exact Below.refl _ _ | (with_reducible assumption) | refine bw_alloc ?_ _ | refine bw_drew ?_))).mono ?_); rintro e x1 ⟨rfl, rfl⟩)
            | (go_at_call 56; (with_reducible refine (TC.out _ (by repeat (first | exact Below.refl _ _ | (with_reducible assumption) | refine bw_alloc ?_ _ | refine bw_drew ?_))).mono ?_); rintro e x2 ⟨rfl, b2⟩; have B2 := Lib.hid (below_up (W := wr) (by repeat (first | exact Below.refl _ _ | (with_reducible assumption) | refine bw_alloc ?_ _ | refine bw_drew ?_)) b2); clear b2))
          go_roundw
          case rel => exact ⟨k + 1, by omega, by go_num, by rw [HNN.out], below_up HP.out B2.out⟩
          case measure => simp [intOf]; omega
      · rw [if_neg hm] at hN
        rw [decide_eq_false hm] at CTX
        have HNN := Lib.hid hN
        clear hm hN TC
        go_wp2_with (go_at_call 35; (with_reducible refine (CTX.out _ (by repeat (first | exact Below.refl _ _ | (with_reducible assumption) | refine bw_alloc ?_ _ | refine bw_drew ?_))).mono ?_); rintro e x1 ⟨rfl, rfl⟩)
        go_roundw
        case rel => exact ⟨k + 1, by omega, by go_num, by rw [HNN.out], bw_alloc HP.out _⟩
        case measure => simp [intOf]; omega
    · obtain rfl : k = n := by omega
      go_wp2
      go_ret
      exact ⟨rfl, below_up B3.out HP.out⟩
end Go.Proofs.Ytlglncnhhgofoaa

/-
  The walk over the statement that with one task more no charge is less, and that the greatest is one of theirs.
-/
namespace Go.Proofs.Ytlglncnhhgofoaa
open Go.RowKit Go.Maps
attribute [-go_sem] run_max_int2

theorem allN_take (L : List TV) (id : Int) (m : Nat) : ∀ k, k ≤ m → allN (L.take m) id k = allN L id k
  | 0, _ => rfl
  | k + 1, h => by
    have ih := allN_take L id m k (by omega)
    have e : (L.take m)[k]? = L[k]? := by rw [List.getElem?_take, if_pos (by omega)]
    cases hq : L[k]? with
    | none => rw [allN, allN, e, hq]; exact ih
    | some T =>
      by_cases q : T.id = id
      · rw [allN_is (e.trans hq) q, allN_is hq q]; exact ih
      · rw [allN_not (e.trans hq) q, allN_not hq q, ih]
theorem allN_up (L : List TV) (id : Int) (k : Nat) (x : Nat) (h : allN L id k x = true) : allN L id (k + 1) x = true := by
  cases hq : L[k]? with
  | none => rw [allN, hq]; exact h
  | some T =>
    by_cases q : T.id = id
    · rw [allN_is hq q]; exact h
    · rw [allN_not hq q]; unfold orP; rw [h]; rfl
theorem cg_grows {r : Int} (h0 : 0 ≤ r) (L : List TV) (t : Tk) (hl : 0 < L.length) : (cgOf r (L.take (L.length - 1)) t).b ≤ (cgOf r L t).b := by
  refine Int.mul_le_mul_of_nonneg_left ?_ h0
  have := most_mono t.us t.c.toNat (O := allN (L.take (L.length - 1)) t.id (L.take (L.length - 1)).length) (O' := allN L t.id L.length) (fun x _ hx => by
    rw [List.length_take, Nat.min_eq_left (by omega), allN_take L t.id _ _ (Nat.le_refl _)] at hx
    have := allN_up L t.id _ x hx
    rwa [show L.length - 1 + 1 = L.length by omega] at this)
  omega
/-- The greatest charge of the first k. -/
def topN (r : Int) (L : List TV) : Nat → Int
  | 0 => 0
  | k + 1 => match L[k]? with
    | some x => if topN r L k < (cgOf r L x.tk).b then (cgOf r L x.tk).b else topN r L k
    | none => topN r L k
theorem topN_next {r : Int} {L : List TV} {k : Nat} {x : TV} (h : L[k]? = some x) : topN r L (k + 1) = if topN r L k < (cgOf r L x.tk).b then (cgOf r L x.tk).b else topN r L k := by
  rw [topN, h]
theorem topN_le {r : Int} {L : List TV} (z : Int) : ∀ k, topN r L k ≤ z ↔ 0 ≤ z ∧ ∀ (j : Nat) (x : TV), j < k → L[j]? = some x → (cgOf r L x.tk).b ≤ z
  | 0 => ⟨fun h => ⟨h, fun j x hj => absurd hj (Nat.not_lt_zero _)⟩, fun h => h.1⟩
  | k + 1 => by
    have ih := topN_le (r := r) (L := L) z k
    cases hx : L[k]? with
    | none =>
      rw [topN, hx]
      dsimp only
      rw [ih]
      refine and_congr_right fun _ => ⟨fun h j x hj hjx => ?_, fun h j x hj => h j x (by omega)⟩
      rcases Nat.lt_or_ge j k with q | q
      · exact h j x q hjx
      · obtain rfl : j = k := by omega
        rw [hx] at hjx; cases hjx
    | some y =>
      rw [topN_next hx]
      have key : (∀ (j : Nat) (x : TV), j < k + 1 → L[j]? = some x → (cgOf r L x.tk).b ≤ z) ↔ (∀ (j : Nat) (x : TV), j < k → L[j]? = some x → (cgOf r L x.tk).b ≤ z) ∧ (cgOf r L y.tk).b ≤ z := by
        refine ⟨fun h => ⟨fun j x hj => h j x (by omega), h k y (by omega) hx⟩, fun h j x hj hjx => ?_⟩
        rcases Nat.lt_or_ge j k with q | q
        · exact h.1 j x q hjx
        · obtain rfl : j = k := by omega
          rw [hx] at hjx; cases hjx; exact h.2
      rw [key, ← and_assoc, ← ih]
      split
      · exact ⟨fun h => ⟨by omega, h⟩, fun h => h.2⟩
      · exact ⟨fun h => ⟨h, by omega⟩, fun h => h.1⟩
/-- The numbers of the first k. -/
def idsN (L : List TV) (k : Nat) : List Int := (L.take k).map TV.id
theorem idsN_next {L : List TV} {k : Nat} {x : TV} (h : L[k]? = some x) : idsN L (k + 1) = idsN L k ++ [x.id] := by
  unfold idsN; rw [List.take_add_one, h, List.map_append]; rfl
theorem idsN_len {L : List TV} {k : Nat} (h : k ≤ L.length) : (idsN L k).length = k := by unfold idsN; rw [List.length_map, List.length_take]; omega
theorem gr_top {s r : Int} {M : List TV} (h : Made s r M) (ids : List Int) (hids : ∀ (k : Nat) (x : TV), M[k]? = some x → (x.id ∈ ids ↔ k < M.length - 1)) : grOf s r M ids = topN r M (M.length - 1) := by
  have hc := check_made h
  have key : ∀ z, grOf s r M ids ≤ z ↔ topN r M (M.length - 1) ≤ z := fun z => by
    rw [grOf_le hc, topN_le]
    refine and_congr_right fun _ => ⟨fun q j x hj hx => q x (List.mem_of_getElem? hx) ((hids j x hx).2 hj), fun q x hx hm => ?_⟩
    obtain ⟨j, hj⟩ := List.mem_iff_getElem?.1 hx
    exact q j x ((hids j x hj).1 hm) hj
  have h1 := (key (grOf s r M ids)).1 (Int.le_refl _)
  have h2 := (key (topN r M (M.length - 1))).2 (Int.le_refl _)
  omega
theorem ids_own {s r : Int} {M : List TV} (h : Made s r M) {k : Nat} {x : TV} (hx : M[k]? = some x) (m : Nat) : x.id ∈ idsN M m ↔ k < m := by
  have hg := (h.good k x hx).id
  unfold idsN
  rw [List.mem_map]
  constructor
  · rintro ⟨y, hy, e⟩
    obtain ⟨j, hj⟩ := List.mem_iff_getElem?.1 hy
    rw [List.getElem?_take] at hj
    split at hj
    · have := (h.good j y hj).id; omega
    · cases hj
  · intro hk
    exact ⟨x, List.mem_of_getElem? (i := k) (by rw [List.getElem?_take, if_pos hk]; exact hx), rfl⟩
theorem gr_most {s r : Int} {M : List TV} (h : Made s r M) : grOf s r M (idsN M (M.length - 1)) = topN r M (M.length - 1) ∧ grOf s r M (idsN M (M.length - 1) ++ [77]) = topN r M (M.length - 1) := by
  refine ⟨gr_top h _ fun k x hx => ids_own h hx _, gr_top h _ fun k x hx => ?_⟩
  rw [List.mem_append, List.mem_singleton, ids_own h hx]
  have hg := (h.good k x hx).id
  have hk := (List.getElem?_eq_some_iff.1 hx).1
  have h6 := h.six
  omega

/-- The boxes of the statement: two systems, a row of numbers. -/
structure GrAt (w5 : World) (s r : Int) (a : Option Addr) (N c gx : Nat) (u : Value) (U : List Int) (BU : Nat) (W : World) : Prop where
  low : Below w5.heap.size w5 W
  sb : W.heap[w5.heap.size]? = some (.cells #[.int .i64 s, .int .i64 r, .slice a N c] 27 (0, 0))
  xb : W.heap[gx]? = some (.cells #[.int .i64 s, .int .i64 r, .slice a (N - 1 : Nat) c] 27 (0, 0))
  row : OwnI W 3 BU u U
  sz : BU ≤ W.heap.size
  l3 : w5.heap.size < gx ∧ gx < BU
theorem GrAt.below {w5 : World} {s r : Int} {a : Option Addr} {N c gx : Nat} {u : Value} {U : List Int} {BU : Nat} {W W' : World} (h : GrAt w5 s r a N c gx u U BU W) (hb : Below W.heap.size W W') : GrAt w5 s r a N c gx u U BU W' :=
  ⟨below_up h.low hb, kept_obj hb h.sb, kept_obj hb h.xb, h.row.below hb, Nat.le_trans h.sz hb.size, h.l3⟩
theorem GrAt.push {w5 : World} {s r : Int} {a : Option Addr} {N c gx : Nat} {u u' : Value} {U U' : List Int} {BU : Nat} {W W' : World} (h : GrAt w5 s r a N c gx u U BU W) (hg : W.grownBy W' u.ownBlock) (ho : OwnI W' 3 BU u' U') : GrAt w5 s r a N c gx u' U' BU W' := by
  have hb : Below BU W W' := (Below.refl _ W).grown hg h.sz (fun k hk => (h.row.new hk).1)
  have := h.l3
  exact ⟨h.low.trans (hb.mono (by omega)), kept_objB hb (by omega) h.sb, kept_objB hb h.l3.2 h.xb, ho, Nat.le_trans h.sz hb.size, h.l3⟩

theorem step_ints_g {w : World} {t e : TypeId} (ht : IsNum t e) {ops : Array Oper} {o : Oper} {a : Act} {K : Act → World → Prop} {Q : Exit → Act → World → Prop} {E : Prop} (hgd : Region.wanted o (yielded ops a.tmps) = true) (s x : Operand)
    (ho : o.op = .call { callee := .builtin .append, args := #[s, x], argTypes := #[t, t] }) {B m c : Nat} {v : Value} {q l : List Int} {ad : Option Addr} (hs : a.eval s = v) (hx : a.eval x = .slice ad m c)
    (hown : OwnI w e B v q) (hB : B ≤ w.heap.size) (hv : Ints w ad l) (hl : l.length = m) (hsm : (q.length + m : Int) ≤ 17592186044416) (hn : ad = none → m = 0) (N : Nat) (hN : q.length + m = N)
    (h : ∀ a' cp' w', OwnI w' e B (.slice a' N cp') (q ++ l) → w.grownBy w' v.ownBlock → (∀ k, (Value.slice a' N cp').ownBlock = some k → v.ownBlock = some k ∨ w.heap.size ≤ k) → K (a.put o.dst (.slice a' N cp')) w') :
    if Region.wanted o (yielded ops a.tmps) = true then Oper.wp Try.prog o a w K Q else E := by
  rw [if_pos hgd]
  obtain ⟨v', w', hr, h2, h3, h4⟩ := append_ints ht (c := c) hown hB hv hl hsm hn o.type
  obtain ⟨a', cp', hv', _⟩ := h2.slice
  rw [List.length_append, hl, hN] at hv'
  subst hv'
  unfold Oper.wp execOp
  simp only [ho, resolve, invoke, builtin, Sem.run_bind, Sem.run_pure, Result.andThen_ok, List.map_toArray, List.map_cons, List.map_nil, hs, hx, hr]
  exact h a' cp' w' h2 h3 h4
theorem OwnI.ints {w : World} {e : TypeId} {B n c : Nat} {a : Option Addr} {l : List Int} (h : OwnI w e B (.slice a n c) l) : Ints w a l := by
  obtain ⟨aa, cc, ee, hi, _⟩ := h.slice
  cases ee
  exact hi
theorem Tasks.take {w : World} {a : Option Addr} {n cap : Nat} {L : List TV} (h : Tasks w a n cap L) (m : Nat) (hm : m ≤ n) : Tasks w a m cap (L.take m) :=
  ⟨by rw [List.length_take, h.len]; omega, h.view.take m, fun x hx => h.ok x (List.mem_of_mem_take hx), Nat.le_trans hm h.le, h.small⟩
set_option maxRecDepth 100000 in
set_option maxHeartbeats 16000000 in
theorem law_grows (W : World) (S R : Int) (a : Option Addr) (n cap : Nat) (L : List NV) (hn : Nums W a n cap L) :
    Calls Try.prog 6 #[.agg #[.int .i64 S, .int .i64 R, .slice a n cap]] W fun e w' => e = .returned (.bool true) ∧ Below W.heap.size W w' := by
  have HN := Lib.hid hn
  have hz2 := zeroSys
  clear hn
  go_enter Try.func6, Try.ntmps6
  go_upto_region 1 with fail
  refine gen_world (fun v => Below W.heap.size W v ∧ v.heap[W.heap.size]? = some (.cells #[.int .i64 S, .int .i64 R, .slice a n cap] 24 (0, 0))) ⟨(by repeat (first | exact Below.refl _ _ | (with_reducible assumption) | refine bw_alloc ?_ _ | refine bw_drew ?_)), heap_alloc_new W _⟩ ?_
  intro W1 ⟨hl1, hb0⟩
  have HL1 := Lib.hid hl1
  have HB0 := Lib.hid hb0
  clear hl1 hb0
  go_upto_region 2 with (go_at_call 8; (with_reducible refine (awake_any _).mono ?_); rintro e w1 ⟨rfl, b1⟩; have HL2 := Lib.hid (below_up HL1.out b1); have HB1 := Lib.hid (kept_obj b1 HB0.out); clear b1)
  have d0 : w1.cell? ⟨W.heap.size, 0, none⟩ = some (.int .i64 S) := by rw [blk_cell HB1.out]; rfl
  have d1 : w1.cell? ⟨W.heap.size, 1, none⟩ = some (.int .i64 R) := by rw [blk_cell HB1.out]; rfl
  have d2 : w1.cell? ⟨W.heap.size, 2, none⟩ = some (.slice a n cap) := by rw [blk_cell HB1.out]; rfl
  have C := Lib.hid (made5_any S R (HN.out.below HL2.out))
  go_upto_region 3 with (go_at_call 10; (with_reducible refine (C.out).mono ?_); rintro e w5 ⟨s, r, a5, N, c5, M, rfl, ho5, hok5, hi5, hm5, b5⟩; have HO5 := Lib.hid ho5; have HT5 := Lib.hid (ho5.tasks hok5); have HM := Lib.hid hm5; have HL5 := Lib.hid (below_up HL2.out b5); clear ho5 hok5 hi5 hm5 b5)
  have hN1 : 0 < N := by have := HM.out.pos; have := HT5.out.len; omega
  have hN6 : N ≤ 6 := by have := HM.out.six; have := HT5.out.len; omega
  have hs1 := HM.out.s1
  have hs8 := HM.out.s8
  have hr0 := HM.out.r0
  have hr3 := HM.out.r3
  obtain ⟨g5, o5, rfl⟩ : ∃ g o, a5 = some ⟨g, o, none⟩ := by
    obtain ⟨t0, ht0⟩ := nth_of HT5.out.len hN1
    obtain ⟨g, o, e, _⟩ := HT5.out.view.at_ ht0
    exact ⟨g, o, e⟩
  have HCK : Hid (checkOf s r M = 0) := check_made HM.out
  have HWF := Lib.hid (made_wf HM.out)
  refine gen_world (fun v => Below w5.heap.size w5 v ∧ v.heap[w5.heap.size]? = some (.cells #[.int .i64 s, .int .i64 r, .slice (some ⟨g5, o5, none⟩) N c5] 27 (0, 0))) ⟨(by repeat (first | exact Below.refl _ _ | (with_reducible assumption) | refine bw_alloc ?_ _ | refine bw_drew ?_)), heap_alloc_new w5 _⟩ ?_
  intro W6 ⟨hl6, hs6⟩
  have HL6 := Lib.hid hl6
  have HS6 := Lib.hid hs6
  clear hl6 hs6 C d0 d1 d2 HL1 HL2 HB0 HB1 hz2
  have s0 : W6.cell? ⟨w5.heap.size, 0, none⟩ = some (.int .i64 s) := by rw [blk_cell HS6.out]; rfl
  have s1 : W6.cell? ⟨w5.heap.size, 1, none⟩ = some (.int .i64 r) := by rw [blk_cell HS6.out]; rfl
  have s2 : W6.cell? ⟨w5.heap.size, 2, none⟩ = some (.slice (some ⟨g5, o5, none⟩) N c5) := by rw [blk_cell HS6.out]; rfl
  have e9 := block_of_cell s0
  by_cases h2 : N < 2
  · have d : (N : Int) < 2 := by omega
    clear hN1 hN6
    go_wp2
    go_ret
    exact ⟨rfl, below_up HL5.out HL6.out⟩
  have d : ¬ (N : Int) < 2 := by omega
  have hc5 : N ≤ c5 := HT5.out.le
  have hw1 : IntKind.i64.wrap ((N : Int) - 1) = ((N - 1 : Nat) : Int) := by rw [IntWalk.i64_in _ (by omega)]; omega
  have hsl : N - 1 ≤ c5 := by omega
  go_upto_region 7 with fail
  obtain ⟨V0, hV0⟩ : ∃ V0, W6.alloc (.cells #[.int .i64 s, .int .i64 r, .slice (some ⟨g5, o5, none⟩) (N - 1) c5] 27) = V0 := ⟨_, rfl⟩
  have hgr : GrAt w5 s r (some ⟨g5, o5, none⟩) N c5 W6.heap.size (.slice none 0 0) [] V0.heap.size V0 := by
    rw [← hV0]
    have hs6 := lt_of_block HS6.out
    refine ⟨below_up HL6.out (by repeat (first | exact Below.refl _ _ | (with_reducible assumption) | refine bw_alloc ?_ _ | refine bw_drew ?_)), kept_obj (by repeat (first | exact Below.refl _ _ | (with_reducible assumption) | refine bw_alloc ?_ _ | refine bw_drew ?_)) HS6.out, heap_alloc_new W6 _, OwnI.nil _ _ _, Nat.le_refl _, hs6, by rw [World.size_alloc]; omega⟩
  rw [hV0]
  have HG := Lib.hid hgr
  have hlenM := HT5.out.len
  have HML : Hid (Made s r (M.take (N - 1))) := by
    have := made_less HM.out (by omega)
    rwa [hlenM] at this
  have HCX : Hid (checkOf s r (M.take (N - 1)) = 0) := check_made HML.out
  have HTX := Lib.hid (HT5.out.take (N - 1) (by omega))
  have HWX : Hid (∀ x ∈ M.take (N - 1), I64 x.p ∧ I64 x.id) := fun x hx => HWF.out x (List.mem_of_mem_take hx)
  clear hgr hV0 s0 s1 s2 e9 hw1 hsl d
  go_wp2
  go_loopw [6, 7, 8] (fun v t u wr => ∃ (i : Nat) (au : Option Addr) (cu : Nat), i ≤ N - 1 ∧ u = .int .i64 i ∧ t = .int .i64 (topN r M i) ∧ v = .slice au i cu ∧ Hid (GrAt w5 s r (some ⟨g5, o5, none⟩) N c5 W6.heap.size (.slice au i cu) (idsN M i) V0.heap.size wr)) (fun _ _ u _ => (N - intOf u).toNat)
  case atStart => exact ⟨0, none, 0, Nat.zero_le _, rfl, rfl, rfl, HG⟩
  case round =>
    obtain ⟨i, au, cu, hi, rfl, rfl, rfl, HP⟩ := hrel
    have MK0 : Hid (∀ w', Below wr.heap.size wr w' → (w'.cell? ⟨w5.heap.size, 0, none⟩ = some (.int .i64 s) ∧ w'.cell? ⟨w5.heap.size, 1, none⟩ = some (.int .i64 r) ∧ w'.cell? ⟨w5.heap.size, 2, none⟩ = some (.slice (some ⟨g5, o5, none⟩) N c5) ∧ w'.cell? ⟨W6.heap.size, 0, none⟩ = some (.int .i64 s) ∧ w'.cell? ⟨W6.heap.size, 1, none⟩ = some (.int .i64 r) ∧ w'.cell? ⟨W6.heap.size, 2, none⟩ = some (.slice (some ⟨g5, o5, none⟩) (N - 1 : Nat) c5))) := fun w' hb => by
      have x0 := kept_obj hb HP.out.sb
      have x1 := kept_obj hb HP.out.xb
      exact ⟨by rw [blk_cell x0]; rfl, by rw [blk_cell x0]; rfl, by rw [blk_cell x0]; rfl, by rw [blk_cell x1]; rfl, by rw [blk_cell x1]; rfl, by rw [blk_cell x1]; rfl⟩
    obtain ⟨⟨s0, s1, s2⟩, y0, y1, y2⟩ : (wr.cell? ⟨w5.heap.size, 0, none⟩ = some (.int .i64 s) ∧ wr.cell? ⟨w5.heap.size, 1, none⟩ = some (.int .i64 r) ∧ wr.cell? ⟨w5.heap.size, 2, none⟩ = some (.slice (some ⟨g5, o5, none⟩) N c5)) ∧ (wr.cell? ⟨W6.heap.size, 0, none⟩ = some (.int .i64 s) ∧ wr.cell? ⟨W6.heap.size, 1, none⟩ = some (.int .i64 r) ∧ wr.cell? ⟨W6.heap.size, 2, none⟩ = some (.slice (some ⟨g5, o5, none⟩) (N - 1 : Nat) c5)) := by
      obtain ⟨a1, a2, a3, a4⟩ := MK0.out wr (Below.refl _ _)
      exact ⟨⟨a1, a2, a3⟩, a4⟩
    by_cases hlt : i < N - 1
    · obtain ⟨T, hT⟩ := nth_of hlenM (show i < N by omega)
      have hTM : T ∈ M := List.mem_of_getElem? hT
      have hTX : T ∈ M.take (N - 1) := List.mem_of_getElem? (i := i) (by rw [List.getElem?_take, if_pos hlt]; exact hT)
      have HTA : Hid (At w5 g5 (o5 + i * 7) T) := by
        obtain ⟨g, o, e, h⟩ := HT5.out.view.at_ hT
        cases e
        exact h
      have hi1 : (i : Int) < ((N - 1 : Nat) : Int) := by omega
      have hi0 : (0 : Int) ≤ (i : Int) := by omega
      have XC := Lib.hid (fun v (hb : Below w5.heap.size w5 v) => cOf_any s r T.id (HTX.out.below hb) HWX.out)
      have OC := Lib.hid (fun v (hb : Below w5.heap.size w5 v) => cOf_any s r T.id (HT5.out.below hb) HWF.out)
      have hcx := check_find HCX.out hTX
      have hcm := check_find HCK.out hTM
      have hgw := cg_grows hr0 M T.tk (by omega)
      have HTN := Lib.hid (topN_next (r := r) hT)
      have HIN := Lib.hid (idsN_next hT)
      have HIL := Lib.hid (idsN_len (L := M) (k := i) (by omega))
      rw [hlenM] at hgw
      unfold OneBack at XC OC
      rw [hcx] at XC
      rw [hcm] at OC
      simp only [cgB, Option.isSome] at XC OC
      generalize cgOf r (M.take (N - 1)) T.tk = cx at *
      generalize cgOf r M T.tk = cm at *
      have MK : Hid (∀ w', Below wr.heap.size wr w' → (w'.cell? ⟨w5.heap.size, 0, none⟩ = some (.int .i64 s) ∧ w'.cell? ⟨w5.heap.size, 1, none⟩ = some (.int .i64 r) ∧ w'.cell? ⟨w5.heap.size, 2, none⟩ = some (.slice (some ⟨g5, o5, none⟩) N c5) ∧ w'.cell? ⟨W6.heap.size, 0, none⟩ = some (.int .i64 s) ∧ w'.cell? ⟨W6.heap.size, 1, none⟩ = some (.int .i64 r) ∧ w'.cell? ⟨W6.heap.size, 2, none⟩ = some (.slice (some ⟨g5, o5, none⟩) (N - 1 : Nat) c5) ∧ w'.cell? ⟨g5, o5 + i * 7, none⟩ = some (.int .i64 T.id))) := fun w' hb => by
        obtain ⟨a1, a2, a3, a4, a5, a6⟩ := MK0.out w' hb
        exact ⟨a1, a2, a3, a4, a5, a6, kept_cell (below_up HP.out.low hb) HTA.out.c0⟩
      have t0 := (MK.out wr (Below.refl _ _)).2.2.2.2.2.2
      have HPLOW := Lib.hid HP.out.low
      clear hT hTM hTX hcx hcm MK0
      go_upto_region 12 with fail
      go_cut [9, 10] (fun u v wx => u = .int .i64 cx.b ∧ v = .bool true ∧ Hid (Below wr.heap.size wr wx))
      case first =>
        go_region_held3 (fun w' => w'.cell? ⟨w5.heap.size, 0, none⟩ = some (.int .i64 s) ∧ w'.cell? ⟨w5.heap.size, 1, none⟩ = some (.int .i64 r) ∧ w'.cell? ⟨w5.heap.size, 2, none⟩ = some (.slice (some ⟨g5, o5, none⟩) N c5) ∧ w'.cell? ⟨W6.heap.size, 0, none⟩ = some (.int .i64 s) ∧ w'.cell? ⟨W6.heap.size, 1, none⟩ = some (.int .i64 r) ∧ w'.cell? ⟨W6.heap.size, 2, none⟩ = some (.slice (some ⟨g5, o5, none⟩) (N - 1 : Nat) c5) ∧ w'.cell? ⟨g5, o5 + i * 7, none⟩ = some (.int .i64 T.id)) (exact MK.out _ (by repeat (first | exact Below.refl _ _ | (with_reducible assumption) | refine bw_alloc ?_ _ | refine bw_drew ?_))) (first
          | (go_at_call 15; (with_reducible refine (XC.out _ (below_up HPLOW.out (by repeat (first | exact Below.refl _ _ | (with_reducible assumption) | refine bw_alloc ?_ _ | refine bw_drew ?_)))).mono ?_); rintro e x1 ⟨rfl, b1⟩; have bx1 := below_up (W := wr) (by repeat (first | exact Below.refl _ _ | (with_reducible assumption) | refine bw_alloc ?_ _ | refine bw_drew ?_)) b1; clear b1))
        all_goals
          go_wp2_with fail
          go_meet
          exact ⟨rfl, rfl, Lib.hid (by assumption)⟩
      case rest =>
        obtain ⟨rfl, rfl, HC1⟩ := hcut
        have hC1 := HC1.out
        obtain ⟨s0, s1, s2, y0, y1, y2, t0⟩ := MK.out wc hC1
        go_upto_region 13 with fail
        go_cut [11, 12] (fun u v wx => u = .int .i64 cm.b ∧ v = .bool true ∧ Hid (Below wr.heap.size wr wx))
        case first =>
          go_region_held3 (fun w' => w'.cell? ⟨w5.heap.size, 0, none⟩ = some (.int .i64 s) ∧ w'.cell? ⟨w5.heap.size, 1, none⟩ = some (.int .i64 r) ∧ w'.cell? ⟨w5.heap.size, 2, none⟩ = some (.slice (some ⟨g5, o5, none⟩) N c5) ∧ w'.cell? ⟨W6.heap.size, 0, none⟩ = some (.int .i64 s) ∧ w'.cell? ⟨W6.heap.size, 1, none⟩ = some (.int .i64 r) ∧ w'.cell? ⟨W6.heap.size, 2, none⟩ = some (.slice (some ⟨g5, o5, none⟩) (N - 1 : Nat) c5) ∧ w'.cell? ⟨g5, o5 + i * 7, none⟩ = some (.int .i64 T.id)) (exact MK.out _ (by repeat (first | exact Below.refl _ _ | (with_reducible assumption) | refine bw_alloc ?_ _ | refine bw_drew ?_))) (first
            | (go_at_call 15; (with_reducible refine (OC.out _ (below_up HPLOW.out (by repeat (first | exact Below.refl _ _ | (with_reducible assumption) | refine bw_alloc ?_ _ | refine bw_drew ?_)))).mono ?_); rintro e x1 ⟨rfl, b1⟩; have bx1 := below_up (W := wr) (by repeat (first | exact Below.refl _ _ | (with_reducible assumption) | refine bw_alloc ?_ _ | refine bw_drew ?_)) b1; clear b1))
          all_goals
            go_wp2_with fail
            go_meet
            exact ⟨rfl, rfl, Lib.hid (by assumption)⟩
        case rest =>
          obtain ⟨rfl, rfl, HC2⟩ := hcut
          have H2 := Lib.hid (HP.out.below HC2.out)
          have hC2 := HC2.out
          obtain ⟨s0, s1, s2, y0, y1, y2, t0⟩ := MK.out wc hC2
          have q1 : ¬ cm.b < cx.b := by omega
          generalize topN r M i = z at *
          clear hgw hC1 hC2 MK XC OC HC1
          have e8 := block_of_cell t0
          by_cases hz : z < cm.b
          · have hn := HTN.out
            rw [if_pos hz] at hn
            have HNN := Lib.hid hn
            have mx : ∀ (ts : Array TypeId) (t : TypeId) (w : World), (Builtin.max_ ts t #[.int .i64 z, .int .i64 cm.b]).run Try.prog w = .ok (.int .i64 cm.b) w := fun ts t w => by rw [run_max_int2, if_pos hz]
            clear hz hn
            go_wp2_with (at_builtin; refine wp_ints (m := 1) (l := [T.id]) numI rfl _ _ rfl rfl rfl (H2.out.below (by repeat (first | exact Below.refl _ _ | (with_reducible assumption) | refine bw_alloc ?_ _ | refine bw_drew ?_))).row (Nat.le_trans H2.out.sz ((by repeat (first | exact Below.refl _ _ | (with_reducible assumption) | refine bw_alloc ?_ _ | refine bw_drew ?_)) : Below wc.heap.size wc _).size) (by first | exact ints_new _ _ _ | exact (ints_new _ _ _).below (by repeat (first | exact Below.refl _ _ | (with_reducible assumption) | refine bw_alloc ?_ _ | refine bw_drew ?_))) rfl (by rw [HIL.out]; omega) (fun z => by cases z) (i + 1) (by rw [HIL.out]) ?_; intro a3 k3 w3 o3 g3 l3; have HN2 := Lib.hid ((H2.out.below (by repeat (first | exact Below.refl _ _ | (with_reducible assumption) | refine bw_alloc ?_ _ | refine bw_drew ?_))).push g3 (HIN.out ▸ o3)); clear o3 g3 l3)
            go_roundw
            case rel => exact ⟨i + 1, a3, k3, by omega, by go_num, by rw [HNN.out], rfl, HN2⟩
            case measure => simp [intOf]; omega
          · have hn := HTN.out
            rw [if_neg hz] at hn
            have HNN := Lib.hid hn
            have mx : ∀ (ts : Array TypeId) (t : TypeId) (w : World), (Builtin.max_ ts t #[.int .i64 z, .int .i64 cm.b]).run Try.prog w = .ok (.int .i64 z) w := fun ts t w => by rw [run_max_int2, if_neg hz]
            clear hz hn
            go_wp2_with (at_builtin; refine wp_ints (m := 1) (l := [T.id]) numI rfl _ _ rfl rfl rfl (H2.out.below (by repeat (first | exact Below.refl _ _ | (with_reducible assumption) | refine bw_alloc ?_ _ | refine bw_drew ?_))).row (Nat.le_trans H2.out.sz ((by repeat (first | exact Below.refl _ _ | (with_reducible assumption) | refine bw_alloc ?_ _ | refine bw_drew ?_)) : Below wc.heap.size wc _).size) (by first | exact ints_new _ _ _ | exact (ints_new _ _ _).below (by repeat (first | exact Below.refl _ _ | (with_reducible assumption) | refine bw_alloc ?_ _ | refine bw_drew ?_))) rfl (by rw [HIL.out]; omega) (fun z => by cases z) (i + 1) (by rw [HIL.out]) ?_; intro a3 k3 w3 o3 g3 l3; have HN2 := Lib.hid ((H2.out.below (by repeat (first | exact Below.refl _ _ | (with_reducible assumption) | refine bw_alloc ?_ _ | refine bw_drew ?_))).push g3 (HIN.out ▸ o3)); clear o3 g3 l3)
            go_roundw
            case rel => exact ⟨i + 1, a3, k3, by omega, by go_num, by rw [HNN.out], rfl, HN2⟩
            case measure => simp [intOf]; omega
    · obtain rfl : i = N - 1 := by omega
      obtain ⟨gr1, gr2⟩ := gr_most HM.out
      rw [hlenM] at gr1 gr2
      have hil := idsN_len (L := M) (k := N - 1) (by omega)
      have HIL := Lib.hid hil
      obtain ⟨aa, cc, ee, hints, hle, hmx⟩ := HP.out.row.slice
      rw [hil] at ee
      obtain ⟨rfl, rfl⟩ : au = aa ∧ cu = cc := by injection ee with e1 e2 e3; exact ⟨e1, e3⟩
      have HINTS := Lib.hid hints
      have G1 := Lib.hid (fun v (hb : Below wr.heap.size wr v) => greatest_any s r (HT5.out.below (below_up HP.out.low hb)) HWF.out (idsN M (N - 1)) (N - 1) HIL.out (by omega) au cu (HINTS.out.below hb))
      have G2 := Lib.hid (fun v a3 k3 (hb : Below w5.heap.size w5 v) (hi3 : Ints v a3 (idsN M (N - 1) ++ [77])) => greatest_any s r (HT5.out.below hb) HWF.out (idsN M (N - 1) ++ [77]) (N - 1 + 1) (by rw [List.length_append, HIL.out]; rfl) (by omega) a3 k3 hi3)
      rw [gr1] at G1
      rw [gr2] at G2
      have KC := Lib.hid (fun v (hb : Below w5.heap.size w5 v) => rcheck_any s r (HTX.out.below hb))
      rw [HCX.out] at KC
      have HPLOW := Lib.hid HP.out.low
      generalize topN r M (N - 1) = z at *
      generalize idsN M (N - 1) = U at *
      clear gr1 gr2 hil hints hle hmx ee
      go_upto_region 18 with fail
      go_region_law (first
        | (refine step_ints_g (m := 1) (l := [77]) numI (by first | rfl | go_simp | simp [Region.wanted, yielded]) (.tmp 92) (.tmp 93) rfl (by rfl) (by rfl) (H4.out.below (by repeat (first | exact Below.refl _ _ | (with_reducible assumption) | refine bw_alloc ?_ _ | refine bw_drew ?_))).row (Nat.le_trans H4.out.sz ((by repeat (first | exact Below.refl _ _ | (with_reducible assumption) | refine bw_alloc ?_ _ | refine bw_drew ?_)) : Below w4.heap.size w4 _).size) (by first | exact ints_new _ _ _ | exact (ints_new _ _ _).below (by repeat (first | exact Below.refl _ _ | (with_reducible assumption) | refine bw_alloc ?_ _ | refine bw_drew ?_))) rfl (by rw [HIL.out]; omega) (fun z => by cases z) (N - 1 + 1) (by rw [HIL.out]) ?_
           intro a3 k3 w5x o3 g3 l3
           have H5 := Lib.hid ((H4.out.below (by repeat (first | exact Below.refl _ _ | (with_reducible assumption) | refine bw_alloc ?_ _ | refine bw_drew ?_))).push g3 o3)
           clear o3 g3 l3
           have s0 : w5x.cell? ⟨w5.heap.size, 0, none⟩ = some (.int .i64 s) := (by rw [blk_cell H5.out.sb]; rfl); have s1 : w5x.cell? ⟨w5.heap.size, 1, none⟩ = some (.int .i64 r) := (by rw [blk_cell H5.out.sb]; rfl); have s2 : w5x.cell? ⟨w5.heap.size, 2, none⟩ = some (.slice (some ⟨g5, o5, none⟩) N c5) := (by rw [blk_cell H5.out.sb]; rfl); have y0 : w5x.cell? ⟨W6.heap.size, 0, none⟩ = some (.int .i64 s) := (by rw [blk_cell H5.out.xb]; rfl); have y1 : w5x.cell? ⟨W6.heap.size, 1, none⟩ = some (.int .i64 r) := (by rw [blk_cell H5.out.xb]; rfl); have y2 : w5x.cell? ⟨W6.heap.size, 2, none⟩ = some (.slice (some ⟨g5, o5, none⟩) (N - 1 : Nat) c5) := (by rw [blk_cell H5.out.xb]; rfl); have e8 := block_of_cell s0; have e7 := block_of_cell y0)
        | (go_simp; (with_reducible refine (G1.out _ (by repeat (first | exact Below.refl _ _ | (with_reducible assumption) | refine bw_alloc ?_ _ | refine bw_drew ?_))).mono ?_); rintro e w4 ⟨rfl, b4⟩; have H4 := Lib.hid (HP.out.below (below_up (W := wr) (by repeat (first | exact Below.refl _ _ | (with_reducible assumption) | refine bw_alloc ?_ _ | refine bw_drew ?_)) b4)); have s0 : w4.cell? ⟨w5.heap.size, 0, none⟩ = some (.int .i64 s) := (by rw [blk_cell H4.out.sb]; rfl); have s1 : w4.cell? ⟨w5.heap.size, 1, none⟩ = some (.int .i64 r) := (by rw [blk_cell H4.out.sb]; rfl); have s2 : w4.cell? ⟨w5.heap.size, 2, none⟩ = some (.slice (some ⟨g5, o5, none⟩) N c5) := (by rw [blk_cell H4.out.sb]; rfl); have y0 : w4.cell? ⟨W6.heap.size, 0, none⟩ = some (.int .i64 s) := (by rw [blk_cell H4.out.xb]; rfl); have y1 : w4.cell? ⟨W6.heap.size, 1, none⟩ = some (.int .i64 r) := (by rw [blk_cell H4.out.xb]; rfl); have y2 : w4.cell? ⟨W6.heap.size, 2, none⟩ = some (.slice (some ⟨g5, o5, none⟩) (N - 1 : Nat) c5) := (by rw [blk_cell H4.out.xb]; rfl); have e8 := block_of_cell s0; have e7 := block_of_cell y0; clear b4)
        | (go_simp; (with_reducible refine (G2.out _ _ _ (H5.out.below (by repeat (first | exact Below.refl _ _ | (with_reducible assumption) | refine bw_alloc ?_ _ | refine bw_drew ?_))).low (OwnI.ints (H5.out.below (by repeat (first | exact Below.refl _ _ | (with_reducible assumption) | refine bw_alloc ?_ _ | refine bw_drew ?_))).row)).mono ?_); rintro e w6 ⟨rfl, b6⟩; have H6 := Lib.hid ((H5.out.below (by repeat (first | exact Below.refl _ _ | (with_reducible assumption) | refine bw_alloc ?_ _ | refine bw_drew ?_))).below b6); have s0 : w6.cell? ⟨w5.heap.size, 0, none⟩ = some (.int .i64 s) := (by rw [blk_cell H6.out.sb]; rfl); have s1 : w6.cell? ⟨w5.heap.size, 1, none⟩ = some (.int .i64 r) := (by rw [blk_cell H6.out.sb]; rfl); have s2 : w6.cell? ⟨w5.heap.size, 2, none⟩ = some (.slice (some ⟨g5, o5, none⟩) N c5) := (by rw [blk_cell H6.out.sb]; rfl); have y0 : w6.cell? ⟨W6.heap.size, 0, none⟩ = some (.int .i64 s) := (by rw [blk_cell H6.out.xb]; rfl); have y1 : w6.cell? ⟨W6.heap.size, 1, none⟩ = some (.int .i64 r) := (by rw [blk_cell H6.out.xb]; rfl); have y2 : w6.cell? ⟨W6.heap.size, 2, none⟩ = some (.slice (some ⟨g5, o5, none⟩) (N - 1 : Nat) c5) := (by rw [blk_cell H6.out.xb]; rfl); have e8 := block_of_cell s0; have e7 := block_of_cell y0; clear b6)
        | (go_simp; (with_reducible refine (KC.out _ (below_up H6.out.low (by repeat (first | exact Below.refl _ _ | (with_reducible assumption) | refine bw_alloc ?_ _ | refine bw_drew ?_)))).mono ?_); rintro e w7 ⟨rfl, b7⟩; have H7 := Lib.hid (below_up (below_up (W := w5) H6.out.low (by repeat (first | exact Below.refl _ _ | (with_reducible assumption) | refine bw_alloc ?_ _ | refine bw_drew ?_))) b7); clear b7))
      all_goals
        go_wp2
        go_ret
        exact ⟨by first | rfl | simp, below_up HL5.out H7.out⟩
end Go.Proofs.Ytlglncnhhgofoaa
