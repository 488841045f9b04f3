/- Texts of this claim, put together: GR2, GR3, GR6, GS0, GP1, GU, LcmNum, Ref3, GR4. -/
import Derived.Test.YtbliagfmpcmfdaaM1
import Derived.Laws.MakeOwn
import Derived.StillTailTactics
set_option linter.unusedVariables false
set_option linter.unusedSimpArgs false

/-
  The walk over the document's work due.
-/
namespace Go.Proofs.Ytbliagfmpcmfdaa
open Go.RowKit Go.Maps

abbrev NT : TypeId := 46
abbrev GT : TypeId := 68
/-- A number and whether it is one, in a box. -/
def Nm (w : World) (b : Nat) (x : Int) (y : Bool) : Prop := w.heap[b]? = some (.cells #[.int .i64 x, .bool y] NT (0, 0))
theorem Nm.set {w : World} {b : Nat} {x : Int} {y : Bool} (h : Nm w b x y) (x' : Int) (y' : Bool) : Nm ((w.setCell ⟨b, 0, none⟩ (.int .i64 x')).setCell ⟨b, 1, none⟩ (.bool y')) b x' y' := by
  unfold Nm at *
  have h1 := blk_set (o := 0) h (.int .i64 x')
  exact (blk_set (o := 1) h1 (.bool y')).trans rfl
theorem nm_new (w : World) (x : Int) (y : Bool) : Nm (w.alloc (.cells #[.int .i64 x, .bool y] NT)) w.heap.size x y := heap_alloc_new w _
def Gt (w : World) (b : Nat) (x : Int) (y : Bool) : Prop := w.heap[b]? = some (.cells #[.int .u64 x, .bool y] GT (0, 0))
theorem Gt.set {w : World} {b : Nat} {x : Int} {y : Bool} (h : Gt w b x y) (x' : Int) (y' : Bool) : Gt ((w.setCell ⟨b, 0, none⟩ (.int .u64 x')).setCell ⟨b, 1, none⟩ (.bool y')) b x' y' := by
  unfold Gt at *
  have h1 := blk_set (o := 0) h (.int .u64 x')
  exact (blk_set (o := 1) h1 (.bool y')).trans rfl
theorem gt_of {w : World} {b : Nat} {x : Int} {y : Bool} (h : w.heap[b]? = some (.cells #[.int .u64 x, .bool y] GT (0, 0))) : Gt w b x y := h
theorem gt_new (w : World) (x : Int) (y : Bool) : Gt (w.alloc (.cells #[.int .u64 x, .bool y] GT)) w.heap.size x y := heap_alloc_new w _
/-- The boxes: what comes back. -/
structure ROAt (w : World) (V : World) : Prop where
  low : Below w.heap.size w V
  res : Nm V w.heap.size 0 false
theorem ROAt.below {w V V' : World} (h : ROAt w V) (hb : Below V.heap.size V V') : ROAt w V' := ⟨below_up h.low hb, kept_obj hb h.res⟩
/-- What comes back at the end. -/
theorem ROAt.done {w V : World} (h : ROAt w V) (x : Int) (y : Bool) : Nm ((V.setCell ⟨w.heap.size, 0, none⟩ (.int .i64 x)).setCell ⟨w.heap.size, 1, none⟩ (.bool y)) w.heap.size x y ∧ Below w.heap.size w ((V.setCell ⟨w.heap.size, 0, none⟩ (.int .i64 x)).setCell ⟨w.heap.size, 1, none⟩ (.bool y)) :=
  ⟨h.res.set x y, (h.low.setCell (p := ⟨w.heap.size, 0, none⟩) (Nat.le_refl _) _).setCell (p := ⟨w.heap.size, 1, none⟩) (Nat.le_refl _) _⟩

/-- Work due, if demands may be, the time is one, and the work is not too much. -/
def ofA (l : List Dm) (t : Int) : Option Int := if okL l = true ∧ timeB t = true ∧ dueA l t ≤ 4611686018427387904 then some (dueA l t) else none
theorem ofA_bad {l : List Dm} {t : Int} (h : okL l = false ∨ timeB t = false) : ofA l t = none := if_neg fun ⟨a, b, _⟩ => by rcases h with h | h <;> simp_all
theorem ofA_over {l : List Dm} {t : Int} (h : 4611686018427387904 < dueA l t) : ofA l t = none := if_neg fun ⟨_, _, c⟩ => by omega
theorem ofA_is {l : List Dm} {t : Int} (h1 : okL l = true) (h2 : timeB t = true) (h3 : dueA l t ≤ 4611686018427387904) : ofA l t = some (dueA l t) := if_pos ⟨h1, h2, h3⟩
/-- A step of the sum. -/
theorem of_step {s c j : Int} (h0 : 0 ≤ s) (hs : s ≤ 4611686018427387904) (hc : 0 ≤ c) (hj : 0 ≤ j) :
    (mulB c j = true ∧ addB s (mulN c j) = true ∧ addN s (mulN c j) ≤ 4611686018427387904 → addN s (mulN c j) = s + c * j ∧ s + c * j ≤ 4611686018427387904) ∧
    (¬ (mulB c j = true ∧ addB s (mulN c j) = true ∧ addN s (mulN c j) ≤ 4611686018427387904) → 4611686018427387904 < s + c * j) := by
  have hp := Int.mul_nonneg hc hj
  unfold mulB mulN addB addN
  generalize c * j = p at *
  by_cases q : p < 18446744073709551616
  · rw [if_pos q, decide_eq_true q]
    by_cases q2 : s + p < 18446744073709551616
    · rw [if_pos q2, decide_eq_true q2]
      exact ⟨fun ⟨_, _, h⟩ => ⟨rfl, by omega⟩, fun h => by
        rcases Int.lt_or_le 4611686018427387904 (s + p) with z | z
        · exact z
        · exact absurd ⟨rfl, rfl, by omega⟩ h⟩
    · rw [if_neg q2, decide_eq_false q2]
      exact ⟨fun ⟨_, h, _⟩ => (by cases h), fun _ => by omega⟩
  · rw [if_neg q, decide_eq_false q]
    exact ⟨fun ⟨h, _, _⟩ => (by cases h), fun _ => by omega⟩

set_option maxRecDepth 100000 in
set_option maxHeartbeats 8000000 in
theorem rof_any (l : List Dm) (n c : Nat) (hl : l.length = n) (hn : (n : Int) ≤ 9223372036854775807) (a : Option Addr) (t : Int) (w : World) (hv : GView w a l) :
    Calls Try.prog 20 #[.slice a n c, .int .i64 t] w fun e w' => e = .returned (.agg #[.int .i64 ((ofA l t).getD 0), .bool (ofA l t).isSome]) ∧ Below w.heap.size w w' := by
  have HV := Lib.hid hv
  have HL := Lib.hid hl
  have RC := Lib.hid (fun v (hb : Below w.heap.size w v) => rcheck_any l n c hl hn a v (hv.below hb))
  have TC := Lib.hid (fun v => rtime_any t v)
  clear hv hl
  obtain ⟨b1, hb1⟩ : ∃ b1, okL l = b1 := ⟨_, rfl⟩
  obtain ⟨b2, hb2⟩ : ∃ b2, timeB t = b2 := ⟨_, rfl⟩
  have HB1 := Lib.hid hb1
  have HB2 := Lib.hid hb2
  rw [hb1] at RC
  rw [hb2] at TC
  clear hb1 hb2
  go_enter Try.func20, Try.ntmps20
  go_upto_region 1 with fail
  refine gen_world (ROAt w) ⟨(by repeat (first | exact Below.refl _ _ | (with_reducible assumption) | refine bw_alloc ?_ _ | refine bw_drew ?_)), nm_new w 0 false⟩ ?_
  intro V0 hv0
  have HV0 := Lib.hid hv0
  clear hv0
  go_upto_region 3 with (first
    | (go_at_call 26; (with_reducible refine (RC.out _ HV0.out.low).mono ?_); rintro e w1 ⟨rfl, bx1⟩; have HV1 := Lib.hid (HV0.out.below bx1); clear bx1)
    | (go_at_call 37; (with_reducible refine (TC.out _).mono ?_); rintro e w2 ⟨rfl, rfl⟩))
  clear HV0 RC TC
  by_cases hbad : b1 = false ∨ b2 = false
  · have HN : Hid (ofA l t = none) := ofA_bad (by have := HB1.out; have := HB2.out; rcases hbad with h | h <;> simp_all)
    have hr := HV1.out.res
    have f0 := blk_free hr 0
    have f1 := blk_free hr 1
    have r0 : w1.cell? ⟨w.heap.size, 0, none⟩ = some (.int .i64 0) := by rw [blk_cell hr]; rfl
    have r1 : w1.cell? ⟨w.heap.size, 1, none⟩ = some (.bool false) := by rw [blk_cell hr]; rfl
    have HD := Lib.hid (HV1.out.done 0 false)
    clear hr HB1 HB2
    have hcs : b1 = false ∨ (b1 = true ∧ b2 = false) := by
      rcases hbad with h | h
      · exact .inl h
      · cases b1
        · exact .inl rfl
        · exact .inr ⟨rfl, h⟩
    clear hbad
    rcases hcs with rfl | ⟨rfl, rfl⟩
    · go_wp2_with fail
      obtain ⟨hd, hlow⟩ := HD.out
      unfold Nm at hd
      have y0 := blk_cell (o := 0) hd
      have y1 := blk_cell (o := 1) hd
      refine bodyPost_ret (v := .agg #[.int .i64 0, .bool false]) ?_ rfl ⟨by rw [HN.out]; rfl, hlow⟩
      simp [results, Try.results20, go_sem, y0, y1]
    · go_wp2_with fail
      obtain ⟨hd, hlow⟩ := HD.out
      unfold Nm at hd
      have y0 := blk_cell (o := 0) hd
      have y1 := blk_cell (o := 1) hd
      refine bodyPost_ret (v := .agg #[.int .i64 0, .bool false]) ?_ rfl ⟨by rw [HN.out]; rfl, hlow⟩
      simp [results, Try.results20, go_sem, y0, y1]
  obtain rfl : b1 = true := by cases b1 with | true => rfl | false => exact absurd (.inl rfl) hbad
  obtain rfl : b2 = true := by cases b2 with | true => rfl | false => exact absurd (.inr rfl) hbad
  clear hbad
  have HOK := Lib.hid ((okL_iff.1 HB1.out).1)
  have HT := Lib.hid (timeB_iff.1 HB2.out)
  go_upto_block 0 with fail
  go_cut [7] (fun u wx => ∃ s : Int, u = .int .u64 s ∧ Hid (s = dueA l t ∧ s ≤ 4611686018427387904) ∧ Hid (ROAt w wx))
  case first =>
    go_wp2
    go_loopw [7, 8] (fun g u wr => ∃ k : Nat, k ≤ n ∧ u = .int .i64 k ∧ g = .int .u64 (dueN l t k) ∧ Hid (dueN l t k ≤ 4611686018427387904) ∧ Hid (ROAt w wr)) (fun _ u _ => (n - intOf u).toNat)
    case atStart => exact ⟨0, Nat.zero_le _, rfl, rfl, by show (0 : Int) ≤ _; omega, HV1⟩
    case round =>
      obtain ⟨k, hk, rfl, rfl, HS, HP⟩ := hrel
      clear HV1
      by_cases hlt : k < n
      · obtain ⟨x, hx⟩ := nth_of HL.out hlt
        have hxm := List.mem_of_getElem? hx
        have hxo := HOK.out x hxm
        obtain ⟨g, o, rfl, ⟨c0, c1, c2⟩⟩ := (HV.out.below HP.out.low).at_ hx
        have hk1 : (k : Int) < (n : Int) := by omega
        have hk0 : (0 : Int) ≤ (k : Int) := by omega
        have HN := Lib.hid (due_next (t := t) hx)
        have hs0 : 0 ≤ dueN l t k := due_mono HOK.out t (Nat.zero_le k)
        have HTOP : Hid (dueN l t (k + 1) ≤ dueA l t) := due_mono HOK.out t (by have := HL.out; omega)
        have hj0 := jobs_nonneg hxo t
        have hj1 := jobs_top hxo HT.out.2
        have JC := Lib.hid (fun v => rjobs_any x hxo t (by have := HT.out.1; omega) HT.out.2 v)
        have hcx0 := hxo.c0
        have hcx1 := hxo.c1
        have HST := Lib.hid (of_step hs0 HS.out hcx0 hj0)
        obtain ⟨j, hj⟩ : ∃ j, jobsD x t = j := ⟨_, rfl⟩
        rw [hj] at hj0 hj1 JC HST HN
        obtain ⟨sm, hsm⟩ : ∃ sm, dueN l t k = sm := ⟨_, rfl⟩
        rw [hsm] at hs0 HST HN HS
        rw [hsm]
        have e1 : IntKind.u64.wrap x.c = x.c := IntWalk.u64_in _ (by omega)
        have e2 : IntKind.u64.wrap j = j := IntWalk.u64_in _ (by omega)
        have MC := Lib.hid (fun v => rmul_any x.c j ⟨hcx0, by omega⟩ ⟨hj0, by omega⟩ v)
        have hm64 : U64 (mulN x.c j) := mulN_u64 ⟨hcx0, by omega⟩ ⟨hj0, by omega⟩
        have AC := Lib.hid (fun v => radd_any sm (mulN x.c j) ⟨hs0, by have := HS.out; omega⟩ hm64 v)
        have ha64 : U64 (addN sm (mulN x.c j)) := addN_u64 ⟨hs0, by have := HS.out; omega⟩ hm64
        obtain ⟨M, hM⟩ : ∃ M, mulN x.c j = M := ⟨_, rfl⟩
        obtain ⟨mb, hmb⟩ : ∃ mb, mulB x.c j = mb := ⟨_, rfl⟩
        rw [hM] at AC HST MC
        rw [hmb] at HST MC
        obtain ⟨A1, hA1⟩ : ∃ A1, addN sm M = A1 := ⟨_, rfl⟩
        obtain ⟨ab, hab⟩ : ∃ ab, addB sm M = ab := ⟨_, rfl⟩
        rw [hA1, hab] at AC HST
        have HC := Lib.hid (fun w' (hb : Below wr.heap.size wr w') => And.intro (kept_cell hb c0) (And.intro (kept_cell hb c1) (kept_cell hb c2)))
        clear hx hxm hxo hj hsm hcx0 hcx1 hj0 hj1 hs0 hm64 ha64 hM hmb hA1 hab HS
        go_upto_region 9 with fail
        go_cut [9] (fun u wx => ∃ gx : Nat, u = .pointer (some ⟨gx, 0, none⟩) ∧ Hid (Gt wx gx M mb) ∧ Hid (Below wr.heap.size wr wx))
        case first =>
          go_region_held3 (fun w' => w'.cell? ⟨g, o + k * 3, none⟩ = some (.int .i64 x.c) ∧ w'.cell? ⟨g, o + k * 3 + 1, none⟩ = some (.int .i64 x.d) ∧ w'.cell? ⟨g, o + k * 3 + 2, none⟩ = some (.int .i64 x.t)) (exact HC.out _ (by repeat (first | exact Below.refl _ _ | (with_reducible assumption) | refine bw_drew ?_ | refine bw_alloc ?_ _ | refine Below.setCell ?_ (by show _ ≤ _; first | exact Nat.le_refl _ | exact bx1.size) _))) (first
            | (go_at_call 39; (with_reducible refine (Calls.upV (V := wr) (by repeat (first | exact Below.refl _ _ | (with_reducible assumption) | refine bw_alloc ?_ _ | refine bw_drew ?_)) (JC.out _)).mono ?_); rintro e wj ⟨rfl, bzj, bx1⟩; (try (have hqj : wj.heap[wr.heap.size]? = some (.cells #[.int .u64 0, .bool false] GT (0, 0)) := kept_obj bzj (heap_alloc_new wr.drew _))); clear bzj)
            | (go_at_call 38; (with_reducible refine (Calls.upV (V := wr) (by repeat (first | exact Below.refl _ _ | (with_reducible assumption) | refine bw_alloc ?_ _ | refine bw_drew ?_)) (MC.out _)).mono ?_); rintro e wx ⟨rfl, bz, bx2⟩; (first | (have hq := kept_obj bz hqj; have z0 : wx.cell? ⟨wr.heap.size, 0, none⟩ = some (.int .u64 0) := (by rw [blk_cell hq]; rfl); have z1 : wx.cell? ⟨wr.heap.size, 1, none⟩ = some (.bool false) := (by rw [blk_cell hq]; rfl); have f0 : wx.frozen? ⟨wr.heap.size, 0, none⟩ = false := blk_free hq 0; have f1 : wx.frozen? ⟨wr.heap.size, 1, none⟩ = false := blk_free hq 1; have HQ : Hid (Gt wx (wr.heap.size) 0 false) := hq; clear hq) | (have hq : wx.heap[wj.heap.size]? = some (.cells #[.int .u64 0, .bool false] GT (0, 0)) := kept_obj bz (heap_alloc_new wj _); have z0 : wx.cell? ⟨wj.heap.size, 0, none⟩ = some (.int .u64 0) := (by rw [blk_cell hq]; rfl); have z1 : wx.cell? ⟨wj.heap.size, 1, none⟩ = some (.bool false) := (by rw [blk_cell hq]; rfl); have f0 : wx.frozen? ⟨wj.heap.size, 0, none⟩ = false := blk_free hq 0; have f1 : wx.frozen? ⟨wj.heap.size, 1, none⟩ = false := blk_free hq 1; have HQ : Hid (Gt wx (wj.heap.size) 0 false) := hq; clear hq) | skip); clear bz))
          all_goals
            go_wp2_with fail
            go_meet
            first
              | with_reducible exact ⟨_, rfl, Lib.hid (Gt.set HQ.out M mb), Lib.hid (by repeat (first | (with_reducible assumption) | refine bw_alloc ?_ _ | refine Below.setCell ?_ (by show _ ≤ _; first | exact Nat.le_refl _ | exact bx1.size) _))⟩
              | with_reducible exact ⟨wx.heap.size, rfl, Lib.hid (gt_new wx _ _), Lib.hid (by repeat (first | (with_reducible assumption) | refine bw_alloc ?_ _))⟩
        case rest =>
          obtain ⟨gx, rfl, HX, HB⟩ := hcut
          have HPW := Lib.hid (HP.out.below HB.out)
          clear MC JC HC HP HB
          have x0 : wc.cell? ⟨gx, 0, none⟩ = some (.int .u64 M) := by rw [blk_cell HX.out]; rfl
          go_upto_region 11 with (go_at_call 40; (with_reducible refine (AC.out _).mono ?_); rintro e w5 ⟨rfl, b5⟩; have HX5 : Hid (Gt w5 gx M mb) := kept_obj b5 HX.out; have HP5 := Lib.hid (HPW.out.below b5); clear b5)
          obtain ⟨gy, hgy⟩ : ∃ gy, w5.heap.size = gy := ⟨_, rfl⟩
          have hq5 := gt_new w5 A1 ab
          rw [hgy] at hq5 ⊢
          refine gen_world (fun v => Gt v gx M mb ∧ Gt v gy A1 ab ∧ ROAt w v) ⟨kept_obj (by repeat (first | exact Below.refl _ _ | (with_reducible assumption) | refine bw_alloc ?_ _ | refine bw_drew ?_)) HX5.out, hq5, HP5.out.below (by repeat (first | exact Below.refl _ _ | (with_reducible assumption) | refine bw_alloc ?_ _ | refine bw_drew ?_))⟩ ?_
          intro V6 ⟨hx6, hy6, hp6⟩
          have HP6 := Lib.hid hp6
          have HY6 := Lib.hid hy6
          have HX6 := Lib.hid hx6
          clear hx6 hy6 hp6 hq5 hgy HX HX5 HP5 HPW AC x0
          have x1 : V6.cell? ⟨gx, 1, none⟩ = some (.bool mb) := by rw [blk_cell HX6.out]; rfl
          have y0 : V6.cell? ⟨gy, 0, none⟩ = some (.int .u64 A1) := by rw [blk_cell HY6.out]; rfl
          have y1 : V6.cell? ⟨gy, 1, none⟩ = some (.bool ab) := by rw [blk_cell HY6.out]; rfl
          by_cases hok : mb = true ∧ ab = true ∧ A1 ≤ 4611686018427387904
          · obtain ⟨rfl, rfl, hA⟩ := hok
            have hst := HST.out.1 ⟨rfl, rfl, hA⟩
            have HNN : Hid (A1 = dueN l t (k + 1) ∧ A1 ≤ 4611686018427387904) := by
              refine ⟨by rw [HN.out]; exact hst.1, by rw [hst.1]; exact hst.2⟩
            have hA' : ¬ 4611686018427387904 < A1 := by omega
            clear hst HST HN HTOP hA
            go_wp2_with fail
            go_roundw
            case rel => exact ⟨k + 1, by omega, by go_num, by rw [HNN.out.1], Lib.hid (by rw [← HNN.out.1]; exact HNN.out.2), HP6⟩
            case measure => simp [intOf]; omega
          · have hst := HST.out.2 hok
            have HNO : Hid (ofA l t = none) := ofA_over (by have := HTOP.out; rw [HN.out] at this; omega)
            have hr := HP6.out.res
            have f0 := blk_free hr 0
            have f1 := blk_free hr 1
            have r0 : V6.cell? ⟨w.heap.size, 0, none⟩ = some (.int .i64 0) := by rw [blk_cell hr]; rfl
            have r1 : V6.cell? ⟨w.heap.size, 1, none⟩ = some (.bool false) := by rw [blk_cell hr]; rfl
            have HD := Lib.hid (HP6.out.done 0 false)
            have hcs : mb = false ∨ (mb = true ∧ ab = false) ∨ (mb = true ∧ ab = true ∧ 4611686018427387904 < A1) := by
              cases mb
              · exact .inl rfl
              · cases ab
                · exact .inr (.inl ⟨rfl, rfl⟩)
                · refine .inr (.inr ⟨rfl, rfl, ?_⟩)
                  rcases Int.lt_or_le 4611686018427387904 A1 with z | z
                  · exact z
                  · exact absurd ⟨rfl, rfl, by omega⟩ hok
            clear hok hst HST HN HTOP hr
            rcases hcs with rfl | ⟨rfl, rfl⟩ | ⟨rfl, rfl, hA⟩
            all_goals
              go_wp2_with fail
              obtain ⟨hd, hlow⟩ := HD.out
              unfold Nm at hd
              have q0 := blk_cell (o := 0) hd
              have q1 := blk_cell (o := 1) hd
              refine bodyPost_ret (v := .agg #[.int .i64 0, .bool false]) ?_ rfl ⟨by rw [HNO.out]; rfl, hlow⟩
              simp [results, Try.results20, go_sem, q0, q1]
      · obtain rfl : k = n := by omega
        have HE : Hid (dueN l t k = dueA l t ∧ dueN l t k ≤ 4611686018427387904) := ⟨by unfold dueA; rw [HL.out], HS.out⟩
        generalize dueN l t k = s at *
        clear HS
        go_wp2_with fail
        go_meet
        exact ⟨s, rfl, HE, HP⟩
  case rest =>
    obtain ⟨s, rfl, HS, HP⟩ := hcut
    have hs1 : s ≤ 4611686018427387904 := HS.out.2
    have hs0 : 0 ≤ s := by rw [HS.out.1]; exact due_nonneg HOK.out t
    have e1 : IntKind.i64.wrap s = s := IntWalk.i64_in _ (by omega)
    have HN : Hid (ofA l t = some s) := by have h := HS.out; show _ = _; rw [h.1] at *; exact ofA_is HB1.out HB2.out h.2
    have hr := HP.out.res
    have f0 := blk_free hr 0
    have f1 := blk_free hr 1
    have r0 : wc.cell? ⟨w.heap.size, 0, none⟩ = some (.int .i64 0) := by rw [blk_cell hr]; rfl
    have r1 : wc.cell? ⟨w.heap.size, 1, none⟩ = some (.bool false) := by rw [blk_cell hr]; rfl
    have HD := Lib.hid (HP.out.done s true)
    clear hr hs1 hs0 HS
    go_wp2_with fail
    obtain ⟨hd, hlow⟩ := HD.out
    unfold Nm at hd
    have q0 := blk_cell (o := 0) hd
    have q1 := blk_cell (o := 1) hd
    refine bodyPost_ret (v := .agg #[.int .i64 s, .bool true]) ?_ rfl ⟨by rw [HN.out]; rfl, hlow⟩
    simp [results, Try.results20, go_sem, q0, q1]
end Go.Proofs.Ytbliagfmpcmfdaa

/-
  The walks over the document's next deadline and the last one.
-/
namespace Go.Proofs.Ytbliagfmpcmfdaa
open Go.RowKit Go.Maps

/-- The next deadline, the last one, if demands may be and the time is one. -/
def nextS (l : List Dm) (t : Int) : Option Int := if okL l = true ∧ timeB t = true then nextA l t else none
def lastS (l : List Dm) (t : Int) : Option Int := if okL l = true ∧ timeB t = true then lastA l t else none
theorem nextS_bad {l : List Dm} {t : Int} (h : okL l = false ∨ timeB t = false) : nextS l t = none := if_neg fun ⟨a, b⟩ => by rcases h with h | h <;> simp_all
theorem lastS_bad {l : List Dm} {t : Int} (h : okL l = false ∨ timeB t = false) : lastS l t = none := if_neg fun ⟨a, b⟩ => by rcases h with h | h <;> simp_all
theorem nextS_is {l : List Dm} {t : Int} (h1 : okL l = true) (h2 : timeB t = true) : nextS l t = nextA l t := if_pos ⟨h1, h2⟩
theorem lastS_is {l : List Dm} {t : Int} (h1 : okL l = true) (h2 : timeB t = true) : lastS l t = lastA l t := if_pos ⟨h1, h2⟩
theorem next_new {l : List Dm} {t : Int} {k : Nat} {x : Dm} (hx : l[k]? = some x) (h : nextN l t k = none) : nextN l t (k + 1) = some (nxtD x t) := by rw [nextN, hx]; dsimp only; rw [h]
theorem next_old {l : List Dm} {t : Int} {k : Nat} {x : Dm} {b : Int} (hx : l[k]? = some x) (h : nextN l t k = some b) : nextN l t (k + 1) = if nxtD x t < b then some (nxtD x t) else some b := by rw [nextN, hx]; dsimp only; rw [h]
theorem last_skip {l : List Dm} {t : Int} {k : Nat} {x : Dm} (hx : l[k]? = some x) (h : jobsD x (t - 1) = 0) : lastN l t (k + 1) = lastN l t k := by rw [lastN, hx]; dsimp only; rw [if_pos h]
theorem last_step {l : List Dm} {t : Int} {k : Nat} {x : Dm} (hx : l[k]? = some x) (h : jobsD x (t - 1) ≠ 0) : lastN l t (k + 1) = if (lastN l t k).getD 0 < prvD x t then some (prvD x t) else lastN l t k := by rw [lastN, hx]; dsimp only; rw [if_neg h]
theorem nxt_top {x : Dm} (h : x.ok) {t : Int} (ht : t ≤ 2199023255552) : jobsD x t * x.t ≤ 2200096997376 ∧ nxtD x t ≤ 2201170739200 ∧ 0 ≤ jobsD x t * x.t := by
  have h1 := h.d1; have h2 := h.d2; have h3 := h.t2
  have hj := jobs_nonneg h t
  have hp := Int.mul_nonneg hj (show 0 ≤ x.t by omega)
  have hf := (jobs_fit h t).2
  unfold nxtD at hf ⊢
  rcases Int.lt_or_le 0 (jobsD x t) with q | q
  · have := hf q; omega
  · have e : jobsD x t = 0 := by omega
    rw [e, Int.zero_mul]; omega
/-- The boxes: what comes back, the best so far. -/
structure RNAt (w : World) (gb : Nat) (o : Option Int) (V : World) : Prop where
  low : Below w.heap.size w V
  res : Nm V w.heap.size 0 false
  bst : Nm V gb (o.getD 0) o.isSome
  lt : w.heap.size < gb
theorem RNAt.below {w V V' : World} {gb : Nat} {o : Option Int} (h : RNAt w gb o V) (hb : Below V.heap.size V V') : RNAt w gb o V' := ⟨below_up h.low hb, kept_obj hb h.res, kept_obj hb h.bst, h.lt⟩
theorem RNAt.put {w V : World} {gb : Nat} {o : Option Int} (h : RNAt w gb o V) (x : Int) : RNAt w gb (some x) ((V.setCell ⟨gb, 0, none⟩ (.int .i64 x)).setCell ⟨gb, 1, none⟩ (.bool true)) :=
  ⟨(h.low.setCell (p := ⟨gb, 0, none⟩) (Nat.le_of_lt h.lt) _).setCell (p := ⟨gb, 1, none⟩) (Nat.le_of_lt h.lt) _, (blk_far (a := ⟨gb, 1, none⟩) (Nat.ne_of_lt h.lt) _).trans ((blk_far (a := ⟨gb, 0, none⟩) (Nat.ne_of_lt h.lt) _).trans h.res), h.bst.set x true, h.lt⟩
theorem RNAt.ro {w V : World} {gb : Nat} {o : Option Int} (h : RNAt w gb o V) : ROAt w V := ⟨h.low, h.res⟩

set_option maxRecDepth 100000 in
set_option maxHeartbeats 8000000 in
theorem rnext_any (l : List Dm) (n c : Nat) (hl : l.length = n) (hn : (n : Int) ≤ 9223372036854775807) (a : Option Addr) (t : Int) (w : World) (hv : GView w a l) :
    Calls Try.prog 21 #[.slice a n c, .int .i64 t] w fun e w' => e = .returned (.agg #[.int .i64 ((nextS l t).getD 0), .bool (nextS l t).isSome]) ∧ Below w.heap.size w w' := by
  have HV := Lib.hid hv
  have HL := Lib.hid hl
  have RC := Lib.hid (fun v (hb : Below w.heap.size w v) => rcheck_any l n c hl hn a v (hv.below hb))
  have TC := Lib.hid (fun v => rtime_any t v)
  clear hv hl
  obtain ⟨b1, hb1⟩ : ∃ b1, okL l = b1 := ⟨_, rfl⟩
  obtain ⟨b2, hb2⟩ : ∃ b2, timeB t = b2 := ⟨_, rfl⟩
  have HB1 := Lib.hid hb1
  have HB2 := Lib.hid hb2
  rw [hb1] at RC
  rw [hb2] at TC
  clear hb1 hb2
  go_enter Try.func21, Try.ntmps21
  go_upto_region 1 with fail
  refine gen_world (fun v => Below w.heap.size w v ∧ Nm v w.heap.size 0 false) ⟨(by repeat (first | exact Below.refl _ _ | (with_reducible assumption) | refine bw_alloc ?_ _ | refine bw_drew ?_)), nm_new w 0 false⟩ ?_
  intro V0 ⟨hl0, hr0⟩
  have HL0 := Lib.hid hl0
  have HR0 := Lib.hid hr0
  clear hl0 hr0
  go_upto_region 2 with (go_at_call 26; (with_reducible refine (RC.out _ HL0.out).mono ?_); rintro e w1 ⟨rfl, bx1⟩; have HL1 := Lib.hid (below_up HL0.out bx1); have HR1 : Hid (Nm w1 w.heap.size 0 false) := kept_obj bx1 HR0.out; clear bx1)
  go_upto_region 3 with (go_at_call 37; (with_reducible refine (TC.out _).mono ?_); rintro e w2 ⟨rfl, rfl⟩)
  go_upto_region 4 with fail
  obtain ⟨gb, hgb⟩ : ∃ gb, w1.heap.size = gb := ⟨_, rfl⟩
  have hgl : w.heap.size < gb := by rw [← hgb]; exact lt_of_block HR1.out
  have hq := nm_new w1 0 false
  rw [hgb] at hq ⊢
  refine gen_world (RNAt w gb none) ⟨below_up HL1.out (by repeat (first | exact Below.refl _ _ | (with_reducible assumption) | refine bw_alloc ?_ _ | refine bw_drew ?_)), kept_obj (by repeat (first | exact Below.refl _ _ | (with_reducible assumption) | refine bw_alloc ?_ _ | refine bw_drew ?_)) HR1.out, hq, hgl⟩ ?_
  intro V3 hv3
  have HV3 := Lib.hid hv3
  clear hv3 hq hgl hgb HL0 HR0 HL1 HR1 RC TC
  go_upto_block 0 with fail
  go_cut [] (fun wx => ∃ p : Option Int, Hid (p = nextS l t) ∧ Hid (RNAt w gb p wx))
  case first =>
    by_cases hbad : b1 = false ∨ b2 = false
    · have HN : Hid (none = nextS l t) := (nextS_bad (by have := HB1.out; have := HB2.out; rcases hbad with h | h <;> simp_all)).symm
      have hcs : b1 = false ∨ (b1 = true ∧ b2 = false) := by
        rcases hbad with h | h
        · exact .inl h
        · cases b1
          · exact .inl rfl
          · exact .inr ⟨rfl, h⟩
      clear hbad HB1 HB2
      by_cases hn0 : n = 0
      · subst hn0
        rcases hcs with rfl | ⟨rfl, rfl⟩
        all_goals
          go_wp2
          go_loopw [8] (fun u wr => u = .int .i64 0 ∧ Hid (RNAt w gb none wr)) (fun _ _ => 0)
          case atStart => exact ⟨rfl, HV3⟩
          case round =>
            obtain ⟨rfl, HP⟩ := hrel
            go_wp2_with fail
            go_meet
            exact ⟨none, HN, HP⟩
      · have hn1 : (0 : Int) < (n : Int) := by omega
        rcases hcs with rfl | ⟨rfl, rfl⟩
        all_goals
          go_wp2
          go_loopw [8] (fun u wr => u = .int .i64 0 ∧ Hid (RNAt w gb none wr)) (fun _ _ => 0)
          case atStart => exact ⟨rfl, HV3⟩
          case round =>
            obtain ⟨rfl, HP⟩ := hrel
            go_wp2_with fail
            go_meet
            exact ⟨none, HN, HP⟩
    obtain rfl : b1 = true := by cases b1 with | true => rfl | false => exact absurd (.inl rfl) hbad
    obtain rfl : b2 = true := by cases b2 with | true => rfl | false => exact absurd (.inr rfl) hbad
    clear hbad
    have HOK := Lib.hid ((okL_iff.1 HB1.out).1)
    have HT := Lib.hid (timeB_iff.1 HB2.out)
    have HNX : Hid (nextA l t = nextS l t) := (nextS_is HB1.out HB2.out).symm
    clear HB1 HB2
    go_wp2
    go_loopw [8] (fun u wr => ∃ (k : Nat) (p : Option Int), k ≤ n ∧ u = .int .i64 k ∧ Hid (p = nextN l t k) ∧ Hid (RNAt w gb p wr)) (fun u _ => (n - intOf u).toNat)
    case atStart => exact ⟨0, none, Nat.zero_le _, rfl, rfl, HV3⟩
    case round =>
      obtain ⟨k, p, hk, rfl, HS, HP⟩ := hrel
      clear HV3
      by_cases hlt : k < n
      · obtain ⟨x, hx⟩ := nth_of HL.out hlt
        have hxo := HOK.out x (List.mem_of_getElem? hx)
        obtain ⟨g, o, rfl, ⟨c0, c1, c2⟩⟩ := (HV.out.below HP.out.low).at_ hx
        have hk1 : (k : Int) < (n : Int) := by omega
        have hk0 : (0 : Int) ≤ (k : Int) := by omega
        obtain ⟨m1, m2, m3⟩ := nxt_top hxo HT.out.2
        have JC := Lib.hid (fun v => rjobs_any x hxo t (by have := HT.out.1; omega) HT.out.2 v)
        have HX := Lib.hid hx
        have hnx : nxtD x t = x.d + jobsD x t * x.t := rfl
        have hd1 := hxo.d1
        obtain ⟨j, hj⟩ : ∃ j, jobsD x t = j := ⟨_, rfl⟩
        rw [hj] at m1 m3 JC hnx
        obtain ⟨y, hy⟩ : ∃ y, nxtD x t = y := ⟨_, rfl⟩
        rw [hy] at m2 hnx
        have HY := Lib.hid hy
        have e1 : IntKind.i64.wrap (j * x.t) = j * x.t := IntWalk.i64_in _ (by omega)
        have e2 : IntKind.i64.wrap (x.d + j * x.t) = y := by rw [← hnx]; exact IntWalk.i64_in _ (by omega)
        have HC := Lib.hid (fun w' (hb : Below wr.heap.size wr w') => And.intro (kept_cell hb c0) (And.intro (kept_cell hb c1) (kept_cell hb c2)))
        clear hx hxo hj hy m1 m2 m3 hnx hd1
        go_upto_region 7 with fail
        go_cut [9] (fun u wx => u = .int .i64 y ∧ Hid (Below wr.heap.size wr wx))
        case first =>
          go_region_held3 (fun w' => w'.cell? ⟨g, o + k * 3, none⟩ = some (.int .i64 x.c) ∧ w'.cell? ⟨g, o + k * 3 + 1, none⟩ = some (.int .i64 x.d) ∧ w'.cell? ⟨g, o + k * 3 + 2, none⟩ = some (.int .i64 x.t)) (exact HC.out _ (by repeat (first | exact Below.refl _ _ | (with_reducible assumption) | refine bw_alloc ?_ _ | refine bw_drew ?_))) (first
            | (go_at_call 39; (with_reducible refine (Calls.upV (V := wr) (by repeat (first | exact Below.refl _ _ | (with_reducible assumption) | refine bw_alloc ?_ _ | refine bw_drew ?_)) (JC.out _)).mono ?_); rintro e wj ⟨rfl, bzj, bx1⟩; clear bzj))
          all_goals
            go_wp2_with fail
            go_meet
            exact ⟨rfl, Lib.hid (by repeat (first | exact Below.refl _ _ | (with_reducible assumption) | refine bw_alloc ?_ _ | refine bw_drew ?_))⟩
        case rest =>
          obtain ⟨rfl, HB⟩ := hcut
          have HPW := Lib.hid (HP.out.below HB.out)
          clear JC HC HP HB e1 e2
          have b0 : wc.cell? ⟨gb, 0, none⟩ = some (.int .i64 (p.getD 0)) := by rw [blk_cell HPW.out.bst]; rfl
          have b1 : wc.cell? ⟨gb, 1, none⟩ = some (.bool p.isSome) := by rw [blk_cell HPW.out.bst]; rfl
          have f0 := blk_free HPW.out.bst 0
          have f1 := blk_free HPW.out.bst 1
          have HPUT := Lib.hid (HPW.out.put y)
          cases p with
          | none =>
            have HN : Hid (some y = nextN l t (k + 1)) := by show _ = _; rw [next_new HX.out HS.out.symm, HY.out]
            clear HX HS HY
            go_wp2_with fail
            go_roundw
            case rel => exact ⟨k + 1, some y, by omega, by go_num, HN, HPUT⟩
            case measure => simp [intOf]; omega
          | some b =>
            have hst := next_old HX.out HS.out.symm
            rw [HY.out] at hst
            by_cases q : y < b
            · rw [if_pos q] at hst
              have HN : Hid (some y = nextN l t (k + 1)) := hst.symm
              have q' : y < (some b).getD 0 := q
              clear HX HS HY hst
              go_wp2_with fail
              go_roundw
              case rel => exact ⟨k + 1, some y, by omega, by go_num, HN, HPUT⟩
              case measure => simp [intOf]; omega
            · rw [if_neg q] at hst
              have HN : Hid (some b = nextN l t (k + 1)) := hst.symm
              clear HX HS HY hst
              go_wp2_with fail
              go_roundw
              case rel => exact ⟨k + 1, some b, by omega, by go_num, HN, HPW⟩
              case measure => simp [intOf]; omega
      · obtain rfl : k = n := by omega
        have HE : Hid (p = nextS l t) := by show _ = _; rw [← HNX.out, HS.out]; unfold nextA; rw [HL.out]
        clear HS
        go_wp2_with fail
        go_meet
        exact ⟨p, HE, HP⟩
  case rest =>
    obtain ⟨p, HE, HP⟩ := hcut
    have hr := HP.out.res
    have hb := HP.out.bst
    have f0 := blk_free hr 0
    have f1 := blk_free hr 1
    have r0 : wc.cell? ⟨w.heap.size, 0, none⟩ = some (.int .i64 0) := by rw [blk_cell hr]; rfl
    have r1 : wc.cell? ⟨w.heap.size, 1, none⟩ = some (.bool false) := by rw [blk_cell hr]; rfl
    have b0 : wc.cell? ⟨gb, 0, none⟩ = some (.int .i64 (p.getD 0)) := by rw [blk_cell hb]; rfl
    have b1 : wc.cell? ⟨gb, 1, none⟩ = some (.bool p.isSome) := by rw [blk_cell hb]; rfl
    have HD := Lib.hid (HP.out.ro.done (p.getD 0) p.isSome)
    obtain ⟨P, hP⟩ : ∃ P, p.getD 0 = P := ⟨_, rfl⟩
    obtain ⟨S, hS⟩ : ∃ S, p.isSome = S := ⟨_, rfl⟩
    have HE2 : Hid ((nextS l t).getD 0 = P ∧ (nextS l t).isSome = S) := by rw [← HE.out]; exact ⟨hP, hS⟩
    rw [hP] at b0 HD
    rw [hS] at b1 HD
    clear hr hb HE hP hS HP
    go_wp2_with fail
    obtain ⟨hd, hlow⟩ := HD.out
    unfold Nm at hd
    have q0 := blk_cell (o := 0) hd
    have q1 := blk_cell (o := 1) hd
    refine bodyPost_ret (v := .agg #[.int .i64 P, .bool S]) ?_ rfl ⟨by rw [HE2.out.1, HE2.out.2], hlow⟩
    simp [results, Try.results21, go_sem, q0, q1]
set_option maxRecDepth 100000 in
set_option maxHeartbeats 8000000 in
theorem rlast_any (l : List Dm) (n c : Nat) (hl : l.length = n) (hn : (n : Int) ≤ 9223372036854775807) (a : Option Addr) (t : Int) (w : World) (hv : GView w a l) :
    Calls Try.prog 22 #[.slice a n c, .int .i64 t] w fun e w' => e = .returned (.agg #[.int .i64 ((lastS l t).getD 0), .bool (lastS l t).isSome]) ∧ Below w.heap.size w w' := by
  have HV := Lib.hid hv
  have HL := Lib.hid hl
  have RC := Lib.hid (fun v (hb : Below w.heap.size w v) => rcheck_any l n c hl hn a v (hv.below hb))
  have TC := Lib.hid (fun v => rtime_any t v)
  clear hv hl
  obtain ⟨b1, hb1⟩ : ∃ b1, okL l = b1 := ⟨_, rfl⟩
  obtain ⟨b2, hb2⟩ : ∃ b2, timeB t = b2 := ⟨_, rfl⟩
  have HB1 := Lib.hid hb1
  have HB2 := Lib.hid hb2
  rw [hb1] at RC
  rw [hb2] at TC
  clear hb1 hb2
  go_enter Try.func22, Try.ntmps22
  go_upto_region 1 with fail
  refine gen_world (fun v => Below w.heap.size w v ∧ Nm v w.heap.size 0 false) ⟨(by repeat (first | exact Below.refl _ _ | (with_reducible assumption) | refine bw_alloc ?_ _ | refine bw_drew ?_)), nm_new w 0 false⟩ ?_
  intro V0 ⟨hl0, hr0⟩
  have HL0 := Lib.hid hl0
  have HR0 := Lib.hid hr0
  clear hl0 hr0
  go_upto_region 2 with (go_at_call 26; (with_reducible refine (RC.out _ HL0.out).mono ?_); rintro e w1 ⟨rfl, bx1⟩; have HL1 := Lib.hid (below_up HL0.out bx1); have HR1 : Hid (Nm w1 w.heap.size 0 false) := kept_obj bx1 HR0.out; clear bx1)
  go_upto_region 3 with (go_at_call 37; (with_reducible refine (TC.out _).mono ?_); rintro e w2 ⟨rfl, rfl⟩)
  go_upto_region 4 with fail
  obtain ⟨gb, hgb⟩ : ∃ gb, w1.heap.size = gb := ⟨_, rfl⟩
  have hgl : w.heap.size < gb := by rw [← hgb]; exact lt_of_block HR1.out
  have hq := nm_new w1 0 false
  rw [hgb] at hq ⊢
  refine gen_world (RNAt w gb none) ⟨below_up HL1.out (by repeat (first | exact Below.refl _ _ | (with_reducible assumption) | refine bw_alloc ?_ _ | refine bw_drew ?_)), kept_obj (by repeat (first | exact Below.refl _ _ | (with_reducible assumption) | refine bw_alloc ?_ _ | refine bw_drew ?_)) HR1.out, hq, hgl⟩ ?_
  intro V3 hv3
  have HV3 := Lib.hid hv3
  clear hv3 hq hgl hgb HL0 HR0 HL1 HR1 RC TC
  go_upto_block 0 with fail
  go_cut [] (fun wx => ∃ p : Option Int, Hid (p = lastS l t) ∧ Hid (RNAt w gb p wx))
  case first =>
    by_cases hbad : b1 = false ∨ b2 = false
    · have HN : Hid (none = lastS l t) := (lastS_bad (by have := HB1.out; have := HB2.out; rcases hbad with h | h <;> simp_all)).symm
      have hcs : b1 = false ∨ (b1 = true ∧ b2 = false) := by
        rcases hbad with h | h
        · exact .inl h
        · cases b1
          · exact .inl rfl
          · exact .inr ⟨rfl, h⟩
      clear hbad HB1 HB2
      by_cases hn0 : n = 0
      · subst hn0
        rcases hcs with rfl | ⟨rfl, rfl⟩
        all_goals
          go_wp2
          go_loopw [8] (fun u wr => u = .int .i64 0 ∧ Hid (RNAt w gb none wr)) (fun _ _ => 0)
          case atStart => exact ⟨rfl, HV3⟩
          case round =>
            obtain ⟨rfl, HP⟩ := hrel
            go_wp2_with fail
            go_meet
            exact ⟨none, HN, HP⟩
      · have hn1 : (0 : Int) < (n : Int) := by omega
        rcases hcs with rfl | ⟨rfl, rfl⟩
        all_goals
          go_wp2
          go_loopw [8] (fun u wr => u = .int .i64 0 ∧ Hid (RNAt w gb none wr)) (fun _ _ => 0)
          case atStart => exact ⟨rfl, HV3⟩
          case round =>
            obtain ⟨rfl, HP⟩ := hrel
            go_wp2_with fail
            go_meet
            exact ⟨none, HN, HP⟩
    obtain rfl : b1 = true := by cases b1 with | true => rfl | false => exact absurd (.inl rfl) hbad
    obtain rfl : b2 = true := by cases b2 with | true => rfl | false => exact absurd (.inr rfl) hbad
    clear hbad
    have HOK := Lib.hid ((okL_iff.1 HB1.out).1)
    have HT := Lib.hid (timeB_iff.1 HB2.out)
    have HNX : Hid (lastA l t = lastS l t) := (lastS_is HB1.out HB2.out).symm
    clear HB1 HB2
    by_cases ht0 : 0 < t
    rotate_left
    · have HE : Hid (none = lastS l t) := by
        show _ = _
        rw [← HNX.out]
        cases e : lastA l t with
        | none => rfl
        | some y =>
          obtain ⟨d1, d2, _⟩ := last_some HOK.out e
          have := dl_pos' HOK.out d1
          omega
      by_cases hn0 : n = 0
      · subst hn0
        go_wp2
        go_loopw [8] (fun u wr => u = .int .i64 0 ∧ Hid (RNAt w gb none wr)) (fun _ _ => 0)
        case atStart => exact ⟨rfl, HV3⟩
        case round =>
          obtain ⟨rfl, HP⟩ := hrel
          go_wp2_with fail
          go_meet
          exact ⟨none, HE, HP⟩
      · have hn1 : (0 : Int) < (n : Int) := by omega
        go_wp2
        go_loopw [8] (fun u wr => u = .int .i64 0 ∧ Hid (RNAt w gb none wr)) (fun _ _ => 0)
        case atStart => exact ⟨rfl, HV3⟩
        case round =>
          obtain ⟨rfl, HP⟩ := hrel
          go_wp2_with fail
          go_meet
          exact ⟨none, HE, HP⟩
    have htw : IntKind.i64.wrap (t - 1) = t - 1 := IntWalk.i64_in _ (by have := HT.out; unfold timeOk at this; omega)
    go_wp2
    go_loopw [8] (fun u wr => ∃ (k : Nat) (p : Option Int), k ≤ n ∧ u = .int .i64 k ∧ Hid (p = lastN l t k) ∧ Hid (RNAt w gb p wr)) (fun u _ => (n - intOf u).toNat)
    case atStart => exact ⟨0, none, Nat.zero_le _, rfl, rfl, HV3⟩
    case round =>
      obtain ⟨k, p, hk, rfl, HS, HP⟩ := hrel
      clear HV3
      by_cases hlt : k < n
      · obtain ⟨x, hx⟩ := nth_of HL.out hlt
        have hxo := HOK.out x (List.mem_of_getElem? hx)
        obtain ⟨g, o, rfl, ⟨c0, c1, c2⟩⟩ := (HV.out.below HP.out.low).at_ hx
        have hk1 : (k : Int) < (n : Int) := by omega
        have hk0 : (0 : Int) ≤ (k : Int) := by omega
        obtain ⟨m1, m2, m3⟩ := nxt_top hxo (t := t - 1) (by have := HT.out.2; omega)
        have JC := Lib.hid (fun v => rjobs_any x hxo (t - 1) (by omega) (by have := HT.out.2; omega) v)
        have HX := Lib.hid hx
        have hd1 := hxo.d1
        have hd2 := hxo.d2
        have hd3 := hxo.t2
        have hj0 := jobs_nonneg hxo (t - 1)
        have hj9 := jobs_top hxo (t := t - 1) (by have := HT.out.2; omega)
        have hst1 := fun h => last_skip (t := t) hx h
        have hst2 := fun h => last_step (t := t) hx h
        have hpv : prvD x t = x.d + (jobsD x (t - 1) - 1) * x.t := rfl
        obtain ⟨j, hj⟩ : ∃ j, jobsD x (t - 1) = j := ⟨_, rfl⟩
        rw [hj] at m1 m3 JC hpv hj0 hj9 hst1 hst2
        have hmul : (j - 1) * x.t = j * x.t - x.t := by rw [Int.sub_mul, Int.one_mul]
        obtain ⟨y, hy⟩ : ∃ y, prvD x t = y := ⟨_, rfl⟩
        rw [hy] at hpv hst2
        have e0 : IntKind.i64.wrap (j - 1) = j - 1 := IntWalk.i64_in _ (by omega)
        have e1 : IntKind.i64.wrap ((j - 1) * x.t) = (j - 1) * x.t := by rw [hmul]; exact IntWalk.i64_in _ (by omega)
        have e2 : IntKind.i64.wrap (x.d + (j - 1) * x.t) = y := by rw [← hpv]; exact IntWalk.i64_in _ (by rw [hpv, hmul]; omega)
        have HC := Lib.hid (fun w' (hb : Below wr.heap.size wr w') => And.intro (kept_cell hb c0) (And.intro (kept_cell hb c1) (kept_cell hb c2)))
        clear hxo hj hy m1 m2 m3 hpv hd1 hd2 hd3 hmul hj9 hj0
        by_cases hj0 : j = 0
        · have hd : (j == 0) = true := by rw [beq_iff_eq]; exact hj0
          have HN : Hid (p = lastN l t (k + 1)) := by show _ = _; rw [hst1 hj0]; exact HS.out
          clear hst1 hst2 hj0 HX HS e0 e1 e2 HC hx
          go_wp2_with (go_at_call 39; (with_reducible refine (JC.out _).mono ?_); rintro e wj ⟨rfl, bj⟩; have HPW := Lib.hid (HP.out.below bj); clear bj)
          go_roundw
          case rel => exact ⟨k + 1, p, by omega, by go_num, HN, HPW⟩
          case measure => simp [intOf]; omega
        · have hd : (j == 0) = false := by rw [beq_eq_false_iff_ne]; exact hj0
          have hst := hst2 hj0
          clear hst1 hst2 hj0 HX hx
          go_upto_region 9 with (go_at_call 39; (with_reducible refine (JC.out _).mono ?_); rintro e wj ⟨rfl, bj⟩; have HPW := Lib.hid (HP.out.below bj); have HCJ := Lib.hid (HC.out _ bj); clear bj)
          obtain ⟨c0, c1, c2⟩ := HCJ.out
          clear HP JC HC HCJ
          refine gen_world (fun v => RNAt w gb p v ∧ v.cell? ⟨g, o + k * 3 + 1, none⟩ = some (.int .i64 x.d) ∧ v.cell? ⟨g, o + k * 3 + 2, none⟩ = some (.int .i64 x.t)) ⟨HPW.out, c1, c2⟩ ?_
          intro V5 ⟨hp5, c1, c2⟩
          have HP5 := Lib.hid hp5
          clear hp5 HPW
          go_quiet (fail)
          go_upto_region 10 with fail
          refine gen_world (RNAt w gb p) (HP5.out.below (below_same (Below.refl _ _) rfl rfl rfl rfl)) ?_
          intro V6 hp6
          have b0 : V6.cell? ⟨gb, 0, none⟩ = some (.int .i64 (p.getD 0)) := by rw [blk_cell hp6.bst]; rfl
          have b1 : V6.cell? ⟨gb, 1, none⟩ = some (.bool p.isSome) := by rw [blk_cell hp6.bst]; rfl
          have f0 := blk_free hp6.bst 0
          have f1 := blk_free hp6.bst 1
          have HP6 := Lib.hid hp6
          have HPUT := Lib.hid (hp6.put y)
          rw [← HS.out] at hst
          obtain ⟨P, hP⟩ : ∃ P, p.getD 0 = P := ⟨_, rfl⟩
          rw [hP] at hst b0
          clear HP5 hp6 hP c0 c1 c2 HS e0 e1 e2
          by_cases q : P < y
          · rw [if_pos q] at hst
            have HN : Hid (some y = lastN l t (k + 1)) := hst.symm
            clear hst
            go_wp2_with fail
            go_roundw
            case rel => exact ⟨k + 1, some y, by omega, by go_num, HN, HPUT⟩
            case measure => simp [intOf]; omega
          · rw [if_neg q] at hst
            have HN : Hid (p = lastN l t (k + 1)) := hst.symm
            clear hst
            go_wp2_with fail
            go_roundw
            case rel => exact ⟨k + 1, p, by omega, by go_num, HN, HP6⟩
            case measure => simp [intOf]; omega
      · obtain rfl : k = n := by omega
        have HE : Hid (p = lastS l t) := by show _ = _; rw [← HNX.out, HS.out]; unfold lastA; rw [HL.out]
        clear HS
        go_wp2_with fail
        go_meet
        exact ⟨p, HE, HP⟩
  case rest =>
    obtain ⟨p, HE, HP⟩ := hcut
    have hr := HP.out.res
    have hb := HP.out.bst
    have f0 := blk_free hr 0
    have f1 := blk_free hr 1
    have r0 : wc.cell? ⟨w.heap.size, 0, none⟩ = some (.int .i64 0) := by rw [blk_cell hr]; rfl
    have r1 : wc.cell? ⟨w.heap.size, 1, none⟩ = some (.bool false) := by rw [blk_cell hr]; rfl
    have b0 : wc.cell? ⟨gb, 0, none⟩ = some (.int .i64 (p.getD 0)) := by rw [blk_cell hb]; rfl
    have b1 : wc.cell? ⟨gb, 1, none⟩ = some (.bool p.isSome) := by rw [blk_cell hb]; rfl
    have HD := Lib.hid (HP.out.ro.done (p.getD 0) p.isSome)
    obtain ⟨P, hP⟩ : ∃ P, p.getD 0 = P := ⟨_, rfl⟩
    obtain ⟨S, hS⟩ : ∃ S, p.isSome = S := ⟨_, rfl⟩
    have HE2 : Hid ((lastS l t).getD 0 = P ∧ (lastS l t).isSome = S) := by rw [← HE.out]; exact ⟨hP, hS⟩
    rw [hP] at b0 HD
    rw [hS] at b1 HD
    clear hr hb HE hP hS HP
    go_wp2_with fail
    obtain ⟨hd, hlow⟩ := HD.out
    unfold Nm at hd
    have q0 := blk_cell (o := 0) hd
    have q1 := blk_cell (o := 1) hd
    refine bodyPost_ret (v := .agg #[.int .i64 P, .bool S]) ?_ rfl ⟨by rw [HE2.out.1, HE2.out.2], hlow⟩
    simp [results, Try.results22, go_sem, q0, q1]
end Go.Proofs.Ytbliagfmpcmfdaa

/-
  The walk over the document's slack.
-/
namespace Go.Proofs.Ytbliagfmpcmfdaa
open Go.RowKit Go.Maps

/-- Slack, if the times may be. -/
def slS (l : List Dm) (fr tt : Int) : Option Int := if okL l = true ∧ timeB fr = true ∧ timeB tt = true ∧ tt - fr ≤ 1048576 then (slkN l fr (tt - fr).toNat).getD none else none
theorem slS_bad {l : List Dm} {fr tt : Int} (h : ¬ (timeB fr = true ∧ timeB tt = true ∧ tt - fr ≤ 1048576)) : slS l fr tt = none := if_neg fun q => h q.2
theorem slS_is {l : List Dm} {fr tt : Int} {p : Option Int} (h0 : okL l = true) (h : timeB fr = true ∧ timeB tt = true ∧ tt - fr ≤ 1048576) (e : slkN l fr (tt - fr).toNat = some p) : slS l fr tt = p := by unfold slS; rw [if_pos ⟨h0, h⟩, e]; rfl
theorem slS_over {l : List Dm} {fr tt : Int} (e : slkN l fr (tt - fr).toNat = none) : slS l fr tt = none := by unfold slS; rw [e]; split <;> rfl
/-- Where the walk from deadline to deadline stands: all times below a are looked at, the next deadline is at b. -/
structure Stand (l : List Dm) (fr tt : Int) (p : Option Int) (a b : Nat) : Prop where
  le : a ≤ b
  sl : slkN l fr a = some p
  no : ∀ i : Nat, a ≤ i → i < b → dlB l (fr + i) = false
  dl : dlB l (fr + b) = true
  bd : fr + a ≤ tt ∨ a = 0
theorem Stand.out {l : List Dm} {fr tt : Int} {p : Option Int} {a b : Nat} (h : Stand l fr tt p a b) (ht : tt ≤ fr + b) : slkN l fr (tt - fr).toNat = some p := by
  rcases Nat.lt_or_ge (tt - fr).toNat a with q | q
  · rcases h.bd with z | z
    · omega
    · omega
  · rw [slk_skip q (fun i h1 h2 => h.no i h1 (by omega))]; exact h.sl
theorem Stand.here {l : List Dm} {fr tt : Int} {p : Option Int} {a b : Nat} (h : Stand l fr tt p a b) : slkN l fr b = some p := by
  rw [slk_skip h.le (fun i h1 h2 => h.no i h1 h2)]; exact h.sl
theorem Stand.over {l : List Dm} {fr tt : Int} {p : Option Int} {a b : Nat} (h : Stand l fr tt p a b) (ht : fr + b < tt) (hw : 4611686018427387904 < dueA l (fr + b)) : slkN l fr (tt - fr).toNat = none := by
  refine slk_bad (a := b + 1) ?_ (by omega)
  rw [slk_next h.here, step_over h.dl hw]
theorem Stand.step {l : List Dm} (hok : ∀ x ∈ l, x.ok) {fr tt : Int} {p : Option Int} {a b : Nat} (h : Stand l fr tt p a b) (ht : fr + b < tt) (hw : dueA l (fr + b) ≤ 4611686018427387904) :
    ∃ y : Int, nextA l (fr + b) = some y ∧ fr + b < y ∧ Stand l fr tt (some (slkMin p (fr + b - dueA l (fr + b)))) (b + 1) (y - fr).toNat ∧ fr + ((y - fr).toNat : Int) = y := by
  cases e : nextA l (fr + b) with
  | none =>
    have := next_nil hok e
    subst this
    have := h.dl
    cases this
  | some y =>
    obtain ⟨y1, y2, y3⟩ := next_some hok e
    have ey : fr + ((y - fr).toNat : Int) = y := by omega
    refine ⟨y, rfl, y2, ⟨by omega, ?_, fun i h1 h2 => ?_, ?_, .inl (by omega)⟩, ey⟩
    · rw [slk_next h.here, step_at h.dl hw]
    · refine dlB_not hok fun hd => ?_
      have := y3 _ hd (by omega); omega
    · rw [ey]; exact (dlB_iff hok).2 y1
theorem stand_first {l : List Dm} (hok : ∀ x ∈ l, x.ok) {fr u : Int} (tt : Int) (hf : 0 ≤ fr) (hu : u = (if 0 < fr then fr - 1 else fr)) {y : Int} (e : nextA l u = some y) : Stand l fr tt none 0 (y - fr).toNat ∧ fr + ((y - fr).toNat : Int) = y := by
  obtain ⟨y1, y2, y3⟩ := next_some hok e
  have hy : fr ≤ y := by split at hu <;> omega
  have ey : fr + ((y - fr).toNat : Int) = y := by omega
  refine ⟨⟨Nat.zero_le _, rfl, fun i h1 h2 => ?_, ?_, .inr rfl⟩, ey⟩
  · refine dlB_not hok fun hd => ?_
    have hp := dl_pos' hok hd
    have := y3 _ hd (by split at hu <;> omega)
    omega
  · rw [ey]; exact (dlB_iff hok).2 y1
theorem slS_nil {fr tt : Int} : slS [] fr tt = none := by
  unfold slS
  split
  · rw [slk_skip (Nat.zero_le _) (fun i _ _ => rfl)]; rfl
  · rfl
/-- The boxes: what comes back, the best so far, the next deadline. -/
structure RSAt (w : World) (gb gx : Nat) (p q : Option Int) (V : World) : Prop where
  low : Below w.heap.size w V
  res : Nm V w.heap.size 0 false
  bst : Nm V gb (p.getD 0) p.isSome
  nxt : Nm V gx (q.getD 0) q.isSome
  l1 : w.heap.size < gb
  l2 : gb < gx
theorem RSAt.below {w V V' : World} {gb gx : Nat} {p q : Option Int} (h : RSAt w gb gx p q V) (hb : Below V.heap.size V V') : RSAt w gb gx p q V' := ⟨below_up h.low hb, kept_obj hb h.res, kept_obj hb h.bst, kept_obj hb h.nxt, h.l1, h.l2⟩
theorem RSAt.ro {w V : World} {gb gx : Nat} {p q : Option Int} (h : RSAt w gb gx p q V) : ROAt w V := ⟨h.low, h.res⟩
theorem nm_far {V : World} {g b : Nat} (h : b ≠ g) (x : Value) (y : Value) : ((V.setCell ⟨g, 0, none⟩ x).setCell ⟨g, 1, none⟩ y).heap[b]? = V.heap[b]? :=
  (blk_far (a := ⟨g, 1, none⟩) h _).trans (blk_far (a := ⟨g, 0, none⟩) h _)
theorem RSAt.putB {w V : World} {gb gx : Nat} {p q : Option Int} (h : RSAt w gb gx p q V) (x : Int) : RSAt w gb gx (some x) q ((V.setCell ⟨gb, 0, none⟩ (.int .i64 x)).setCell ⟨gb, 1, none⟩ (.bool true)) := by
  have h1 := h.l1; have h2 := h.l2
  exact ⟨(h.low.setCell (p := ⟨gb, 0, none⟩) (Nat.le_of_lt h1) _).setCell (p := ⟨gb, 1, none⟩) (Nat.le_of_lt h1) _, (nm_far (by omega) _ _).trans h.res, h.bst.set x true, (nm_far (by omega) _ _).trans h.nxt, h1, h2⟩
theorem RSAt.putX {w V : World} {gb gx : Nat} {p q : Option Int} (h : RSAt w gb gx p q V) (o : Option Int) : RSAt w gb gx p o ((V.setCell ⟨gx, 0, none⟩ (.int .i64 (o.getD 0))).setCell ⟨gx, 1, none⟩ (.bool o.isSome)) := by
  have h1 := h.l1; have h2 := h.l2
  exact ⟨(h.low.setCell (p := ⟨gx, 0, none⟩) (by show _ ≤ gx; omega) _).setCell (p := ⟨gx, 1, none⟩) (by show _ ≤ gx; omega) _, (nm_far (by omega) _ _).trans h.res, (nm_far (by omega) _ _).trans h.bst, h.nxt.set _ _, h1, h2⟩

set_option maxRecDepth 100000 in
set_option maxHeartbeats 8000000 in
theorem rslack_any (l : List Dm) (n c : Nat) (hl : l.length = n) (hn : (n : Int) ≤ 9223372036854775807) (a : Option Addr) (fr tt : Int) (w : World) (hv : GView w a l) :
    Calls Try.prog 27 #[.slice a n c, .int .i64 fr, .int .i64 tt] w fun e w' => e = .returned (.agg #[.int .i64 ((slS l fr tt).getD 0), .bool (slS l fr tt).isSome]) ∧ Below w.heap.size w w' := by
  have NC := Lib.hid (fun v (hb : Below w.heap.size w v) t => rnext_any l n c hl hn a t v (hv.below hb))
  have OC := Lib.hid (fun v (hb : Below w.heap.size w v) t => rof_any l n c hl hn a t v (hv.below hb))
  have TC := Lib.hid (fun t v => rtime_any t v)
  clear hv hl
  obtain ⟨b1, hb1⟩ : ∃ b1, timeB fr = b1 := ⟨_, rfl⟩
  obtain ⟨b2, hb2⟩ : ∃ b2, timeB tt = b2 := ⟨_, rfl⟩
  have HB1 := Lib.hid hb1
  have HB2 := Lib.hid hb2
  have TC1 := Lib.hid (fun v => TC.out fr v)
  have TC2 := Lib.hid (fun v => TC.out tt v)
  rw [hb1] at TC1
  rw [hb2] at TC2
  clear hb1 hb2 TC
  go_enter Try.func27, Try.ntmps27
  go_upto_region 1 with fail
  refine gen_world (ROAt w) ⟨(by repeat (first | exact Below.refl _ _ | (with_reducible assumption) | refine bw_alloc ?_ _ | refine bw_drew ?_)), nm_new w 0 false⟩ ?_
  intro V0 hv0
  have HV0 := Lib.hid hv0
  clear hv0
  go_upto_region 2 with (go_at_call 37; (with_reducible refine (TC1.out _).mono ?_); rintro e w1 ⟨rfl, rfl⟩)
  go_upto_region 3 with (go_at_call 37; (with_reducible refine (TC2.out _).mono ?_); rintro e w2 ⟨rfl, rfl⟩)
  clear TC1 TC2
  by_cases hgood : b1 = true ∧ b2 = true ∧ tt - fr ≤ 1048576
  rotate_left
  · have HN : Hid (slS l fr tt = none) := slS_bad (fun q => hgood ⟨HB1.out.symm.trans q.1, HB2.out.symm.trans q.2.1, q.2.2⟩)
    have hr := HV0.out.res
    have f0 := blk_free hr 0
    have f1 := blk_free hr 1
    have r0 : V0.cell? ⟨w.heap.size, 0, none⟩ = some (.int .i64 0) := by rw [blk_cell hr]; rfl
    have r1 : V0.cell? ⟨w.heap.size, 1, none⟩ = some (.bool false) := by rw [blk_cell hr]; rfl
    have HD := Lib.hid (HV0.out.done 0 false)
    have hcs : b1 = false ∨ (b1 = true ∧ b2 = false) ∨ (b1 = true ∧ b2 = true ∧ 1048576 < IntKind.i64.wrap (tt - fr)) := by
      cases b1
      · exact .inl rfl
      · cases b2
        · exact .inr (.inl ⟨rfl, rfl⟩)
        · refine .inr (.inr ⟨rfl, rfl, ?_⟩)
          have t1 := timeB_iff.1 HB1.out
          have t2 := timeB_iff.1 HB2.out
          unfold timeOk at t1 t2
          rw [IntWalk.i64_in _ (by omega)]
          rcases Int.lt_or_le 1048576 (tt - fr) with z | z
          · exact z
          · exact absurd ⟨rfl, rfl, z⟩ hgood
    clear hgood hr HB1 HB2 OC NC
    rcases hcs with rfl | ⟨rfl, rfl⟩ | ⟨rfl, rfl, hA⟩
    · go_wp2_with fail
      obtain ⟨hd, hlow⟩ := HD.out
      unfold Nm at hd
      have q0 := blk_cell (o := 0) hd
      have q1 := blk_cell (o := 1) hd
      refine bodyPost_ret (v := .agg #[.int .i64 0, .bool false]) ?_ rfl ⟨by rw [HN.out]; rfl, hlow⟩
      simp [results, Try.results27, go_sem, q0, q1]
    · go_wp2_with fail
      obtain ⟨hd, hlow⟩ := HD.out
      unfold Nm at hd
      have q0 := blk_cell (o := 0) hd
      have q1 := blk_cell (o := 1) hd
      refine bodyPost_ret (v := .agg #[.int .i64 0, .bool false]) ?_ rfl ⟨by rw [HN.out]; rfl, hlow⟩
      simp [results, Try.results27, go_sem, q0, q1]
    · obtain ⟨D, hD⟩ : ∃ D, IntKind.i64.wrap (tt - fr) = D := ⟨_, rfl⟩
      rw [hD] at hA
      go_wp2_with fail
      obtain ⟨hd, hlow⟩ := HD.out
      unfold Nm at hd
      have q0 := blk_cell (o := 0) hd
      have q1 := blk_cell (o := 1) hd
      refine bodyPost_ret (v := .agg #[.int .i64 0, .bool false]) ?_ rfl ⟨by rw [HN.out]; rfl, hlow⟩
      simp [results, Try.results27, go_sem, q0, q1]
  obtain ⟨rfl, rfl, hdf⟩ := hgood
  have HG : Hid (timeB fr = true ∧ timeB tt = true ∧ tt - fr ≤ 1048576) := ⟨HB1.out, HB2.out, hdf⟩
  have HT1 := Lib.hid (timeB_iff.1 HB1.out)
  have HT2 := Lib.hid (timeB_iff.1 HB2.out)
  obtain ⟨hfr, hfr1⟩ := HT1.out
  obtain ⟨D, hD, hD1⟩ : ∃ D, IntKind.i64.wrap (tt - fr) = D ∧ ¬ 1048576 < D := ⟨tt - fr, IntWalk.i64_in _ (by have := HT2.out; unfold timeOk at this; omega), by omega⟩
  clear HB1 HB2 hdf
  obtain ⟨u, hu⟩ : ∃ u, (if 0 < fr then fr - 1 else fr) = u := ⟨_, rfl⟩
  have HU := Lib.hid hu
  obtain ⟨o, ho⟩ : ∃ o, nextS l u = o := ⟨_, rfl⟩
  have HO := Lib.hid ho
  clear hu ho
  go_upto_region 5 with fail
  clear hD hD1
  go_upto_region 6 with fail
  obtain ⟨gb, hgb⟩ : ∃ gb, V0.heap.size = gb := ⟨_, rfl⟩
  have hgl : w.heap.size < gb := by rw [← hgb]; exact lt_of_block HV0.out.res
  have hq := nm_new V0 0 false
  rw [hgb] at hq ⊢
  refine gen_world (RNAt w gb none) ⟨below_up HV0.out.low (by repeat (first | exact Below.refl _ _ | (with_reducible assumption) | refine bw_alloc ?_ _ | refine bw_drew ?_)), kept_obj (by repeat (first | exact Below.refl _ _ | (with_reducible assumption) | refine bw_alloc ?_ _ | refine bw_drew ?_)) HV0.out.res, hq, hgl⟩ ?_
  intro V3 hv3
  have HV3 := Lib.hid hv3
  clear hv3 hq hgl hgb HV0
  have NF := Lib.hid (NC.out V3 HV3.out.low fr)
  obtain ⟨o1, ho1⟩ : ∃ o1, nextS l fr = o1 := ⟨_, rfl⟩
  rw [ho1] at NF
  have HO1 := Lib.hid ho1
  obtain ⟨P1, hP1⟩ : ∃ P, o1.getD 0 = P := ⟨_, rfl⟩
  obtain ⟨S1, hS1⟩ : ∃ S, o1.isSome = S := ⟨_, rfl⟩
  rw [hP1, hS1] at NF
  have HPS := Lib.hid (And.intro hP1 hS1)
  clear ho1 hP1 hS1
  go_upto_region 7 with (go_at_call 21; (with_reducible refine NF.out.mono ?_); rintro e w4 ⟨rfl, b4⟩; have HV4 := Lib.hid (HV3.out.below b4); clear b4)
  obtain ⟨gx, hgx⟩ : ∃ gx, w4.heap.size = gx := ⟨_, rfl⟩
  have hgl : gb < gx := by rw [← hgx]; exact lt_of_block HV4.out.bst
  have hq := nm_new w4 P1 S1
  rw [hgx] at hq ⊢
  refine gen_world (RSAt w gb gx none o1) ⟨below_up HV4.out.low (by repeat (first | exact Below.refl _ _ | (with_reducible assumption) | refine bw_alloc ?_ _ | refine bw_drew ?_)), kept_obj (by repeat (first | exact Below.refl _ _ | (with_reducible assumption) | refine bw_alloc ?_ _ | refine bw_drew ?_)) HV4.out.res, kept_obj (by repeat (first | exact Below.refl _ _ | (with_reducible assumption) | refine bw_alloc ?_ _ | refine bw_drew ?_)) HV4.out.bst, kept_obj (Below.refl _ _) (by rw [HPS.out.1, HPS.out.2]; exact hq), HV4.out.lt, hgl⟩ ?_
  intro V5 hv5
  have HV5 := Lib.hid hv5
  clear hv5 hq hgl hgx HV4 HV3 NF HPS
  go_upto_if 34 with fail
  go_cut [] (fun wx => Hid (RSAt w gb gx none o wx))
  case first =>
    by_cases hf : 0 < fr
    · have hfw : IntKind.i64.wrap (fr - 1) = u := by rw [← HU.out, if_pos hf]; exact IntWalk.i64_in _ (by omega)
      have NF := Lib.hid (NC.out V5 HV5.out.low u)
      rw [HO.out] at NF
      have hr := HV5.out.nxt
      obtain ⟨P, hP⟩ : ∃ P, o.getD 0 = P := ⟨_, rfl⟩
      obtain ⟨S, hS⟩ : ∃ S, o.isSome = S := ⟨_, rfl⟩
      have HPUT := Lib.hid (fun V (h : RSAt w gb gx none o1 V) => h.putX o)
      rw [hP, hS] at NF HPUT
      clear hP hS hr
      go_wp2_with (go_at_call 21; (with_reducible refine NF.out.mono ?_); rintro e w6 ⟨rfl, b6⟩; have HV6 := Lib.hid (HV5.out.below b6); clear b6; have f0 := blk_free HV6.out.nxt 0; have f1 := blk_free HV6.out.nxt 1; have r0 : w6.cell? ⟨gx, 0, none⟩ = some (.int .i64 (o1.getD 0)) := (by rw [blk_cell HV6.out.nxt]; rfl); have r1 : w6.cell? ⟨gx, 1, none⟩ = some (.bool o1.isSome) := (by rw [blk_cell HV6.out.nxt]; rfl))
      go_meet
      exact Lib.hid (HPUT.out _ HV6.out)
    · have HE : Hid (o1 = o) := by show _ = _; rw [← HO1.out, ← HO.out, ← HU.out, if_neg hf]
      go_wp2_with fail
      go_meet
      rw [← HE.out]
      exact HV5
  case rest =>
    have HV6 := hcut
    clear hcut HV5 HO1 hfr1
    go_upto_block 0 with fail
    go_cut [] (fun wx => ∃ p : Option Int, Hid (p = slS l fr tt) ∧ Hid (∃ q, RSAt w gb gx p q wx))
    case first =>
      cases o with
      | none =>
        have HE : Hid (none = slS l fr tt) := by
          show _ = _
          by_cases hok : okL l = true
          · have ht : timeB u = true := by
              have h1 := HT1.out
              have h2 := HU.out
              unfold timeOk at h1
              exact timeB_iff.2 ⟨by split at h2 <;> omega, by split at h2 <;> omega⟩
            have e := HO.out
            rw [nextS_is hok ht] at e
            have := next_nil (okL_iff.1 hok).1 e
            rw [this, slS_nil]
          · exact (if_neg fun q => hok q.1).symm
        go_wp2
        go_loopw [] (fun wr => Hid (RSAt w gb gx none none wr)) (fun _ => 0)
        case atStart => exact HV6
        case round =>
          have HP := hrel
          clear hrel
          have x0 : wr.cell? ⟨gx, 0, none⟩ = some (.int .i64 0) := by rw [blk_cell HP.out.nxt]; rfl
          have x1 : wr.cell? ⟨gx, 1, none⟩ = some (.bool false) := by rw [blk_cell HP.out.nxt]; rfl
          go_wp2_with fail
          go_meet
          exact ⟨none, HE, Lib.hid ⟨none, HP.out⟩⟩
      | some y =>
        have hok : okL l = true := by
          cases e : okL l with
          | true => rfl
          | false => have := HO.out; rw [nextS_bad (.inl e)] at this; cases this
        have HOK := Lib.hid ((okL_iff.1 hok).1)
        have ht : timeB u = true := by
          cases e : timeB u with
          | true => rfl
          | false => have := HO.out; rw [nextS_bad (.inr e)] at this; cases this
        have e := HO.out
        rw [nextS_is hok ht] at e
        obtain ⟨hst, hey⟩ := stand_first HOK.out tt hfr HU.out.symm e
        rw [← hey] at HV6
        have HST := Lib.hid hst
        have HIS := Lib.hid (fun p => slS_is (p := p) hok HG.out)
        have HOKL := Lib.hid hok
        clear hok ht e hst hey HO HU
        generalize (y - fr).toNat = b0 at *
        go_wp2
        go_loopw [] (fun wr => ∃ (p : Option Int) (a b : Nat), Hid (Stand l fr tt p a b) ∧ Hid (RSAt w gb gx p (some (fr + b)) wr)) (fun wr => (tt - intOf ((wr.cell? ⟨gx, 0, none⟩).getD (.int .i64 0))).toNat)
        case atStart => exact ⟨none, 0, b0, HST, HV6⟩
        case round =>
          obtain ⟨p, a0, b, HS, HP⟩ := hrel
          obtain ⟨X, hX⟩ : ∃ X, fr + (b : Int) = X := ⟨_, rfl⟩
          have HX := Lib.hid hX
          rw [hX] at HP
          have x0 : wr.cell? ⟨gx, 0, none⟩ = some (.int .i64 X) := by rw [blk_cell HP.out.nxt]; rfl
          have x1 : wr.cell? ⟨gx, 1, none⟩ = some (.bool true) := by rw [blk_cell HP.out.nxt]; rfl
          have HXW := Lib.hid x0
          by_cases hlt : X < tt
          rotate_left
          · have HE : Hid (p = slS l fr tt) := (HIS.out p (HS.out.out (by omega))).symm
            clear HIS HS hX
            go_wp2_with fail
            go_meet
            exact ⟨p, HE, Lib.hid ⟨_, HP.out⟩⟩
          have hX0 : 0 ≤ X ∧ X ≤ 2199023255552 := by have := HT2.out.2; omega
          have HTX : Hid (timeB X = true) := timeB_iff.2 hX0
          have OF := Lib.hid (OC.out wr HP.out.low X)
          have HNX := Lib.hid (fun v hb => NC.out v hb X)
          by_cases hw : dueA l X ≤ 4611686018427387904
          rotate_left
          · have HE : Hid (slS l fr tt = none) := slS_over (HS.out.over (by omega) (by rw [hX]; omega))
            rw [ofA_over (show 4611686018427387904 < dueA l X by omega)] at OF
            clear hw HIS HS HTX HNX hX0 hX
            go_upto_region 11 with (go_at_call 20; (with_reducible refine OF.out.mono ?_); rintro e w5 ⟨rfl, b5⟩; have HP5 := Lib.hid (HP.out.below b5); clear b5)
            obtain ⟨gy, hgy⟩ : ∃ gy, w5.heap.size = gy := ⟨_, rfl⟩
            have hq := nm_new w5 0 false
            rw [hgy] at hq
            have hq' : Nm (w5.alloc (.cells #[.int .i64 ((none : Option Int).getD 0), .bool (none : Option Int).isSome] NT)) gy 0 false := hq
            rw [hgy]
            refine gen_world (fun v => RSAt w gb gx p (some X) v ∧ Nm v gy 0 false) ⟨HP5.out.below (by repeat (first | exact Below.refl _ _ | (with_reducible assumption) | refine bw_alloc ?_ _ | refine bw_drew ?_)), hq'⟩ ?_
            intro V6 ⟨hp6, hy6⟩
            have hr := hp6.res
            have f0 := blk_free hr 0
            have f1 := blk_free hr 1
            have r0 : V6.cell? ⟨w.heap.size, 0, none⟩ = some (.int .i64 0) := by rw [blk_cell hr]; rfl
            have r1 : V6.cell? ⟨w.heap.size, 1, none⟩ = some (.bool false) := by rw [blk_cell hr]; rfl
            have y1 : V6.cell? ⟨gy, 1, none⟩ = some (.bool false) := by rw [blk_cell hy6]; rfl
            have HD := Lib.hid (hp6.ro.done 0 false)
            clear hr hp6 hy6 hq hq' HP HP5 OF x0 x1 hgy
            go_wp2_with fail
            obtain ⟨hd, hlow⟩ := HD.out
            unfold Nm at hd
            have q0 := blk_cell (o := 0) hd
            have q1 := blk_cell (o := 1) hd
            refine bodyPost_ret (v := .agg #[.int .i64 0, .bool false]) ?_ rfl ⟨by rw [HE.out]; rfl, hlow⟩
            simp [results, Try.results27, go_sem, q0, q1]
          · obtain ⟨y', hy1, hy2, hst, hey⟩ := HS.out.step HOK.out (show fr + (b : Int) < tt by omega) (by rw [hX]; exact hw)
            rw [hX] at hy1 hy2 hst
            have hnx : nextS l X = some y' := (nextS_is HOKL.out HTX.out).trans hy1
            rw [ofA_is HOKL.out HTX.out hw] at OF
            have hd0 := due_nonneg HOK.out X
            rw [hnx] at HNX
            obtain ⟨dv, hdv⟩ : ∃ dv, dueA l X = dv := ⟨_, rfl⟩
            rw [hdv] at OF hst hw hd0
            obtain ⟨v, hv⟩ : ∃ v, X - dv = v := ⟨_, rfl⟩
            have e1 : IntKind.i64.wrap (X - dv) = v := by rw [← hv]; exact IntWalk.i64_in _ (by omega)
            rw [hv] at hst
            have HST2 := Lib.hid hst
            have HEY := Lib.hid hey
            have HY2 : Hid (X < y') := hy2
            clear hy1 hy2 hst hey hnx hd0 hw hdv hv HS HIS HTX hX0 hX
            generalize (y' - fr).toNat = b2 at *
            go_upto_region 11 with (go_at_call 20; (with_reducible refine OF.out.mono ?_); rintro e w5 ⟨rfl, b5⟩; have HP5 := Lib.hid (HP.out.below b5); clear b5)
            obtain ⟨gy, hgy⟩ : ∃ gy, w5.heap.size = gy := ⟨_, rfl⟩
            have hq := nm_new w5 dv true
            have hq' : Nm (w5.alloc (.cells #[.int .i64 ((some dv : Option Int).getD 0), .bool (some dv : Option Int).isSome] NT)) gy dv true := by rw [← hgy]; exact hq
            rw [hgy]
            refine gen_world (fun v => RSAt w gb gx p (some X) v ∧ Nm v gy dv true) ⟨HP5.out.below (by repeat (first | exact Below.refl _ _ | (with_reducible assumption) | refine bw_alloc ?_ _ | refine bw_drew ?_)), hq'⟩ ?_
            intro V6 ⟨hp6, hy6⟩
            have HP6 := Lib.hid hp6
            have x0 : V6.cell? ⟨gx, 0, none⟩ = some (.int .i64 X) := by rw [blk_cell hp6.nxt]; rfl
            have y0 : V6.cell? ⟨gy, 0, none⟩ = some (.int .i64 dv) := by rw [blk_cell hy6]; rfl
            have y1 : V6.cell? ⟨gy, 1, none⟩ = some (.bool true) := by rw [blk_cell hy6]; rfl
            have b0 : V6.cell? ⟨gb, 0, none⟩ = some (.int .i64 (p.getD 0)) := by rw [blk_cell hp6.bst]; rfl
            have b1 : V6.cell? ⟨gb, 1, none⟩ = some (.bool p.isSome) := by rw [blk_cell hp6.bst]; rfl
            have f0 := blk_free hp6.bst 0
            have f1 := blk_free hp6.bst 1
            clear hp6 hy6 hq hq' HP HP5 OF hgy
            cases p with
            | none =>
              have HZ := Lib.hid (HP6.out.putB v)
              go_upto_region 15 with fail
              refine gen_world (RSAt w gb gx (some (slkMin (none) v)) (some X)) HZ.out ?_
              intro V7 hp7
              have HP7 := Lib.hid hp7
              clear hp7 HP6 HZ y0 y1 b0 b1 f0 f1 x0
              have x0 : V7.cell? ⟨gx, 0, none⟩ = some (.int .i64 X) := by rw [blk_cell HP7.out.nxt]; rfl
              have NF := Lib.hid (HNX.out V7 HP7.out.low)
              have HPUT := Lib.hid (fun V (h : RSAt w gb gx (some (slkMin (none) v)) (some X) V) => h.putX (some y'))
              clear HNX
              go_wp2_with (go_at_call 21; (with_reducible refine NF.out.mono ?_); rintro e w8 ⟨rfl, b8⟩; have HP8 := Lib.hid (HP7.out.below b8); clear b8; have f0 := blk_free HP8.out.nxt 0; have f1 := blk_free HP8.out.nxt 1; have r0 : w8.cell? ⟨gx, 0, none⟩ = some (.int .i64 X) := (by rw [blk_cell HP8.out.nxt]; rfl); have r1 : w8.cell? ⟨gx, 1, none⟩ = some (.bool true) := (by rw [blk_cell HP8.out.nxt]; rfl))
              have HP9 := Lib.hid (HPUT.out _ HP8.out)
              have hc9 := blk_cell (o := 0) HP9.out.nxt
              refine ⟨⟨_, b + 1, b2, HST2, ?_⟩, ?_⟩
              · have e : fr + (b2 : Int) = y' := HEY.out
                rw [e]; exact HP9
              · have h1 : X < y' := HY2.out
                have h2 : (wr.cell? ⟨gx, 0, none⟩) = some (.int .i64 X) := HXW.out
                rw [h2]
                refine Nat.lt_of_le_of_lt (m := (tt - y').toNat) (Nat.le_of_eq ?_) ?_
                · exact congrArg (fun z : Option Value => (tt - intOf (z.getD (.int .i64 0))).toNat) hc9
                · show (tt - y').toNat < (tt - X).toNat
                  omega
            | some u0 =>
              by_cases q : v < u0
              · have HZ : Hid (RSAt w gb gx (some (slkMin (some u0) v)) (some X) ((V6.setCell ⟨gb, 0, none⟩ (.int .i64 v)).setCell ⟨gb, 1, none⟩ (.bool true))) := by
                  have e : slkMin (some u0) v = v := if_pos q
                  rw [e]; exact HP6.out.putB v
                go_upto_region 15 with fail
                refine gen_world (RSAt w gb gx (some (slkMin (some u0) v)) (some X)) HZ.out ?_
                intro V7 hp7
                have HP7 := Lib.hid hp7
                clear hp7 HP6 HZ y0 y1 b0 b1 f0 f1 x0
                have x0 : V7.cell? ⟨gx, 0, none⟩ = some (.int .i64 X) := by rw [blk_cell HP7.out.nxt]; rfl
                have NF := Lib.hid (HNX.out V7 HP7.out.low)
                have HPUT := Lib.hid (fun V (h : RSAt w gb gx (some (slkMin (some u0) v)) (some X) V) => h.putX (some y'))
                clear HNX
                go_wp2_with (go_at_call 21; (with_reducible refine NF.out.mono ?_); rintro e w8 ⟨rfl, b8⟩; have HP8 := Lib.hid (HP7.out.below b8); clear b8; have f0 := blk_free HP8.out.nxt 0; have f1 := blk_free HP8.out.nxt 1; have r0 : w8.cell? ⟨gx, 0, none⟩ = some (.int .i64 X) := (by rw [blk_cell HP8.out.nxt]; rfl); have r1 : w8.cell? ⟨gx, 1, none⟩ = some (.bool true) := (by rw [blk_cell HP8.out.nxt]; rfl))
                have HP9 := Lib.hid (HPUT.out _ HP8.out)
                have hc9 := blk_cell (o := 0) HP9.out.nxt
                refine ⟨⟨_, b + 1, b2, HST2, ?_⟩, ?_⟩
                · have e : fr + (b2 : Int) = y' := HEY.out
                  rw [e]; exact HP9
                · have h1 : X < y' := HY2.out
                  have h2 : (wr.cell? ⟨gx, 0, none⟩) = some (.int .i64 X) := HXW.out
                  rw [h2]
                  refine Nat.lt_of_le_of_lt (m := (tt - y').toNat) (Nat.le_of_eq ?_) ?_
                  · exact congrArg (fun z : Option Value => (tt - intOf (z.getD (.int .i64 0))).toNat) hc9
                  · show (tt - y').toNat < (tt - X).toNat
                    omega
              · have HZ : Hid (RSAt w gb gx (some (slkMin (some u0) v)) (some X) V6) := by
                  have e : slkMin (some u0) v = u0 := if_neg q
                  rw [e]; exact HP6.out
                go_upto_region 15 with fail
                refine gen_world (RSAt w gb gx (some (slkMin (some u0) v)) (some X)) HZ.out ?_
                intro V7 hp7
                have HP7 := Lib.hid hp7
                clear hp7 HP6 HZ y0 y1 b0 b1 f0 f1 x0
                have x0 : V7.cell? ⟨gx, 0, none⟩ = some (.int .i64 X) := by rw [blk_cell HP7.out.nxt]; rfl
                have NF := Lib.hid (HNX.out V7 HP7.out.low)
                have HPUT := Lib.hid (fun V (h : RSAt w gb gx (some (slkMin (some u0) v)) (some X) V) => h.putX (some y'))
                clear HNX
                go_wp2_with (go_at_call 21; (with_reducible refine NF.out.mono ?_); rintro e w8 ⟨rfl, b8⟩; have HP8 := Lib.hid (HP7.out.below b8); clear b8; have f0 := blk_free HP8.out.nxt 0; have f1 := blk_free HP8.out.nxt 1; have r0 : w8.cell? ⟨gx, 0, none⟩ = some (.int .i64 X) := (by rw [blk_cell HP8.out.nxt]; rfl); have r1 : w8.cell? ⟨gx, 1, none⟩ = some (.bool true) := (by rw [blk_cell HP8.out.nxt]; rfl))
                have HP9 := Lib.hid (HPUT.out _ HP8.out)
                have hc9 := blk_cell (o := 0) HP9.out.nxt
                refine ⟨⟨_, b + 1, b2, HST2, ?_⟩, ?_⟩
                · have e : fr + (b2 : Int) = y' := HEY.out
                  rw [e]; exact HP9
                · have h1 : X < y' := HY2.out
                  have h2 : (wr.cell? ⟨gx, 0, none⟩) = some (.int .i64 X) := HXW.out
                  rw [h2]
                  refine Nat.lt_of_le_of_lt (m := (tt - y').toNat) (Nat.le_of_eq ?_) ?_
                  · exact congrArg (fun z : Option Value => (tt - intOf (z.getD (.int .i64 0))).toNat) hc9
                  · show (tt - y').toNat < (tt - X).toNat
                    omega
    case rest =>
      obtain ⟨p, HE, HX⟩ := hcut
      obtain ⟨q, HP⟩ := HX.out
      have HPP := Lib.hid HP
      have hr := HP.res
      have hb := HP.bst
      have f0 := blk_free hr 0
      have f1 := blk_free hr 1
      have r0 : wc.cell? ⟨w.heap.size, 0, none⟩ = some (.int .i64 0) := by rw [blk_cell hr]; rfl
      have r1 : wc.cell? ⟨w.heap.size, 1, none⟩ = some (.bool false) := by rw [blk_cell hr]; rfl
      have b0 : wc.cell? ⟨gb, 0, none⟩ = some (.int .i64 (p.getD 0)) := by rw [blk_cell hb]; rfl
      have b1 : wc.cell? ⟨gb, 1, none⟩ = some (.bool p.isSome) := by rw [blk_cell hb]; rfl
      have HD := Lib.hid (HP.ro.done (p.getD 0) p.isSome)
      obtain ⟨P, hP⟩ : ∃ P, p.getD 0 = P := ⟨_, rfl⟩
      obtain ⟨S, hS⟩ : ∃ S, p.isSome = S := ⟨_, rfl⟩
      have HE2 : Hid ((slS l fr tt).getD 0 = P ∧ (slS l fr tt).isSome = S) := by rw [← HE.out]; exact ⟨hP, hS⟩
      rw [hP] at b0 HD
      rw [hS] at b1 HD
      clear hr hb HE hP hS HP HPP HX
      go_wp2_with fail
      obtain ⟨hd, hlow⟩ := HD.out
      unfold Nm at hd
      have q0 := blk_cell (o := 0) hd
      have q1 := blk_cell (o := 1) hd
      refine bodyPost_ret (v := .agg #[.int .i64 P, .bool S]) ?_ rfl ⟨by rw [HE2.out.1, HE2.out.2], hlow⟩
      simp [results, Try.results27, go_sem, q0, q1]
end Go.Proofs.Ytbliagfmpcmfdaa

/-
  Slack, plainly: from deadline to deadline, with the work of each.
-/
namespace Go.Proofs.Ytbliagfmpcmfdaa

theorem step_eq {x : Dm} (h : x.ok) {u t : Int} (e : nxtD x u = t) : jobsD x t = jobsD x u + 1 ∧ nxtD x t = t + x.t := by
  have hj := jobs_nonneg h u
  have hd := h.d1; have hd2 := h.d2
  have h1 : jobsD x t = jobsD x u + 1 := by
    refine jobs_is h (by omega) ?_ fun _ => ?_
    · rw [Int.add_mul, Int.one_mul]; unfold nxtD at e; omega
    · rw [Int.add_sub_cancel]; unfold nxtD at e; omega
  refine ⟨h1, ?_⟩
  unfold nxtD at e ⊢
  rw [h1, Int.add_mul, Int.one_mul]; omega
theorem step_ne {x : Dm} (h : x.ok) {u t : Int} (h1 : u ≤ t) (h2 : t < nxtD x u) : jobsD x t = jobsD x u ∧ nxtD x t = nxtD x u := by
  have e := jobs_between h h1 h2
  exact ⟨e, by unfold nxtD; rw [e]⟩
theorem jobs_mono {x : Dm} (h : x.ok) {t u : Int} (htu : t ≤ u) : jobsD x t ≤ jobsD x u := by
  have hj := jobs_nonneg h u
  have hd := h.d1; have hd2 := h.d2
  by_cases q : t < x.d
  · rw [jobs_early q]; exact hj
  · rw [jobs_late q, jobs_late (by omega)]
    have := Int.ediv_le_ediv (a := t - x.d) (b := u - x.d) (c := x.t) (by omega) (by omega)
    omega
theorem dueN_mono {l : List Dm} (h : ∀ x ∈ l, x.ok) {t u : Int} (htu : t ≤ u) : ∀ k, dueN l t k ≤ dueN l u k
  | 0 => Int.le_refl _
  | k + 1 => by
    have ih := dueN_mono h htu k
    cases hx : l[k]? with
    | none => rw [due_end hx, due_end hx]; exact ih
    | some x =>
      have ho := h x (List.mem_of_getElem? hx)
      have := Int.mul_le_mul_of_nonneg_left (jobs_mono ho htu) ho.c0
      rw [due_next hx, due_next hx]; omega
/-- The work that is due just at the next deadline. -/
theorem due_jump {l : List Dm} (h : ∀ x ∈ l, x.ok) {u t : Int} (h1 : u ≤ t) (h2 : ∀ x ∈ l, t ≤ nxtD x u) : ∀ k, 0 ≤ dueN l t k - dueN l u k ∧ dueN l t k - dueN l u k ≤ (k : Int) * 1099511627776
  | 0 => ⟨by show (0 : Int) ≤ 0 - 0; omega, by show (0 : Int) - 0 ≤ _; omega⟩
  | k + 1 => by
    obtain ⟨i1, i2⟩ := due_jump h h1 h2 k
    cases hx : l[k]? with
    | none => rw [due_end hx, due_end hx]; omega
    | some x =>
      have hm := List.mem_of_getElem? hx
      have ho := h x hm
      have c0 := ho.c0; have c1 := ho.c1
      rw [due_next hx, due_next hx]
      rcases Int.lt_or_le t (nxtD x u) with q | q
      · rw [(step_ne ho h1 q).1]; omega
      · have e : nxtD x u = t := by have := h2 x hm; omega
        rw [(step_eq ho e).1, Int.mul_add, Int.mul_one]; omega
theorem jump_next {l : List Dm} {u t : Int} {k : Nat} {x : Dm} (hx : l[k]? = some x) (ho : x.ok) (h1 : u ≤ t) (h2 : t ≤ nxtD x u) :
    (nxtD x u = t → dueN l t (k + 1) - dueN l u (k + 1) = dueN l t k - dueN l u k + x.c) ∧ (nxtD x u ≠ t → dueN l t (k + 1) - dueN l u (k + 1) = dueN l t k - dueN l u k) := by
  refine ⟨fun e => ?_, fun e => ?_⟩
  · rw [due_next hx, due_next hx, (step_eq ho e).1, Int.mul_add, Int.mul_one]; omega
  · rw [due_next hx, due_next hx, (step_ne ho h1 (by omega)).1]; omega

/-- Deadlines from a time on, below another one, one behind the other, each with the work that is due just then; the last one. -/
inductive Chain (l : List Dm) (fr tt : Int) : List (Int × Int) → Int → Prop
  | nil : Chain l fr tt [] (fr - 1)
  | snoc {pre : List (Int × Int)} {u t : Int} : Chain l fr tt pre u → nextA l u = some t → t < tt → Chain l fr tt (pre ++ [(t, dueA l t - dueA l u)]) t
theorem Chain.low {l : List Dm} (hok : ∀ x ∈ l, x.ok) {fr tt : Int} {pre : List (Int × Int)} {u : Int} (h : Chain l fr tt pre u) : fr - 1 ≤ u ∧ (pre.length : Int) ≤ u + 1 - fr ∧ (u < tt ∨ (u = fr - 1 ∧ pre = [])) := by
  induction h with
  | nil => exact ⟨Int.le_refl _, by simp, .inr ⟨rfl, rfl⟩⟩
  | snoc h e ht ih =>
    have := (next_some hok e).2.1
    refine ⟨by omega, ?_, .inl ht⟩
    rw [List.length_append, List.length_singleton]; omega
/-- What the body makes of one. -/
def stS (o : Option (Int × Option Int)) (x : Int × Int) : Option (Int × Option Int) := o.bind fun s => if 4611686018427387904 < s.1 + x.2 then none else some (s.1 + x.2, some (slkMin s.2 (x.1 - (s.1 + x.2))))
def stF (w0 : Int) (pre : List (Int × Int)) : Option (Int × Option Int) := pre.foldl stS (some (w0, none))
theorem stF_snoc (w0 : Int) (pre : List (Int × Int)) (x : Int × Int) : stF w0 (pre ++ [x]) = stS (stF w0 pre) x := by unfold stF; rw [List.foldl_append]; rfl
theorem stF_over {w0 : Int} {pre : List (Int × Int)} {s : Int} {b : Option Int} {x : Int × Int} (h : stF w0 pre = some (s, b)) (hw : 4611686018427387904 < s + x.2) : stF w0 (pre ++ [x]) = none := by
  rw [stF_snoc, h]; exact if_pos hw
theorem stF_go {w0 : Int} {pre : List (Int × Int)} {s : Int} {b : Option Int} {x : Int × Int} (h : stF w0 pre = some (s, b)) (hw : ¬ 4611686018427387904 < s + x.2) : stF w0 (pre ++ [x]) = some (s + x.2, some (slkMin b (x.1 - (s + x.2)))) := by
  rw [stF_snoc, h]; exact if_neg hw
theorem Chain.is {l : List Dm} (hok : ∀ x ∈ l, x.ok) {fr tt : Int} {pre : List (Int × Int)} {u : Int} (h : Chain l fr tt pre u) : stF (dueA l (fr - 1)) pre = (slkN l fr (u + 1 - fr).toNat).map fun b => (dueA l u, b) := by
  induction h with
  | nil =>
    rw [show (fr - 1 + 1 - fr).toNat = 0 by omega]; rfl
  | @snoc pre u t h e ht ih =>
    obtain ⟨h1, h2, h3⟩ := next_some hok e
    have hl := (Chain.low hok h).1
    obtain ⟨k, hk⟩ : ∃ k, (t - fr).toNat = k := ⟨_, rfl⟩
    have hk1 : fr + (k : Int) = t := by omega
    have hk2 : (t + 1 - fr).toNat = k + 1 := by omega
    have hsk : slkN l fr k = slkN l fr (u + 1 - fr).toNat := slk_skip (by omega) fun i a1 a2 => dlB_not hok fun hd => by
      have := h3 _ hd (by omega); omega
    have hdl : dlB l t = true := (dlB_iff hok).2 h1
    rw [stF_snoc, ih, hk2, ← hsk]
    cases hz : slkN l fr k with
    | none => rw [slk_fell hz]; rfl
    | some b =>
      rw [slk_next hz, hk1]
      show stS (some (dueA l u, b)) (t, dueA l t - dueA l u) = _
      unfold stS
      rw [Option.bind_some]
      dsimp only
      rw [show dueA l u + (dueA l t - dueA l u) = dueA l t by omega]
      by_cases q : 4611686018427387904 < dueA l t
      · rw [if_pos q, step_over hdl q]; rfl
      · rw [if_neg q, step_at hdl (by omega)]; rfl
/-- At the end, or where it was too much. -/
theorem Chain.out {l : List Dm} (hok : ∀ x ∈ l, x.ok) {fr tt : Int} {pre : List (Int × Int)} {u : Int} (h : Chain l fr tt pre u) (he : ∀ t, nextA l u = some t → tt ≤ t) :
    stF (dueA l (fr - 1)) pre = (slkN l fr (tt - fr).toNat).map fun b => (dueA l u, b) := by
  have hl := Chain.low hok h
  rw [Chain.is hok h, slk_skip (a := (u + 1 - fr).toNat) (b := (tt - fr).toNat) (by omega) fun i a1 a2 => dlB_not hok fun hd => ?_]
  cases e : nextA l u with
  | none => have := next_none hok e hd; omega
  | some t => have := (next_some hok e).2.2 _ hd (by omega); have := he t e; omega
theorem Chain.fell {l : List Dm} (hok : ∀ x ∈ l, x.ok) {fr tt : Int} {pre : List (Int × Int)} {u : Int} (h : Chain l fr tt pre u) (he : stF (dueA l (fr - 1)) pre = none) : slS l fr tt = none := by
  have hl := Chain.low hok h
  rcases hl.2.2 with q | ⟨_, rfl⟩
  · rw [Chain.is hok h] at he
    refine slS_over (slk_bad (a := (u + 1 - fr).toNat) ?_ (by omega))
    cases e : slkN l fr (u + 1 - fr).toNat with
    | none => rfl
    | some b => rw [e] at he; cases he
  · cases he
theorem Chain.ends {l : List Dm} (h0 : okL l = true) {fr tt : Int} (ht : timeB fr = true ∧ timeB tt = true ∧ tt - fr ≤ 1048576) {pre : List (Int × Int)} {u : Int} (h : Chain l fr tt pre u) (he : ∀ t, nextA l u = some t → tt ≤ t) {s : Int} {b : Option Int} (hs : stF (dueA l (fr - 1)) pre = some (s, b)) : slS l fr tt = b := by
  rw [Chain.out (okL_iff.1 h0).1 h he] at hs
  cases e : slkN l fr (tt - fr).toNat with
  | none => rw [e] at hs; cases hs
  | some p =>
    rw [e] at hs
    simp only [Option.map_some, Option.some.injEq, Prod.mk.injEq] at hs
    rw [slS_is h0 ht e, hs.2]
/-- Too much ahead of all deadlines. -/
theorem slS_much {l : List Dm} (hok : ∀ x ∈ l, x.ok) {fr tt : Int} (h : 4611686018427387904 < dueA l (fr - 1)) : slS l fr tt = none := by
  have key : ∀ k, slkN l fr k = none ∨ slkN l fr k = some none := by
    intro k
    induction k with
    | zero => exact .inr rfl
    | succ k ih =>
      rcases ih with ih | ih
      · exact .inl (slk_fell ih)
      · rw [slk_next ih]
        cases hd : dlB l (fr + k) with
        | false => exact .inr (step_not hd _)
        | true =>
          refine .inl (step_over hd ?_ _)
          have := dueN_mono hok (t := fr - 1) (u := fr + k) (by omega) l.length
          unfold dueA at h ⊢; omega
  unfold slS
  split
  · rcases key (tt - fr).toNat with e | e <;> rw [e] <;> rfl
  · rfl
/-- The next deadlines of all. -/
def nxR (l : List Dm) (u : Int) : List Int := l.map fun x => nxtD x u
theorem nxR_len (l : List Dm) (u : Int) : (nxR l u).length = l.length := List.length_map _
theorem nxR_at {l : List Dm} {u : Int} {k : Nat} {x : Dm} (h : l[k]? = some x) : (nxR l u)[k]? = some (nxtD x u) := by unfold nxR; rw [List.getElem?_map, h]; rfl
theorem nxR_least {l : List Dm} (hok : ∀ x ∈ l, x.ok) {u t : Int} (e : nextA l u = some t) : t ∈ nxR l u ∧ ∀ y ∈ nxR l u, t ≤ y := by
  obtain ⟨⟨x, hx, hd⟩, h2, h3⟩ := next_some hok e
  have hle : ∀ y ∈ nxR l u, t ≤ y := fun y hy => by
    obtain ⟨z, hz, rfl⟩ := List.mem_map.1 hy
    exact h3 _ ⟨z, hz, nxt_dl (hok z hz) u⟩ (jobs_fit (hok z hz) u).1
  refine ⟨?_, hle⟩
  have h4 := nxt_least (hok x hx) hd h2
  have h5 := hle _ (List.mem_map.2 ⟨x, hx, rfl⟩)
  exact List.mem_map.2 ⟨x, hx, by omega⟩
theorem nxR_le {l : List Dm} (hok : ∀ x ∈ l, x.ok) {u t : Int} (e : nextA l u = some t) : ∀ x ∈ l, t ≤ nxtD x u := fun x hx => (nxR_least hok e).2 _ (List.mem_map.2 ⟨x, hx, rfl⟩)
/-- Half way. -/
def nxH (l : List Dm) (t u : Int) (k : Nat) : List Int := (nxR l t).take k ++ (nxR l u).drop k
theorem nxH_zero (l : List Dm) (t u : Int) : nxH l t u 0 = nxR l u := by unfold nxH; rw [List.take_zero, List.drop_zero]; rfl
theorem nxH_end {l : List Dm} {t u : Int} {n : Nat} (h : l.length = n) : nxH l t u n = nxR l t := by
  unfold nxH; rw [List.take_of_length_le (by rw [nxR_len]; omega), List.drop_of_length_le (by rw [nxR_len]; omega), List.append_nil]
theorem nxH_len (l : List Dm) (t u : Int) (k : Nat) : (nxH l t u k).length = l.length := by
  unfold nxH; rw [List.length_append, List.length_take, List.length_drop, nxR_len, nxR_len]; omega
theorem nxH_at {l : List Dm} {t u : Int} {k : Nat} {x : Dm} (h : l[k]? = some x) : (nxH l t u k)[k]? = some (nxtD x u) := by
  have hk := (List.getElem?_eq_some_iff.1 h).1
  unfold nxH
  rw [List.getElem?_append_right (by rw [List.length_take, nxR_len]; omega), List.length_take, nxR_len, List.getElem?_drop, show k + (k - min k l.length) = k by omega]
  exact nxR_at h
theorem nxH_set {l : List Dm} {t u : Int} {k : Nat} {x : Dm} (h : l[k]? = some x) : (nxH l t u k).set k (nxtD x t) = nxH l t u (k + 1) := by
  have hk := (List.getElem?_eq_some_iff.1 h).1
  have hl : ((nxR l t).take k).length = k := by rw [List.length_take, nxR_len]; omega
  unfold nxH
  rw [List.set_append_right _ _ (by omega), hl, Nat.sub_self, List.take_add_one, nxR_at h]
  have hd : (nxR l u).drop k = nxtD x u :: (nxR l u).drop (k + 1) := by
    obtain ⟨h2, h3⟩ := List.getElem?_eq_some_iff.1 (nxR_at (u := u) h)
    rw [List.drop_eq_getElem_cons h2, h3]
  rw [hd, List.set_cons_zero, List.append_assoc]; rfl
theorem nxH_same {l : List Dm} {t u : Int} {k : Nat} {x : Dm} (h : l[k]? = some x) (e : nxtD x t = nxtD x u) : nxH l t u k = nxH l t u (k + 1) := by
  rw [← nxH_set h, e]
  have := nxH_at (t := t) (u := u) h
  obtain ⟨h2, h3⟩ := List.getElem?_eq_some_iff.1 this
  rw [← h3, List.set_getElem_self]
theorem nxR_next {l : List Dm} {u : Int} {k : Nat} {x : Dm} (h : l[k]? = some x) : (nxR l u).take (k + 1) = (nxR l u).take k ++ [nxtD x u] := by rw [List.take_add_one, nxR_at h]; rfl
theorem next_some_of {l : List Dm} (hok : ∀ x ∈ l, x.ok) {u : Int} (hn : 0 < l.length) : ∃ t, nextA l u = some t := by
  cases e : nextA l u with
  | some t => exact ⟨t, rfl⟩
  | none => have := next_nil hok e; subst this; cases hn
end Go.Proofs.Ytbliagfmpcmfdaa

/-
  The walks over the program's check of demands, of times, over how many jobs are due, and over the next deadline of one.
-/
namespace Go.Proofs.Ytbliagfmpcmfdaa
open Go.RowKit Go.Maps

set_option maxRecDepth 100000 in
set_option maxHeartbeats 2000000 in
theorem pjobs_any (x : Dm) (hx : x.ok) (t : Int) (h0 : -1 ≤ t) (ht : t ≤ 2199023255552) (w : World) :
    Calls Try.prog 31 #[.agg #[.int .i64 x.c, .int .i64 x.d, .int .i64 x.t], .int .i64 t] w fun e w' => e = .returned (.int .i64 (jobsD x t)) ∧ Below w.heap.size w w' := by
  have h1 := hx.d1; have h2 := hx.d2; have h3 := hx.t2
  have hj := jobs_top hx ht
  have hj0 := jobs_nonneg hx t
  by_cases q : t < x.d
  · rw [jobs_early q]
    clear hj hj0 hx h1 h2 h3
    go_enter Try.func31, Try.ntmps31
    go_wp2
    go_ret
    exact ⟨rfl, (by repeat (first | exact Below.refl _ _ | (with_reducible assumption) | refine bw_alloc ?_ _ | refine bw_drew ?_))⟩
  · rw [jobs_late q] at hj hj0 ⊢
    have e0 : (t - x.d).tdiv x.t = (t - x.d) / x.t := Int.tdiv_eq_ediv_of_nonneg (by omega)
    have e1 : IntKind.i64.wrap (t - x.d) = t - x.d := IntWalk.i64_in _ (by omega)
    have e2 : IntKind.i64.wrap ((t - x.d).tdiv x.t) = (t - x.d) / x.t := by rw [e0]; exact IntWalk.i64_in _ (by omega)
    have e2' : IntKind.i64.wrap ((t - x.d) / x.t) = (t - x.d) / x.t := IntWalk.i64_in _ (by omega)
    have e3 : IntKind.i64.wrap ((t - x.d) / x.t + 1) = (t - x.d) / x.t + 1 := IntWalk.i64_in _ (by omega)
    have z1 : (x.t == 0) = false := by rw [beq_eq_false_iff_ne]; omega
    have z2 : ¬ x.t = 0 := by omega
    clear hj hj0 hx h1 h2 h3
    go_enter Try.func31, Try.ntmps31
    go_wp2
    go_ret
    exact ⟨rfl, (by repeat (first | exact Below.refl _ _ | (with_reducible assumption) | refine bw_alloc ?_ _ | refine bw_drew ?_))⟩

set_option maxRecDepth 100000 in
theorem ptime_any (t : Int) (w : World) : Calls Try.prog 28 #[.int .i64 t] w fun e w' => e = .returned (.bool (timeB t)) ∧ w = w' := by
  unfold timeB
  by_cases q : 0 ≤ t
  · rw [decide_eq_true q, Bool.true_and]
    by_cases q2 : t ≤ 2199023255552
    · rw [decide_eq_true q2]
      go_enter Try.func28, Try.ntmps28
      go_wp2
      go_ret
      exact ⟨rfl, rfl⟩
    · rw [decide_eq_false q2]
      go_enter Try.func28, Try.ntmps28
      go_wp2
      go_ret
      exact ⟨rfl, rfl⟩
  · rw [decide_eq_false q, Bool.false_and]
    go_enter Try.func28, Try.ntmps28
    go_wp2
    go_ret
    exact ⟨rfl, rfl⟩

set_option maxRecDepth 100000 in
set_option maxHeartbeats 4000000 in
/-- The next deadline of one. -/
theorem pafter_any (x : Dm) (hx : x.ok) (t : Int) (h0 : -1 ≤ t) (ht : t ≤ 2199023255552) (w : World) :
    Calls Try.prog 30 #[.agg #[.int .i64 x.c, .int .i64 x.d, .int .i64 x.t], .int .i64 t] w fun e w' => e = .returned (.int .i64 (nxtD x t)) ∧ Below w.heap.size w w' := by
  have JC := Lib.hid (fun v => pjobs_any x hx t h0 ht v)
  obtain ⟨m1, m2, m3⟩ := nxt_top hx ht
  have h1 := hx.d1; have h2 := hx.d2; have h3 := hx.t2
  unfold nxtD at m2 ⊢
  obtain ⟨j, hj⟩ : ∃ j, jobsD x t = j := ⟨_, rfl⟩
  rw [hj] at JC m1 m2 m3 ⊢
  have e1 : IntKind.i64.wrap (j * x.t) = j * x.t := IntWalk.i64_in _ (by omega)
  have e2 : IntKind.i64.wrap (x.d + j * x.t) = x.d + j * x.t := IntWalk.i64_in _ (by omega)
  obtain ⟨p, hp⟩ : ∃ p, j * x.t = p := ⟨_, rfl⟩
  rw [hp] at e1 e2 ⊢
  clear hj m1 m2 m3 h1 h2 h3 hx
  go_enter Try.func30, Try.ntmps30
  go_upto_region 1 with fail
  refine gen_world (fun v => Below w.heap.size w v ∧ v.cell? ⟨w.heap.size, 0, none⟩ = some (.int .i64 x.c) ∧ v.cell? ⟨w.heap.size, 1, none⟩ = some (.int .i64 x.d) ∧ v.cell? ⟨w.heap.size, 2, none⟩ = some (.int .i64 x.t)) ⟨(by repeat (first | exact Below.refl _ _ | (with_reducible assumption) | refine bw_alloc ?_ _ | refine bw_drew ?_)), by rw [World.cell?_alloc_new]; rfl, by rw [World.cell?_alloc_new]; rfl, by rw [World.cell?_alloc_new]; rfl⟩ ?_
  intro V ⟨hb, c0, c1, c2⟩
  have HB := Lib.hid hb
  have HC := Lib.hid (fun w' (hb : Below V.heap.size V w') => And.intro (kept_cell hb c0) (And.intro (kept_cell hb c1) (kept_cell hb c2)))
  clear hb
  go_region_held3 (fun w' => w'.cell? ⟨w.heap.size, 0, none⟩ = some (.int .i64 x.c) ∧ w'.cell? ⟨w.heap.size, 1, none⟩ = some (.int .i64 x.d) ∧ w'.cell? ⟨w.heap.size, 2, none⟩ = some (.int .i64 x.t)) (exact HC.out _ (by repeat (first | exact Below.refl _ _ | (with_reducible assumption) | refine bw_drew ?_ | refine bw_alloc ?_ _))) ((go_at_call 31; (with_reducible refine (Calls.upV (V := V) (by repeat (first | exact Below.refl _ _ | (with_reducible assumption) | refine bw_alloc ?_ _ | refine bw_drew ?_)) (JC.out _)).mono ?_); rintro e wj ⟨rfl, bzj, bx1⟩; clear bzj))
  all_goals
    go_wp2_with fail
    go_ret
    exact ⟨rfl, below_up HB.out (by repeat (first | exact Below.refl _ _ | (with_reducible assumption) | refine bw_drew ?_ | refine bw_alloc ?_ _))⟩

set_option maxRecDepth 100000 in
set_option maxHeartbeats 4000000 in
/-- Whether one may not be. -/
theorem pcheck1_any (x : Dm) (w : World) :
    Calls Try.prog 43 #[.agg #[.int .i64 x.c, .int .i64 x.d, .int .i64 x.t]] w fun e w' => e = .returned (.bool (!(okD x))) ∧ Below w.heap.size w w' := by
  have key : ∀ b, okD x = b → Calls Try.prog 43 #[.agg #[.int .i64 x.c, .int .i64 x.d, .int .i64 x.t]] w fun e w' => e = .returned (.bool (!b)) ∧ Below w.heap.size w w' := by
    intro b hb
    by_cases q1 : x.c < 0
    · obtain rfl : b = false := by rw [← hb]; cases e : okD x with | false => rfl | true => exact absurd (okD_iff.1 e).c0 (by omega)
      clear hb
      go_enter Try.func43, Try.ntmps43
      go_wp2
      go_ret
      exact ⟨rfl, (by repeat (first | exact Below.refl _ _ | (with_reducible assumption) | refine bw_alloc ?_ _ | refine bw_drew ?_))⟩
    by_cases q2 : 1099511627776 < x.c
    · obtain rfl : b = false := by rw [← hb]; cases e : okD x with | false => rfl | true => exact absurd (okD_iff.1 e).c1 (by omega)
      clear hb
      go_enter Try.func43, Try.ntmps43
      go_wp2
      go_ret
      exact ⟨rfl, (by repeat (first | exact Below.refl _ _ | (with_reducible assumption) | refine bw_alloc ?_ _ | refine bw_drew ?_))⟩
    by_cases q3 : x.d < 1
    · obtain rfl : b = false := by rw [← hb]; cases e : okD x with | false => rfl | true => exact absurd (okD_iff.1 e).d1 (by omega)
      clear hb
      go_enter Try.func43, Try.ntmps43
      go_wp2
      go_ret
      exact ⟨rfl, (by repeat (first | exact Below.refl _ _ | (with_reducible assumption) | refine bw_alloc ?_ _ | refine bw_drew ?_))⟩
    by_cases q4 : x.t < x.d
    · obtain rfl : b = false := by rw [← hb]; cases e : okD x with | false => rfl | true => exact absurd (okD_iff.1 e).d2 (by omega)
      clear hb
      go_enter Try.func43, Try.ntmps43
      go_wp2
      go_ret
      exact ⟨rfl, (by repeat (first | exact Below.refl _ _ | (with_reducible assumption) | refine bw_alloc ?_ _ | refine bw_drew ?_))⟩
    by_cases q5 : 1073741824 < x.t
    · obtain rfl : b = false := by rw [← hb]; cases e : okD x with | false => rfl | true => exact absurd (okD_iff.1 e).t2 (by omega)
      clear hb
      go_enter Try.func43, Try.ntmps43
      go_wp2
      go_ret
      exact ⟨rfl, (by repeat (first | exact Below.refl _ _ | (with_reducible assumption) | refine bw_alloc ?_ _ | refine bw_drew ?_))⟩
    obtain rfl : b = true := by rw [← hb]; exact okD_iff.2 ⟨by omega, by omega, by omega, by omega, by omega⟩
    clear hb
    go_enter Try.func43, Try.ntmps43
    go_wp2
    go_ret
    exact ⟨rfl, (by repeat (first | exact Below.refl _ _ | (with_reducible assumption) | refine bw_alloc ?_ _ | refine bw_drew ?_))⟩
  exact key _ rfl

/-- What tells the first one that may not be. -/
def IdxBack (l : List Dm) (w : World) (e : Ending) (w' : World) : Prop := (∃ i : Int, e = .returned (.int .i64 i) ∧ (0 ≤ i ↔ l.all okD = false)) ∧ Below w.heap.size w w'
set_option maxRecDepth 100000 in
set_option maxHeartbeats 4000000 in
theorem pindex_any (l : List Dm) (n c : Nat) (hl : l.length = n) (hn : (n : Int) ≤ 9223372036854775807) (a : Option Addr) (w : World) (hv : GView w a l) :
    Calls Try.prog 55 #[.slice a n c, .func (.func 43) #[] #[]] w (IdxBack l w) := by
  have HV := Lib.hid hv
  have HL := Lib.hid hl
  clear hv hl
  go_enter Try.func55, Try.ntmps55
  go_wp2
  go_loopw [8] (fun u wr => ∃ k : Nat, k ≤ n ∧ u = .int .i64 k ∧ Hid ((l.take k).all okD = true) ∧ Hid (Below w.heap.size w wr)) (fun u _ => (n - intOf u).toNat)
  case atStart => exact ⟨0, by omega, rfl, rfl, Below.refl _ _⟩
  case round =>
    obtain ⟨k, hk, rfl, HS, HP⟩ := hrel
    by_cases hlt : k < n
    · obtain ⟨x, hx⟩ := nth_of HL.out hlt
      obtain ⟨g, o, rfl, ⟨c0, c1, c2⟩⟩ := (HV.out.below HP.out).at_ hx
      have hk1 : (k : Int) < (n : Int) := by omega
      have hk0 : (0 : Int) ≤ (k : Int) := by omega
      have HX : Hid (x ∈ l) := List.mem_of_getElem? hx
      have HT : Hid (okD x = true → (l.take (k + 1)).all okD = true) := okL_take HS.out hx
      have CC := Lib.hid (fun v => pcheck1_any x v)
      obtain ⟨b, hb⟩ : ∃ b, okD x = b := ⟨_, rfl⟩
      rw [hb] at CC HT
      have HB := Lib.hid hb
      clear hx HS hb
      cases b with
      | false =>
        have HF : Hid (l.all okD = false) := by
          cases e : l.all okD with
          | false => rfl
          | true => have := List.all_eq_true.1 e x HX.out; rw [HB.out] at this; cases this
        go_wp2_with (go_at_call 43; (with_reducible refine (CC.out _).mono ?_); rintro e wj ⟨rfl, bx1⟩)
        go_ret
        exact ⟨⟨_, rfl, fun _ => HF.out, fun _ => hk0⟩, below_up HP.out bx1⟩
      | true =>
        have HS2 := Lib.hid (HT.out rfl)
        clear HT
        go_wp2_with (go_at_call 43; (with_reducible refine (CC.out _).mono ?_); rintro e wj ⟨rfl, bx1⟩)
        go_roundw
        case rel => exact ⟨k + 1, by omega, by go_num, HS2, Lib.hid (below_up HP.out bx1)⟩
        case measure => simp [intOf]; omega
    · obtain rfl : k = n := by omega
      have HF : Hid (l.all okD = true) := by
        have := HS.out
        rw [← HL.out, List.take_of_length_le (Nat.le_refl _)] at this
        exact this
      clear HS
      go_wp2
      go_ret
      exact ⟨⟨_, rfl, fun h => absurd h (by decide), fun h => by rw [HF.out] at h; cases h⟩, HP.out⟩

set_option maxRecDepth 100000 in
set_option maxHeartbeats 4000000 in
theorem pcontains_any (l : List Dm) (n c : Nat) (hl : l.length = n) (hn : (n : Int) ≤ 9223372036854775807) (a : Option Addr) (w : World) (hv : GView w a l) :
    Calls Try.prog 42 #[.slice a n c, .func (.func 43) #[] #[]] w fun e w' => e = .returned (.bool (!(l.all okD))) ∧ Below w.heap.size w w' := by
  have HC := Lib.hid (pindex_any l n c hl hn a w hv)
  obtain ⟨b, hb⟩ : ∃ b, l.all okD = b := ⟨_, rfl⟩
  have HB := Lib.hid hb
  rw [hb]
  clear hb hv hl
  go_enter Try.func42, Try.ntmps42
  cases b with
  | false =>
    go_wp2_with (go_at_call 55; (with_reducible refine (HC.out).mono ?_); rintro e wj ⟨⟨i, rfl, hi⟩, bx1⟩; have hi0 : decide (0 ≤ i) = true := decide_eq_true (hi.2 HB.out); clear hi)
    go_ret
    exact ⟨by first | rfl | simp [hi0, go_sem], bx1⟩
  | true =>
    go_wp2_with (go_at_call 55; (with_reducible refine (HC.out).mono ?_); rintro e wj ⟨⟨i, rfl, hi⟩, bx1⟩; have hi0 : decide (0 ≤ i) = false := decide_eq_false (fun h => by (have := hi.1 h; rw [HB.out] at this; cases this)); clear hi)
    go_ret
    exact ⟨by first | rfl | simp [hi0, go_sem], bx1⟩

set_option maxRecDepth 100000 in
set_option maxHeartbeats 4000000 in
theorem pchk_any (l : List Dm) (n c : Nat) (hl : l.length = n) (hn : (n : Int) ≤ 9223372036854775807) (a : Option Addr) (w : World) (hv : GView w a l) :
    Calls Try.prog 25 #[.slice a n c] w fun e w' => e = .returned (.bool (okL l)) ∧ Below w.heap.size w w' := by
  have HC := Lib.hid (pcontains_any l n c hl hn a w hv)
  have HE : Hid (okL l = (l.all okD && decide (n ≤ 64))) := by rw [← hl]; rfl
  obtain ⟨b, hb⟩ : ∃ b, l.all okD = b := ⟨_, rfl⟩
  rw [hb] at HE HC
  clear hb hv hl
  by_cases q : n ≤ 64
  · have q1 : (n : Int) ≤ 64 := by omega
    rw [decide_eq_true q, Bool.and_true] at HE
    clear q
    cases b with
    | false =>
      go_enter Try.func25, Try.ntmps25
      go_wp2_with (go_at_call 42; (with_reducible refine (HC.out).mono ?_); rintro e wj ⟨rfl, bx1⟩)
      go_ret
      exact ⟨by rw [HE.out]; rfl, bx1⟩
    | true =>
      go_enter Try.func25, Try.ntmps25
      go_wp2_with (go_at_call 42; (with_reducible refine (HC.out).mono ?_); rintro e wj ⟨rfl, bx1⟩)
      go_ret
      exact ⟨by rw [HE.out]; rfl, bx1⟩
  · have q1 : ¬ (n : Int) ≤ 64 := by omega
    rw [decide_eq_false q, Bool.and_false] at HE
    clear q
    go_enter Try.func25, Try.ntmps25
    go_wp2
    go_ret
    exact ⟨by rw [HE.out]; rfl, Below.refl _ _⟩
end Go.Proofs.Ytbliagfmpcmfdaa

/-
  Rows of numbers without sign.
-/
namespace Go.Proofs.Ytbliagfmpcmfdaa
open Go.RowKit Go.Maps

/-- A row of numbers that can be read. -/
def UInts (w : World) (a : Option Addr) (l : List Int) : Prop :=
  l = [] ∨ ∃ g o, a = some ⟨g, o, none⟩ ∧ ∀ (j : Nat) (u : Int), l[j]? = some u → w.cell? ⟨g, o + j, none⟩ = some (.int .u64 u)
theorem UInts.nil {w : World} {a : Option Addr} : UInts w a [] := .inl rfl
theorem UInts.at_ {w : World} {a : Option Addr} {l : List Int} (h : UInts w a l) {k : Nat} {x : Int} (hx : l[k]? = some x) : ∃ g o, a = some ⟨g, o, none⟩ ∧ w.cell? ⟨g, o + k, none⟩ = some (.int .u64 x) := by
  rcases h with rfl | ⟨g, o, rfl, hc⟩
  · simp at hx
  · exact ⟨g, o, rfl, hc _ _ hx⟩
theorem UInts.below {w w' : World} {a : Option Addr} {l : List Int} (h : UInts w a l) (hb : Below w.heap.size w w') : UInts w' a l := by
  rcases h with rfl | ⟨g, o, rfl, hc⟩
  · exact .inl rfl
  · exact .inr ⟨g, o, rfl, fun j u hj => kept_cell hb (hc j u hj)⟩
theorem UInts.take {w : World} {a : Option Addr} {l : List Int} (h : UInts w a l) (k : Nat) : UInts w a (l.take k) := by
  rcases h with rfl | ⟨g, o, rfl, hc⟩
  · left; simp
  · refine .inr ⟨g, o, rfl, fun j u hj => ?_⟩
    rw [List.getElem?_take] at hj
    split at hj
    · exact hc j u hj
    · cases hj
theorem UInts.nothing {w : World} {l : List Int} (h : UInts w none l) : l = [] := by
  rcases h with rfl | ⟨g, o, e, _⟩
  · rfl
  · cases e
theorem UInts.of_block {w : World} {g : Nat} {l : List Int} {cs : Array Value} {T : TypeId} {fr : Nat × Nat} (h : w.heap[g]? = some (.cells cs T fr)) (hl : ∀ (j : Nat) (u : Int), l[j]? = some u → cs[j]? = some (.int .u64 u)) : UInts w (some ⟨g, 0, none⟩) l :=
  .inr ⟨g, 0, rfl, fun j u hj => by rw [Nat.zero_add, blk_cell h]; exact hl j u hj⟩
def vu (l : List Int) : List Value := l.map (Value.int .u64)
theorem vu_one (l : List Int) : ∀ u ∈ vu l, u.oneCell' = true := by
  intro u hu
  obtain ⟨_, _, rfl⟩ := List.mem_map.1 hu
  rfl
theorem vu_at {l : List Int} {j : Nat} {u : Int} (h : l[j]? = some u) : (vu l)[j]? = some (.int .u64 u) := by simp [vu, h]
def OwnU (w : World) (e : TypeId) (B : Nat) (v : Value) (l : List Int) : Prop := w.ownsRow B e 1 v l.length (vu l)
theorem OwnU.nil (w : World) (e : TypeId) (B : Nat) : OwnU w e B (.slice none 0 0) [] := World.ownsRow_nil _ _ _ _
theorem OwnU.made (w : World) (e : TypeId) : OwnU (w.alloc (.cells #[] e)) e w.heap.size (.slice (some ⟨w.heap.size, 0, none⟩) 0 0) [] :=
  World.ownsRow_made (w := w) #[] 0 (Nat.le_refl _) (by decide) rfl
theorem OwnU.slice {w : World} {e : TypeId} {B : Nat} {v : Value} {l : List Int} (h : OwnU w e B v l) : ∃ a cap, v = .slice a l.length cap ∧ UInts w a l ∧ l.length ≤ cap ∧ (cap : Int) ≤ 9223372036854775807 := by
  rcases h.2 with ⟨rfl, h0⟩ | ⟨g, cap, cur, rfl, _, h3, h1, h2, h4, h5⟩
  · exact ⟨none, 0, by rw [h0], .inl (List.length_eq_zero_iff.1 h0), by omega, by omega⟩
  · refine ⟨_, cap, rfl, .inr ⟨g, 0, rfl, fun j u hj => ?_⟩, h1, by unfold maxLen at h2; omega⟩
    rw [Nat.zero_add, blk_cell h3]
    have := vu_at hj
    rw [← h5, List.getElem?_take] at this
    split at this
    · simpa using this
    · cases this
theorem OwnU.new {w : World} {e : TypeId} {B : Nat} {v : Value} {l : List Int} (h : OwnU w e B v l) {k : Nat} (hk : v.ownBlock = some k) : B ≤ k ∧ k < w.heap.size := World.ownsRow.lt h k hk
theorem OwnU.below {w w' : World} {e : TypeId} {B : Nat} {v : Value} {l : List Int} (h : OwnU w e B v l) (hb : Below w.heap.size w w') : OwnU w' e B v l := by
  rcases h with ⟨h0, h | ⟨g, cap, cur, rfl, hB, h3, r⟩⟩
  · exact ⟨h0, .inl h⟩
  · exact ⟨h0, .inr ⟨g, cap, cur, rfl, hB, kept_obj hb h3, r⟩⟩
theorem OwnU.low {w : World} {e : TypeId} {B B' : Nat} {v : Value} {l : List Int} (h : OwnU w e B v l) (hB : B' ≤ B) : OwnU w e B' v l := by
  rcases h with ⟨h0, h | ⟨g, cap, cur, rfl, hb, r⟩⟩
  · exact ⟨h0, .inl h⟩
  · exact ⟨h0, .inr ⟨g, cap, cur, rfl, by omega, r⟩⟩

/-- A slice type of numbers. -/
structure IsNumU (t e : TypeId) : Prop where
  und : Try.prog.underlying t = some (.slice e)
  info : ∃ i, Try.prog.info? e = some i ∧ i.zero = some (.int .u64 0) ∧ i.size = 1 ∧ i.bytes = 8
theorem numU_of {t e : TypeId} (h : Try.prog.underlying t = some (.slice e)) (h2 : (Try.prog.info? e).map (fun i => (i.zero, i.size, i.bytes)) = some (some (.int .u64 0), 1, 8)) : IsNumU t e := by
  obtain ⟨i, h1, h2⟩ := Option.map_eq_some_iff.1 h2
  simp only [Prod.mk.injEq] at h2
  exact ⟨h, i, h1, h2.1, h2.2.1, h2.2.2⟩
theorem append_uints {w : World} {t e : TypeId} (ht : IsNumU t e) {B m c : Nat} {v : Value} {q l : List Int} {ad : Option Addr} (h : OwnU w e B v q) (hB : B ≤ w.heap.size) (hv : UInts w ad l) (hl : l.length = m) (hs : (q.length + m : Int) ≤ 17592186044416) (hn : ad = none → m = 0) (ty : TypeId) :
    ∃ v' w', (Builtin.append_ #[t, t] ty #[v, .slice ad m c]).run Try.prog w = .ok v' w' ∧ OwnU w' e B v' (q ++ l) ∧ w.grownBy w' v.ownBlock ∧ ∀ k, v'.ownBlock = some k → v.ownBlock = some k ∨ w.heap.size ≤ k := by
  obtain ⟨i0, hi, hz0, hz1, hz2⟩ := ht.info
  cases ad with
  | none =>
    obtain rfl := hn rfl
    obtain rfl : l = [] := List.length_eq_zero_iff.1 hl
    refine ⟨v, w, ?_, by rw [List.append_nil]; exact h, ⟨rfl, rfl, rfl, Nat.le_refl _, fun _ _ _ => rfl⟩, fun k hk => .inl hk⟩
    rcases h.2 with ⟨rfl, h0⟩ | ⟨g, cap, cur, rfl, _, h3, h1, h2, h4, h5⟩
    · have hs := Src.ofNil (w := w) (size := i0.size) ht.und c
      simp [Builtin.append_, run_underlying ht.und, sizeOf, typeInfo, hi, hs.len, hs.cells]
    · have := run_append_room_src (P := Try.prog) (w := w) t t ty e i0 ht.und hi g 0 q.length cap (.slice none 0 c) 0 [] (Src.ofNil w ht.und c) (by omega) (fun j hj => absurd hj (Nat.not_lt_zero _)) (fun j hj => absurd hj (Nat.not_lt_zero _))
      simpa [World.setCells] using this
  | some x =>
    have hnews : ∀ j u, (vu l)[j]? = some u → w.cell? (x.add j) = some u := by
      intro j u hj
      rcases hv with rfl | ⟨g, o, e, hc⟩
      · simp [vu] at hj
      · cases e
        simp only [vu, List.getElem?_map, Option.map_eq_some_iff] at hj
        obtain ⟨y, hy, rfl⟩ := hj
        rw [addr_at]; exact hc j y hy
    obtain ⟨v', w', h1, h2, h3, _, h5⟩ := run_append_own_at (P := Try.prog) w B t ty e i0 _ 1 8 ht.und hi hz0 hz1 hz2 rfl (by decide) v q.length (vu q) h x m c (vu l) (by simp [vu, hl]) hnews (vu_one l) (by unfold maxLen; omega) (by omega) hB
    refine ⟨v', w', h1, ?_, h3, fun k hk => ?_⟩
    · unfold OwnU
      rw [List.length_append, hl]
      unfold vu at h2 ⊢
      rw [List.map_append]
      exact h2
    · rcases h5 with z | z
      · left; rw [← z]; exact hk
      · right; rw [z] at hk; cases hk; exact Nat.le_refl _

theorem step_uints {w : World} {t e : TypeId} (ht : IsNumU t e) {ops : Array Oper} {o : Oper} {a : Act} {K : Act → World → Prop} {Q : Exit → Act → World → Prop} {E : Prop} (hgd : o.guard = none) (s x : Operand)
    (ho : o.op = .call { callee := .builtin .append, args := #[s, x], argTypes := #[t, t] }) {B m c : Nat} {v : Value} {q l : List Int} {ad : Option Addr} (hs : a.eval s = v) (hx : a.eval x = .slice ad m c)
    (hown : OwnU w e B v q) (hB : B ≤ w.heap.size) (hv : UInts w ad l) (hl : l.length = m) (hsm : (q.length + m : Int) ≤ 17592186044416) (hn : ad = none → m = 0) (N : Nat) (hN : q.length + m = N)
    (h : ∀ a' cp' w', OwnU w' e B (.slice a' N cp') (q ++ l) → w.grownBy w' v.ownBlock → (∀ k, (Value.slice a' N cp').ownBlock = some k → v.ownBlock = some k ∨ w.heap.size ≤ k) → K (a.put o.dst (.slice a' N cp')) w') :
    if Region.wanted o (yielded ops a.tmps) = true then Oper.wp Try.prog o a w K Q else E := by
  have hw : Region.wanted o (yielded ops a.tmps) = true := by simp [Region.wanted, hgd]
  rw [if_pos hw]
  obtain ⟨v', w', hr, h2, h3, h4⟩ := append_uints ht (c := c) hown hB hv hl hsm hn o.type
  obtain ⟨a', cp', hv', _⟩ := h2.slice
  rw [List.length_append, hl, hN] at hv'
  subst hv'
  unfold Oper.wp execOp
  simp only [ho, resolve, invoke, builtin, Sem.run_bind, Sem.run_pure, Result.andThen_ok, List.map_toArray, List.map_cons, List.map_nil, hs, hx, hr]
  exact h a' cp' w' h2 h3 h4
theorem wp_uints {t e : TypeId} (ht : IsNumU t e) {ops : Array Oper} {rest : List Oper} {o : Oper} {a : Act} {Q : Exit → Act → World → Prop} {w : World} (hgd : o.guard = none) (s x : Operand)
    (ho : o.op = .call { callee := .builtin .append, args := #[s, x], argTypes := #[t, t] }) {B m c : Nat} {v : Value} {q l : List Int} {ad : Option Addr} (hs : a.eval s = v) (hx : a.eval x = .slice ad m c)
    (hown : OwnU w e B v q) (hB : B ≤ w.heap.size) (hv : UInts w ad l) (hl : l.length = m) (hsm : (q.length + m : Int) ≤ 17592186044416) (hn : ad = none → m = 0) (N : Nat) (hN : q.length + m = N)
    (h : ∀ a' cp' w', OwnU w' e B (.slice a' N cp') (q ++ l) → w.grownBy w' v.ownBlock → (∀ k, (Value.slice a' N cp').ownBlock = some k → v.ownBlock = some k ∨ w.heap.size ≤ k) → wpList Try.prog ops Q rest (a.put o.dst (.slice a' N cp')) w') : wpList Try.prog ops Q (o :: rest) a w :=
  wpList_step fun _ hK => step_uints ht hgd s x ho hs hx hown hB hv hl hsm hn N hN (fun a' cp' w' o' g' l' => hK _ _ (h a' cp' w' o' g' l'))
theorem uints_new (w : World) (x : Int) (T : TypeId) : UInts (w.alloc (.cells #[.int .u64 x] T)) (some ⟨w.heap.size, 0, none⟩) [x] :=
  .inr ⟨_, 0, rfl, fun j u hj => by
    match j, hj with
    | 0, hj => simp at hj; subst hj; rw [World.cell?_alloc_new]; rfl
    | j + 1, hj => simp at hj⟩

theorem numU : IsNumU 62 58 := numU_of Try.underlying62 (by kernel_rfl)
end Go.Proofs.Ytbliagfmpcmfdaa

/-
  Plain numbers: the greatest divisor and the least multiple of a row. No program in this text.
-/
namespace Go.Proofs.Ytbliagfmpcmfdaa

theorem gcd_row (L : List Int) : ∀ s : Int, 0 ≤ s → (∀ z ∈ L, 0 ≤ z) →
    0 ≤ (foldR gcdN (fun _ _ => true) s L).1 ∧ (foldR gcdN (fun _ _ => true) s L).1.toNat ∣ s.toNat ∧ (∀ z ∈ L, (foldR gcdN (fun _ _ => true) s L).1.toNat ∣ z.toNat) ∧
    ∀ d : Nat, d ∣ s.toNat → (∀ z ∈ L, d ∣ z.toNat) → d ∣ (foldR gcdN (fun _ _ => true) s L).1.toNat := by
  induction L with
  | nil => intro s hs _; exact ⟨hs, Nat.dvd_refl _, by simp, fun d h _ => h⟩
  | cons z r ih =>
    intro s hs hz
    rw [foldR_yes rfl]
    have h0 : 0 ≤ gcdN s z := by unfold gcdN; omega
    have e : (gcdN s z).toNat = Nat.gcd s.toNat z.toNat := by unfold gcdN; omega
    obtain ⟨a, b, c, d⟩ := ih (gcdN s z) h0 (fun x hx => hz x (List.mem_cons_of_mem _ hx))
    rw [e] at b d
    refine ⟨a, Nat.dvd_trans b (Nat.gcd_dvd_left _ _), ?_, ?_⟩
    · intro x hx
      rcases List.mem_cons.1 hx with h | h
      · rw [h]; exact Nat.dvd_trans b (Nat.gcd_dvd_right _ _)
      · exact c x h
    · intro k hk hall
      exact d k (Nat.dvd_gcd hk (hall z List.mem_cons_self)) (fun x hx => hall x (List.mem_cons_of_mem _ hx))

theorem lcm_step (x y : Nat) (hy : 0 < y) : lcmN x y = (if Nat.lcm x y < 18446744073709551616 then ((Nat.lcm x y : Nat) : Int) else 0) ∧ lcmB x y = decide (Nat.lcm x y < 18446744073709551616) := by
  have hy' : ¬ (y : Int) = 0 := by omega
  have e : (x : Int) / (Nat.gcd x y : Nat) * y = ((Nat.lcm x y : Nat) : Int) := by
    have : Nat.lcm x y = x / Nat.gcd x y * y := by
      unfold Nat.lcm; exact (Nat.div_mul_right_comm (Nat.gcd_dvd_left x y) y).symm
    rw [this]; simp
  unfold lcmN lcmB mulN mulB
  rw [if_neg hy', if_neg hy', Int.toNat_natCast, Int.toNat_natCast, e]
  constructor
  · split <;> split <;> omega
  · congr 1
    exact propext ⟨fun h => by omega, fun h => by omega⟩

/-- The fold over multiples: what it answers if it is one, and why it is none. -/
theorem lcm_row (L : List Int) : ∀ s : Int, 0 < s → (∀ z ∈ L, 0 ≤ z) →
    ((foldR lcmN lcmB s L).2 = true → 0 < (foldR lcmN lcmB s L).1 ∧ s.toNat ∣ (foldR lcmN lcmB s L).1.toNat ∧ (∀ z ∈ L, 0 < z ∧ z.toNat ∣ (foldR lcmN lcmB s L).1.toNat) ∧
      (L ≠ [] → (foldR lcmN lcmB s L).1 < 18446744073709551616) ∧ ∀ m : Nat, s.toNat ∣ m → (∀ z ∈ L, z.toNat ∣ m) → (foldR lcmN lcmB s L).1.toNat ∣ m) ∧
    ((foldR lcmN lcmB s L).2 = false → (foldR lcmN lcmB s L).1 = 0 ∧ ((∃ z ∈ L, z = 0) ∨ ∀ m : Nat, 0 < m → s.toNat ∣ m → (∀ z ∈ L, z.toNat ∣ m) → 18446744073709551616 ≤ m)) := by
  induction L with
  | nil =>
    intro s hs _
    rw [foldR_nil]
    exact ⟨fun _ => ⟨hs, Nat.dvd_refl _, by simp, fun h => absurd rfl h, fun m h _ => h⟩, fun h => by cases h⟩
  | cons z r ih =>
    intro s hs hz
    have hz0 := hz z List.mem_cons_self
    obtain ⟨x, rfl⟩ := Int.eq_ofNat_of_zero_le (Int.le_of_lt hs)
    obtain ⟨y, rfl⟩ := Int.eq_ofNat_of_zero_le hz0
    by_cases hy : y = 0
    · subst hy
      have hB : lcmB x ((0 : Nat) : Int) = false := by simp [lcmB]
      have hN : lcmN x ((0 : Nat) : Int) = 0 := by simp [lcmN]
      rw [foldR_no hB, hN]
      exact ⟨fun h => (by cases h), fun _ => ⟨rfl, .inl ⟨_, List.mem_cons_self, rfl⟩⟩⟩
    · obtain ⟨hN, hB⟩ := lcm_step x y (by omega)
      by_cases h : Nat.lcm x y < 18446744073709551616
      · have hB' : lcmB x y = true := by rw [hB]; exact decide_eq_true h
        rw [foldR_yes hB', hN, if_pos h]
        have hl : 0 < Nat.lcm x y := Nat.lcm_pos (by omega) (by omega)
        obtain ⟨i1, i2⟩ := ih ((Nat.lcm x y : Nat) : Int) (by omega) (fun x hx => hz x (List.mem_cons_of_mem _ hx))
        refine ⟨fun ht => ?_, fun hf => ?_⟩
        · obtain ⟨a, b, c, d, e⟩ := i1 ht
          rw [Int.toNat_natCast] at b e ⊢
          refine ⟨a, Nat.dvd_trans (Nat.dvd_lcm_left x y) b, ?_, fun _ => ?_, ?_⟩
          · intro u hu
            rcases List.mem_cons.1 hu with g | g
            · rw [g, Int.toNat_natCast]; exact ⟨by omega, Nat.dvd_trans (Nat.dvd_lcm_right x y) b⟩
            · exact c u g
          · cases r with
            | nil => rw [foldR_nil]; show ((Nat.lcm x y : Nat) : Int) < _; omega
            | cons _ _ => exact d (by simp)
          · intro m hm hall
            refine e m (Nat.lcm_dvd hm ?_) (fun u hu => hall u (List.mem_cons_of_mem _ hu))
            have := hall y List.mem_cons_self
            rwa [Int.toNat_natCast] at this
        · obtain ⟨a, b⟩ := i2 hf
          refine ⟨a, ?_⟩
          rcases b with ⟨u, hu, hu0⟩ | b
          · exact .inl ⟨u, List.mem_cons_of_mem _ hu, hu0⟩
          · right
            intro m hm hsm hall
            refine b m hm ?_ (fun u hu => hall u (List.mem_cons_of_mem _ hu))
            rw [Int.toNat_natCast] at hsm ⊢
            have := hall y List.mem_cons_self
            rw [Int.toNat_natCast] at this
            exact Nat.lcm_dvd hsm this
      · have hB' : lcmB x y = false := by rw [hB]; exact decide_eq_false h
        rw [foldR_no hB', hN, if_neg h]
        refine ⟨fun ht => (by cases ht), fun _ => ⟨rfl, .inr ?_⟩⟩
        intro m hm hsm hall
        rw [Int.toNat_natCast] at hsm
        have := hall y List.mem_cons_self
        rw [Int.toNat_natCast] at this
        have := Nat.le_of_dvd hm (Nat.lcm_dvd hsm this)
        omega

/-- Of two numbers below 2^31 and 1: divisor and multiple. -/
theorem pair_row (x y : Nat) (hx : 0 < x) (hy : 0 < y) (hx1 : x ≤ 2147483648) (hy1 : y ≤ 2147483648) :
    ∃ h t u k : Nat, foldR gcdN (fun _ _ => true) 0 [(x : Int), (y : Int)] = ((h : Int), true) ∧ foldR lcmN lcmB 1 [(x : Int), (y : Int)] = ((k : Int), true) ∧
      0 < h ∧ h ≤ x ∧ 0 < k ∧ k < 18446744073709551616 ∧ k / h = t ∧ h * t = k ∧ k / x = u ∧ u * h = y := by
  have hh : 0 < Nat.gcd x y := Nat.gcd_pos_of_pos_left y hx
  obtain ⟨a, ha⟩ := Nat.gcd_dvd_left x y
  obtain ⟨b, hb⟩ := Nat.gcd_dvd_right x y
  have hk : Nat.lcm x y = x * b := by
    unfold Nat.lcm
    generalize Nat.gcd x y = g at *
    rw [hb, Nat.mul_comm g b, ← Nat.mul_assoc]
    exact Nat.mul_div_cancel _ hh
  have hkpos : 0 < Nat.lcm x y := Nat.lcm_pos hx hy
  have hkle : Nat.lcm x y ≤ 2147483648 * 2147483648 := Nat.le_trans (Nat.le_of_dvd (Nat.mul_pos hx hy) (Nat.lcm_dvd (Nat.dvd_mul_right x y) (Nat.dvd_mul_left y x))) (Nat.mul_le_mul hx1 hy1)
  have e1 : foldR gcdN (fun _ _ => true) 0 [(x : Int), (y : Int)] = (((Nat.gcd x y : Nat) : Int), true) := by
    rw [foldR_yes rfl, foldR_yes rfl, foldR_nil]
    simp [gcdN]
  obtain ⟨s1, s2⟩ := lcm_step 1 x hx
  obtain ⟨s3, s4⟩ := lcm_step x y hy
  rw [Nat.lcm_one_left] at s1 s2
  rw [if_pos (by omega)] at s1 s3
  have e2 : foldR lcmN lcmB 1 [(x : Int), (y : Int)] = (((Nat.lcm x y : Nat) : Int), true) := by
    have q1 : lcmB 1 (x : Int) = true := by rw [show (1 : Int) = ((1 : Nat) : Int) from rfl, s2]; exact decide_eq_true (by omega)
    rw [foldR_yes q1, show (1 : Int) = ((1 : Nat) : Int) from rfl, s1]
    have q2 : lcmB (x : Int) (y : Int) = true := by rw [s4]; exact decide_eq_true (by omega)
    rw [foldR_yes q2, foldR_nil, s3]
  refine ⟨Nat.gcd x y, Nat.lcm x y / Nat.gcd x y, b, Nat.lcm x y, e1, e2, hh, Nat.gcd_le_left y hx, hkpos, by omega, rfl, ?_, ?_, ?_⟩
  · exact Nat.mul_div_cancel' (Nat.dvd_trans (Nat.gcd_dvd_left x y) (Nat.dvd_lcm_left x y))
  · rw [hk]; exact Nat.mul_div_cancel_left _ hx
  · rw [Nat.mul_comm]; exact hb.symm

end Go.Proofs.Ytbliagfmpcmfdaa

/-
  The walk over the document's own least multiple.
-/
namespace Go.Proofs.Ytbliagfmpcmfdaa
open Go.RowKit

theorem lcm_with_zero (zs : List Int) (hz : ∀ z ∈ zs, U64 z) (h : ∃ z ∈ zs, z = 0) : foldR lcmN lcmB 1 zs = (0, false) := by
  obtain ⟨l1, l2⟩ := lcm_row zs 1 (by omega) (fun z h => (hz z h).1)
  obtain ⟨z, hm, h0⟩ := h
  generalize foldR lcmN lcmB 1 zs = r at l1 l2
  obtain ⟨n, ok⟩ := r
  cases ok with
  | true => have := ((l1 rfl).2.2.1 z hm).1; omega
  | false => have := (l2 rfl).1; simp only at this; rw [this]

set_option maxHeartbeats 1000000 in
theorem rlcm_any (zs : List Int) (hz : ∀ z ∈ zs, U64 z) (hn : (zs.length : Int) ≤ 9223372036854775807) (cap : Nat) (ao : Option Addr) (w : World) (hr : Reads w w.heap.size ao zs) :
    Calls Try.prog 41 #[.slice ao zs.length cap] w fun e w' => e = .returned (.agg #[.int .u64 (foldR lcmN lcmB 1 zs).1, .bool (foldR lcmN lcmB 1 zs).2]) ∧ Below w.heap.size w w' := by
  have HZ0 := Lib.hid (lcm_with_zero zs hz)
  have HR := Lib.hid hr; clear hr
  have HZ := Lib.hid hz; clear hz
  have H0 : Hid (true = true → foldR lcmN lcmB 1 (zs.drop 0) = foldR lcmN lcmB 1 zs) := by rw [List.drop_zero]; exact fun _ => rfl
  generalize foldR lcmN lcmB 1 zs = res at H0 HZ0 ⊢
  go_enter Try.func41, Try.ntmps41
  go_wp2
  go_loop [4] (fun i => ∃ (k : Nat), k ≤ zs.length ∧ Hid (∀ j, j < k → zs.getD j 0 ≠ 0) ∧ i = .int .i64 k) (fun i => zs.length - (intOf i).toNat)
  case atStart => exact ⟨0, Nat.zero_le _, fun j hj => absurd hj (Nat.not_lt_zero _), rfl⟩
  case round =>
    obtain ⟨k, hk, hnz, rfl⟩ := hrel
    by_cases hlt : k < zs.length
    · have hmem : zs.getD k 0 ∈ zs := by rw [List.getD_eq_getElem?_getD, List.getElem?_eq_getElem hlt]; exact List.getElem_mem _
      obtain ⟨b, off, rfl, hb, hcells⟩ : ∃ b off, ao = some ⟨b, off, none⟩ ∧ b < w.heap.size ∧ ∀ k, k < zs.length → w.cell? ⟨b, off + k, none⟩ = some (.int .u64 (zs.getD k 0)) := by
        rcases HR.out with h | h
        · rw [h] at hlt; exact absurd hlt (Nat.not_lt_zero _)
        · exact h
      have hc := hcells k hlt
      clear hcells
      by_cases hzz : zs.getD k 0 = 0
      · have hres : res = (0, false) := HZ0.out ⟨_, hmem, hzz⟩
        rw [hzz] at hc
        clear hmem hzz
        go_wp2
        refine bodyPost_ret (v := .agg #[.int .u64 0, .bool false]) (by simp [results, Try.results41, go_sem]) rfl ⟨rfl, ((Below.refl _ _).alloc (Nat.le_refl _) _).alloc (by simp) _⟩
      · have hne : (zs.getD k 0 == 0) = false := by rw [beq_eq_false_iff_ne]; exact hzz
        have hnz' : Hid (∀ j, j < k + 1 → zs.getD j 0 ≠ 0) := by
          intro j hj
          rcases (show j < k ∨ j = k by omega) with h | h
          · exact hnz.out j h
          · rw [h]; exact hzz
        generalize zs.getD k 0 = z at hc hne
        clear hmem hzz hnz
        go_wp2
        go_round
        case rel => exact ⟨k + 1, hlt, hnz', by go_num⟩
        case measure => simp [intOf]; omega
    · have hke : k = zs.length := by omega
      subst hke
      go_wp2
      go_loopw [5] (fun i wr => ∃ (k : Nat) (a : Int) (ok : Bool), k ≤ zs.length ∧ (ok = true → 0 < a) ∧ U64 a ∧ Hid (if ok = true then foldR lcmN lcmB a (zs.drop k) = res else res = (a, false)) ∧ i = .int .i64 k ∧
        wr.cell? ⟨w.heap.size + 1, 0, none⟩ = some (.int .u64 a) ∧ wr.cell? ⟨w.heap.size + 1, 1, none⟩ = some (.bool ok) ∧ wr.frozen? ⟨w.heap.size + 1, 0, none⟩ = false ∧ wr.frozen? ⟨w.heap.size + 1, 1, none⟩ = false ∧
        (∃ v0, wr.cell? ⟨w.heap.size, 0, none⟩ = some v0) ∧ (∃ v1, wr.cell? ⟨w.heap.size, 1, none⟩ = some v1) ∧ wr.frozen? ⟨w.heap.size, 0, none⟩ = false ∧ wr.frozen? ⟨w.heap.size, 1, none⟩ = false ∧
        w.heap.size + 2 ≤ wr.heap.size ∧ Below w.heap.size w wr) (fun i _ => zs.length - (intOf i).toNat)
      case atStart =>
        refine ⟨0, 1, true, Nat.zero_le _, fun _ => by omega, ⟨by omega, by omega⟩, by simpa using H0, rfl, by simp, by simp, by simp, by simp, ⟨.int .u64 0, by simp⟩, ⟨.bool false, by simp⟩, by simp, by simp, by simp, ((Below.refl _ _).alloc (Nat.le_refl _) _).alloc (by simp) _⟩
      case round =>
        clear hlt hk
        obtain ⟨k, a, ok, hk, ha0, ha, hres, rfl, c0, c1, f0, f1, ⟨v0, r0⟩, ⟨v1, r1⟩, g0, g1, hsz, hbel⟩ := hrel
        by_cases hlt : k < zs.length
        · have hz : U64 (zs.getD k 0) := HZ.out _ (by rw [List.getD_eq_getElem?_getD, List.getElem?_eq_getElem hlt]; exact List.getElem_mem _)
          have hd := drop_cons zs k hlt
          obtain ⟨b, off, rfl, hb, hcells⟩ : ∃ b off, ao = some ⟨b, off, none⟩ ∧ b < w.heap.size ∧ ∀ k, k < zs.length → wr.cell? ⟨b, off + k, none⟩ = some (.int .u64 (zs.getD k 0)) := by
            rcases HR.out.below hbel with h | h
            · rw [h] at hlt; exact absurd hlt (Nat.not_lt_zero _)
            · exact h
          have hc := hcells k hlt
          have hzne := hnz.out k hlt
          clear hcells
          cases ok with
          | true =>
            have H1 : foldR lcmN lcmB a (zs.drop k) = res := by have := hres.out; simpa using this
            rw [hd] at H1
            generalize zs.getD k 0 = z at hc H1 hz hzne
            have ha0 := ha0 rfl
            have hgood := lcmN_good ha ha0 hz
            have hs : U64 (lcmN a z) := by
              by_cases h : lcmB a z = true
              · exact (hgood h).1
              · unfold lcmN; rw [if_neg hzne]; unfold lcmB at h; rw [if_neg hzne] at h
                unfold mulB at h; unfold mulN
                rw [if_neg (by simpa using h)]; exact ⟨by omega, by omega⟩
            have H2 : Hid (if lcmB a z = true then foldR lcmN lcmB (lcmN a z) (zs.drop (k + 1)) = res else res = (lcmN a z, false)) := by
              by_cases h : lcmB a z = true
              · rw [foldR_yes h] at H1; rw [if_pos h]; exact H1
              · rw [if_neg h]; rw [foldR_no (by simpa using h)] at H1; exact H1.symm
            obtain ⟨x, rfl⟩ := Int.eq_ofNat_of_zero_le ha.1
            obtain ⟨y, rfl⟩ := Int.eq_ofNat_of_zero_le hz.1
            have hax := ha.2; have hzy := hz.2
            have G := rgcd_any x y (by omega) (by omega)
            have hg : 1 ≤ ((Nat.gcd x y : Nat) : Int) := by have := Nat.gcd_pos_of_pos_left y (show 0 < x by omega); omega
            have hN : lcmN x y = mulN ((x : Int) / (Nat.gcd x y : Nat)) y := by unfold lcmN; rw [if_neg hzne, Int.toNat_natCast, Int.toNat_natCast]
            have hB : lcmB x y = mulB ((x : Int) / (Nat.gcd x y : Nat)) y := by unfold lcmB; rw [if_neg hzne, Int.toNat_natCast, Int.toNat_natCast]
            generalize Nat.gcd x y = g at G hg hN hB
            have h1 : 0 ≤ (x : Int) / g := Int.ediv_nonneg (by omega) (by omega)
            have h2 : (x : Int) / g ≤ x := Int.ediv_le_self _ (by omega)
            have M := rmul_any ((x : Int) / g) y ⟨h1, by omega⟩ hz
            rw [← hN, ← hB] at M
            clear hN hB
            have hl := fun h => (hgood h).2
            generalize lcmN x y = s at M hs H2 hl
            generalize lcmB x y = sb at M H2 hl
            have HL := Lib.hid hl
            have M := Lib.hid M
            have G := Lib.hid G
            have h3 : (x : Int) / g ≤ 18446744073709551615 := by omega
            have hg1 : ((g : Int) == 0) = false := by rw [beq_eq_false_iff_ne]; omega
            have hg2 : ¬ (g : Int) = 0 := by omega
            have hg3 : ¬ g = 0 := by omega
            clear H1 hres hd h2 hl hgood
            go_wp2_with (fail)
            go_still_tail 14, (by kernel_rfl)
            still_call ((G.out _).mono fun _ _ h => ⟨h.1, h.2.symm⟩)
            repeat still_step
            refine wpStill_nil ?_
            go_wp2_with (go_at_call 38; (refine (M.out _).mono ?_); rintro e w' ⟨rfl, hw⟩; have d0 := l_kept_cell hw c0; have d1 := l_kept_cell hw c1; have d2 := kept_frozen hw c0 f0; have d3 := kept_frozen hw c1 f1)
            go_roundw
            case rel =>
              obtain ⟨e1, e2, e3, e4, e5, e6⟩ := two_set (.int .u64 s) (.bool sb) d0 d1
              exact ⟨k + 1, s, sb, hlt, HL.out, hs, H2, by go_num, e1, e2, by rw [e4]; exact d2, by rw [e4]; exact d3, ⟨v0, by rw [e3 _ _ (by omega)]; exact l_kept_cell hw r0⟩, ⟨v1, by rw [e3 _ _ (by omega)]; exact l_kept_cell hw r1⟩, by rw [e4]; exact kept_frozen hw r0 g0, by rw [e4]; exact kept_frozen hw r1 g1,
                by rw [e5]; exact Nat.le_trans hsz hw.size, e6 _ _ (hbel.drew.trans (hw.mono hbel.size)) (by omega)⟩
            case measure => simp [intOf]; omega
          | false =>
            have H1 : res = (a, false) := by have := hres.out; simpa using this
            clear hres hd
            go_wp2
            obtain ⟨e1, e2, _, _, _, e6⟩ := two_set (.int .u64 a) (.bool false) r0 r1
            refine bodyPost_ret (v := .agg #[.int .u64 a, .bool false]) (by simp [results, Try.results41, go_sem, e1, e2]) rfl ⟨by rw [H1], e6 _ _ hbel (Nat.le_refl _)⟩
        · have hke : k = zs.length := by omega
          subst hke
          have H1 : res = (a, ok) := by
            have := hres.out
            rw [List.drop_length, foldR_nil] at this
            cases ok with
            | true => simpa using this.symm
            | false => simpa using this
          clear hres
          go_wp2
          obtain ⟨e1, e2, _, _, _, e6⟩ := two_set (.int .u64 a) (.bool ok) r0 r1
          refine bodyPost_ret (v := .agg #[.int .u64 a, .bool ok]) (by simp [results, Try.results41, go_sem, e1, e2]) rfl ⟨by rw [H1], e6 _ _ hbel (Nat.le_refl _)⟩

end Go.Proofs.Ytbliagfmpcmfdaa

/-
  The walks over the document's period, and a period's work.
-/
namespace Go.Proofs.Ytbliagfmpcmfdaa
open Go.RowKit Go.Maps

/-- The least multiple of all periods, and whether it is one. -/
def perR (l : List Dm) : Int × Bool := foldR lcmN lcmB 1 (l.map Dm.t)
/-- The period, or why there is none. -/
def perS (l : List Dm) : Int × Int := if okL l = true then (if (perR l).2 = true ∧ (perR l).1 ≤ 1048576 then ((perR l).1, 0) else (0, 16)) else (0, 1)
theorem perS_bad {l : List Dm} (h : okL l = false) : perS l = (0, 1) := if_neg (by rw [h]; simp)
theorem perS_is {l : List Dm} (h : okL l = true) (h1 : (perR l).2 = true) (h2 : (perR l).1 ≤ 1048576) : perS l = ((perR l).1, 0) := by unfold perS; rw [if_pos h, if_pos ⟨h1, h2⟩]
theorem perS_not {l : List Dm} (h : okL l = true) (h1 : ¬ ((perR l).2 = true ∧ (perR l).1 ≤ 1048576)) : perS l = (0, 16) := by unfold perS; rw [if_pos h, if_neg h1]
theorem per_row {l : List Dm} (h : okL l = true) : ∀ z ∈ l.map Dm.t, 0 < z ∧ z ≤ 1073741824 := fun z hz => by
  obtain ⟨x, hx, rfl⟩ := List.mem_map.1 hz
  have q := (okL_iff.1 h).1 x hx
  have := q.d1; have := q.d2; have := q.t2
  omega
theorem per_pos {l : List Dm} (h : okL l = true) : 0 ≤ (perR l).1 ∧ ((perR l).2 = true → 0 < (perR l).1 ∧ ∀ x ∈ l, x.t ∣ (perR l).1) := by
  obtain ⟨l1, l2⟩ := lcm_row (l.map Dm.t) 1 (by omega) (fun z hz => by have := per_row h z hz; omega)
  unfold perR
  generalize foldR lcmN lcmB 1 (l.map Dm.t) = r at l1 l2 ⊢
  cases hr : r.2 with
  | false => exact ⟨by have := (l2 hr).1; omega, fun q => by cases q⟩
  | true =>
    obtain ⟨p1, _, p2, _⟩ := l1 hr
    refine ⟨by omega, fun _ => ⟨p1, fun x hx => ?_⟩⟩
    obtain ⟨q1, q2⟩ := p2 x.t (List.mem_map.2 ⟨x, hx, rfl⟩)
    have := Int.natCast_dvd_natCast.2 q2
    rwa [Int.toNat_of_nonneg (by omega), Int.toNat_of_nonneg (by omega)] at this
theorem reads_of {w : World} {a : Option Addr} {l : List Int} (h : UInts w a l) : Reads w w.heap.size a l := by
  rcases h with rfl | ⟨g, o, rfl, hc⟩
  · exact .inl rfl
  · cases l with
    | nil => exact .inl rfl
    | cons x l =>
      refine .inr ⟨g, o, rfl, block_of_cell (hc 0 x rfl), fun k hk => hc k _ ?_⟩
      rw [List.getD_eq_getElem?_getD, List.getElem?_eq_getElem hk]; rfl

set_option maxRecDepth 100000 in
set_option maxHeartbeats 8000000 in
theorem rperiod_any (l : List Dm) (n c : Nat) (hl : l.length = n) (hn : (n : Int) ≤ 9223372036854775807) (a : Option Addr) (w : World) (hv : GView w a l) :
    Calls Try.prog 23 #[.slice a n c] w fun e w' => e = .returned (.tuple #[.int .i64 (perS l).1, .int .i64 (perS l).2]) ∧ Below w.heap.size w w' := by
  have HV := Lib.hid hv
  have HL := Lib.hid hl
  have RC := Lib.hid (fun v (hb : Below w.heap.size w v) => rcheck_any l n c hl hn a v (hv.below hb))
  clear hv hl
  by_cases hok : okL l = true
  rotate_left
  · have hok' : okL l = false := by cases e : okL l with | true => exact absurd e hok | false => rfl
    have HP := Lib.hid (perS_bad hok')
    rw [hok'] at RC
    clear hok hok'
    go_enter Try.func23, Try.ntmps23
    go_wp2_with (go_at_call 26; (with_reducible refine (RC.out _ (by repeat (first | exact Below.refl _ _ | (with_reducible assumption) | refine bw_alloc ?_ _ | refine bw_drew ?_))).mono ?_); rintro e w1 ⟨rfl, bx1⟩)
    go_ret2
    exact ⟨by rw [HP.out]; rfl, bx1⟩
  have HOK := Lib.hid hok
  rw [hok] at RC
  have HR := Lib.hid (per_row hok)
  have hn64 : n ≤ 64 := by have := (okL_iff.1 hok).2; have := HL.out; omega
  clear hok
  go_enter Try.func23, Try.ntmps23
  go_upto_region 2 with (go_at_call 26; (with_reducible refine (RC.out _ (by repeat (first | exact Below.refl _ _ | (with_reducible assumption) | refine bw_alloc ?_ _ | refine bw_drew ?_))).mono ?_); rintro e w1 ⟨rfl, bx1⟩; have HB1 := Lib.hid bx1; clear bx1)
  go_upto_block 0 with fail
  go_cut [5] (fun u wx => ∃ (a' : Option Addr) (c' : Nat), u = .slice a' n c' ∧ Hid (UInts wx a' (l.map Dm.t)) ∧ Hid (Below w.heap.size w wx))
  case first =>
    go_wp2
    go_loopw [5, 6] (fun g u wr => ∃ (k : Nat) (a' : Option Addr) (c' : Nat), k ≤ n ∧ u = .int .i64 k ∧ g = .slice a' k c' ∧ Hid (OwnU wr 58 w1.heap.size (.slice a' k c') ((l.take k).map Dm.t)) ∧ Hid (Below w1.heap.size w1 wr)) (fun _ u _ => (n - intOf u).toNat)
    case atStart => exact ⟨0, none, 0, Nat.zero_le _, rfl, rfl, OwnU.nil _ _ _, Below.refl _ _⟩
    case round =>
      obtain ⟨k, a', c', hk, rfl, rfl, HO, HB⟩ := hrel
      by_cases hlt : k < n
      · obtain ⟨x, hx⟩ := nth_of HL.out hlt
        obtain ⟨g, o, rfl, ⟨c0, c1, c2⟩⟩ := (HV.out.below (below_up HB1.out HB.out)).at_ hx
        have hk1 : (k : Int) < (n : Int) := by omega
        have hk0 : (0 : Int) ≤ (k : Int) := by omega
        have hxt := HR.out x.t (List.mem_map.2 ⟨x, List.mem_of_getElem? hx, rfl⟩)
        have e1 : IntKind.u64.wrap x.t = x.t := IntWalk.u64_in _ (by omega)
        have HX : Hid ((l.take (k + 1)).map Dm.t = (l.take k).map Dm.t ++ [x.t]) := by show _ = _; rw [List.take_add_one, hx, List.map_append]; rfl
        have HLN : Hid (((l.take k).map Dm.t).length = k) := by show _ = _; rw [List.length_map, List.length_take]; have := HL.out; omega
        have HSM : Hid (((((l.take k).map Dm.t).length + 1 : Nat) : Int) ≤ 17592186044416) := by show _ ≤ _; rw [HLN.out]; omega
        have HNN : Hid (((l.take k).map Dm.t).length + 1 = k + 1) := by show _ = _; rw [HLN.out]
        have HSZ : Hid (w1.heap.size ≤ wr.heap.size) := HB.out.size
        generalize (l.take k).map Dm.t = Q at *
        clear hx hxt c0 c1
        go_wp2_with (at_builtin; refine wp_uints numU (m := 1) (l := [x.t]) rfl _ _ rfl rfl rfl (HO.out.below (by repeat (first | exact Below.refl _ _ | (with_reducible assumption) | refine bw_alloc ?_ _ | refine bw_drew ?_))) (Nat.le_trans HSZ.out ((by repeat (first | exact Below.refl _ _ | (with_reducible assumption) | refine bw_alloc ?_ _ | refine bw_drew ?_)) : Below wr.heap.size wr _).size) (uints_new wr x.t _) rfl (by have := HSM.out; omega) (fun z => by cases z) (k + 1) HNN.out ?_; intro a6 c6 w6 o6 n6 l6; rw [← HX.out] at o6; have HO6 := Lib.hid o6; have HB6 : Hid (Below w1.heap.size w1 w6) := (HB.out.trans (((by repeat (first | exact Below.refl _ _ | (with_reducible assumption) | refine bw_alloc ?_ _ | refine bw_drew ?_)) : Below wr.heap.size wr _).mono HSZ.out)).grown n6 (Nat.le_trans HSZ.out ((by repeat (first | exact Below.refl _ _ | (with_reducible assumption) | refine bw_alloc ?_ _ | refine bw_drew ?_)) : Below wr.heap.size wr _).size) (fun q hq => (OwnU.new (HO.out.below (by repeat (first | exact Below.refl _ _ | (with_reducible assumption) | refine bw_alloc ?_ _ | refine bw_drew ?_))) hq).1); clear o6 n6 l6)
        go_roundw
        case rel => exact ⟨k + 1, a6, c6, by omega, by go_num, rfl, HO6, HB6⟩
        case measure => simp [intOf]; omega
      · obtain rfl : k = n := by omega
        have HE : Hid (UInts wr a' (l.map Dm.t)) := by
          obtain ⟨a9, c9, e9, hu, _⟩ := HO.out.slice
          obtain ⟨rfl, _, rfl⟩ := Value.slice.inj e9
          have : (l.take k).map Dm.t = l.map Dm.t := by rw [List.take_of_length_le (by have := HL.out; omega)]
          rw [this] at hu; exact hu
        have HBB := Lib.hid (below_up HB1.out HB.out)
        clear HO HB
        go_wp2_with fail
        go_meet
        exact ⟨a', c', rfl, HE, HBB⟩
  case rest =>
    obtain ⟨a', c', rfl, HU, HB⟩ := hcut
    have LC : Hid (∀ v, Below wc.heap.size wc v → Calls Try.prog 41 #[.slice a' n c'] v fun e w' => e = .returned (.agg #[.int .u64 (perR l).1, .bool (perR l).2]) ∧ Below v.heap.size v w') := fun v hb => by
      have := rlcm_any (l.map Dm.t) (fun z hz => by have := HR.out z hz; exact ⟨by omega, by omega⟩) (by rw [List.length_map, HL.out]; omega) c' a' v (reads_of (HU.out.below hb))
      rw [List.length_map, HL.out] at this
      exact this
    have hp := per_pos HOK.out
    have HS1 := Lib.hid (fun h1 h2 => perS_is HOK.out h1 h2)
    have HS2 := Lib.hid (fun h => perS_not HOK.out h)
    generalize (perR l).1 = P at *
    generalize (perR l).2 = pb at *
    clear HR HU HOK
    go_upto_region 10 with (go_at_call 41; (with_reducible refine (LC.out _ (by repeat (first | exact Below.refl _ _ | (with_reducible assumption) | refine bw_alloc ?_ _ | refine bw_drew ?_))).mono ?_); rintro e w5 ⟨rfl, bx5⟩; have HB5 := Lib.hid (below_up HB.out bx5); clear bx5)
    obtain ⟨gx, hgx⟩ : ∃ gx, w5.heap.size = gx := ⟨_, rfl⟩
    have hq := gt_new w5 P pb
    rw [hgx] at hq ⊢
    refine gen_world (fun v => Gt v gx P pb ∧ Below w.heap.size w v) ⟨hq, below_up HB5.out (by repeat (first | exact Below.refl _ _ | (with_reducible assumption) | refine bw_alloc ?_ _ | refine bw_drew ?_))⟩ ?_
    intro V6 ⟨hx6, hb6⟩
    have HB6 := Lib.hid hb6
    have x0 : V6.cell? ⟨gx, 0, none⟩ = some (.int .u64 P) := by rw [blk_cell hx6]; rfl
    have x1 : V6.cell? ⟨gx, 1, none⟩ = some (.bool pb) := by rw [blk_cell hx6]; rfl
    clear hx6 hb6 hq hgx HB5 LC HB
    cases pb with
    | false =>
      have HE := Lib.hid (HS2.out (fun h => by cases h.1))
      clear hp HS1 HS2
      go_wp2_with fail
      go_ret2
      exact ⟨by rw [HE.out]; rfl, HB6.out⟩
    | true =>
      by_cases hq : P ≤ 1048576
      · have hq1 : ¬ 1048576 < P := by omega
        have HE := Lib.hid (HS1.out rfl hq)
        have e1 : IntKind.i64.wrap P = P := IntWalk.i64_in _ (by omega)
        clear hp HS1 HS2 hq
        go_wp2_with fail
        go_ret2
        exact ⟨by rw [HE.out]; rfl, HB6.out⟩
      · have hq1 : 1048576 < P := by omega
        have HE := Lib.hid (HS2.out (fun h => hq h.2))
        clear hp HS1 HS2 hq
        go_wp2_with fail
        go_ret2
        exact ⟨by rw [HE.out]; rfl, HB6.out⟩
end Go.Proofs.Ytbliagfmpcmfdaa
