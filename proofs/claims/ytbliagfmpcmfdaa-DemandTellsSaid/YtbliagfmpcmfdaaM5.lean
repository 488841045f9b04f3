/- Texts of this claim, put together: GLaw1, GLaw2, GLaw3, GLaw4, GLaw5, GLaw6, GLaw7, GOpen. -/
import Derived.Test.YtbliagfmpcmfdaaM4
import Derived.ProofKit
import Derived.OpenShut
import Derived.ChangeOld
import Derived.Below
set_option linter.unusedVariables false
set_option linter.unusedSimpArgs false

/-
  The walk over the statement that work due is the sum of what each job that is due demands.
-/
namespace Go.Proofs.Ytbliagfmpcmfdaa
open Go.RowKit Go.Maps

set_option maxRecDepth 100000 in
set_option maxHeartbeats 8000000 in
theorem law_sums (W : World) (a : Option Addr) (n cap : Nat) (l : Nat → Int × Int × Int) (hn : Trips W a n l) (t : Int) :
    Calls Try.prog 4 #[.slice a n cap, .int .i64 t] W fun e w' => e = .returned (.bool true) ∧ Below W.heap.size W w' := by
  have MC := Lib.hid (fun v (hb : Below W.heap.size W v) => made_dems (hn.below hb) cap)
  obtain ⟨j, hj, hband⟩ := and255 t
  have AC := Lib.hid (fun v => awake_any v)
  clear hn
  go_enter Try.func4, Try.ntmps4
  go_upto_region 2 with (go_at_call 9; (with_reducible refine (AC.out _).mono ?_); rintro e w1 ⟨rfl, b1⟩)
  go_upto_region 3 with (go_at_call 11; (with_reducible refine (MC.out _ b1).mono ?_); rintro e w2 ⟨⟨a', N, c', M, rfl, hd, hN, hg⟩, b2⟩; have HD := Lib.hid hd; have HG := Lib.hid hg; have HB := Lib.hid (below_up b1 b2); clear hd hg b2)
  clear MC AC b1
  have hlen := HD.out.len
  have hN6 : M.length ≤ 6 := by omega
  have HOF := Lib.hid (fun v (hb : Below w2.heap.size w2 v) => pof_any (HD.out.below hb) (j : Int) (by unfold I64; omega))
  rw [ofA_good HG.out hN6 (show (0 : Int) ≤ j by omega) (by omega)] at HOF
  have hdl : dueA M j = dueN M j N := by unfold dueA; rw [hlen]
  rw [hdl] at HOF
  have HSM : Hid (∀ k, k ≤ N → 0 ≤ dueN M j k ∧ dueN M j k ≤ 432144) := fun k hk => by
    have h1 := due_mono HG.out.ok j (show k ≤ M.length by omega)
    have h0 := due_mono HG.out.ok j (Nat.zero_le k)
    have h2 := (due_small HG.out hN6 (show (0 : Int) ≤ j by omega) (by omega)).2
    have h0' : (0 : Int) ≤ dueN M j k := h0
    unfold dueA at h2
    omega
  have HL := Lib.hid hlen
  clear hlen hN6 hdl
  go_upto_block 0 with fail
  go_cut [8] (fun u wx => u = .int .i64 (dueN M j N) ∧ Hid (Below w2.heap.size w2 wx))
  case first =>
    go_wp2
    go_loopw [8, 9] (fun g u wr => ∃ k : Nat, k ≤ N ∧ u = .int .i64 k ∧ g = .int .i64 (dueN M j k) ∧ Hid (Below w2.heap.size w2 wr)) (fun _ u _ => (N - intOf u).toNat)
    case atStart => exact ⟨0, Nat.zero_le _, rfl, rfl, Below.refl _ _⟩
    case round =>
      obtain ⟨k, hk, rfl, rfl, HP⟩ := hrel
      by_cases hlt : k < N
      · obtain ⟨x, hx⟩ := nth_of HL.out hlt
        have hxg := HG.out x (List.mem_of_getElem? hx)
        obtain ⟨g, o, rfl, ⟨c0, c1, c2⟩⟩ := (HD.out.view.below HP.out).at_ hx
        have hk1 : (k : Int) < (N : Int) := by omega
        have hk0 : (0 : Int) ≤ (k : Int) := by omega
        have HN := Lib.hid (due_next (t := (j : Int)) hx)
        have hs1 := HSM.out (k + 1) (by omega)
        have hs0 := HSM.out k (by omega)
        rw [due_next hx] at hs1
        have hj0 := jobs_nonneg hxg.ok (j : Int)
        have hj1 := jobs_less hxg.ok (show (0 : Int) ≤ j by omega)
        have HR := Lib.hid (fun i : Nat => jobs_reach hxg.ok (j : Int) (i := i))
        have hp1 := hxg.per
        have hp2 := hxg.d1
        have hp3 := hxg.d2
        have hp4 := hxg.c0
        obtain ⟨J, hJ⟩ : ∃ J : Nat, jobsD x (j : Int) = J := ⟨(jobsD x j).toNat, by omega⟩
        rw [hJ] at hs1 HN hj1 HR
        obtain ⟨s, hs⟩ : ∃ s, dueN M j k = s := ⟨_, rfl⟩
        rw [hs] at hs1 hs0 HN
        rw [hs]
        have HXB := Lib.hid (And.intro hs0 (And.intro hs1 (And.intro hp1 (And.intro hp2 (And.intro hp3 (And.intro hp4 hj1))))))
        clear hx hxg hs hJ hs1 hs0 hj0 hj1 hp1 hp2 hp3 hp4
        go_wp2
        go_loopw [8, 10] (fun g u wr2 => ∃ i : Nat, i ≤ J ∧ u = .int .i64 ((i : Int) * x.t) ∧ g = .int .i64 (s + x.c * (i : Int)) ∧ Hid (wr2 = wr)) (fun _ u _ => ((j : Int) + 1 - intOf u).toNat)
        case atStart => exact ⟨0, Nat.zero_le _, by simp, by simp, rfl⟩
        case round =>
          obtain ⟨i, hi, rfl, rfl, HW⟩ := hrel
          obtain rfl := HW.out
          obtain ⟨x1, x2, x3, x4, x5, x6, x7⟩ := HXB.out
          have hm1 : 0 ≤ (i : Int) * x.t := Int.mul_nonneg (by omega) (by omega)
          have hm2 : (i : Int) * x.t ≤ 24 * 257 := by
            have := Int.mul_le_mul (show (i : Int) ≤ 257 by omega) (show x.t ≤ 24 by omega) (by omega) (by omega)
            omega
          have hm3 : x.c * (i : Int) ≤ x.c * (J : Int) := Int.mul_le_mul_of_nonneg_left (by omega) x6
          have hm4 : 0 ≤ x.c * (i : Int) := Int.mul_nonneg x6 (by omega)
          have hi1 : ((i + 1 : Nat) : Int) * x.t = (i : Int) * x.t + x.t := by rw [Int.natCast_add, Int.add_mul]; omega
          have hi2 : x.c * ((i + 1 : Nat) : Int) = x.c * (i : Int) + x.c := by rw [Int.natCast_add, Int.mul_add]; omega
          have e1 : IntKind.i64.wrap ((i : Int) * x.t + x.d) = (i : Int) * x.t + x.d := IntWalk.i64_in _ (by omega)
          have e2 : IntKind.i64.wrap ((i : Int) * x.t + x.t) = (i : Int) * x.t + x.t := IntWalk.i64_in _ (by omega)
          by_cases hlt2 : i < J
          · have hle : (i : Int) * x.t + x.d ≤ (j : Int) := (HR.out i).1 (by omega)
            have hm5 : x.c * ((i + 1 : Nat) : Int) ≤ x.c * (J : Int) := Int.mul_le_mul_of_nonneg_left (by omega) x6
            have e3 : IntKind.i64.wrap (s + x.c * (i : Int) + x.c) = s + x.c * (i : Int) + x.c := IntWalk.i64_in _ (by omega)
            have HI1 := Lib.hid hi1
            have HI2 := Lib.hid hi2
            have HXX : Hid (0 < x.t ∧ (i : Int) * x.t + 1 ≤ (j : Int)) := by show (0 : Int) < _ ∧ _; exact ⟨by omega, by omega⟩
            clear hi1 hi2 hm1 hm2 hm3 hm4 hm5 x1 x2 x3 x4 x5 x6 x7
            generalize hZ : (i : Int) * x.t = Z at *
            generalize hY : x.c * (i : Int) = Y at *
            have HZ := Lib.hid hZ
            have HY := Lib.hid hY
            clear hZ hY
            go_wp2
            go_roundw
            case rel => exact ⟨i + 1, by omega, by rw [HI1.out], by rw [HI2.out, ← Int.add_assoc], (by first | exact Lib.hid trivial | rfl)⟩
            case measure => have := HXX.out.1; have := HXX.out.2; simp [intOf]; omega
          · obtain rfl : i = J := by omega
            have hle : ¬ (i : Int) * x.t + x.d ≤ (j : Int) := fun q => by have := (HR.out i).2 q; omega
            have HNN := Lib.hid HN.out
            clear hm1 hm2 hm3 hm4 x1 x2 x3 x4 x5 x6 x7 hi1 hi2
            generalize (i : Int) * x.t = Z at *
            go_wp2
            go_roundw
            case rel => exact ⟨k + 1, by omega, by go_num, by rw [HNN.out], HP⟩
            case measure => simp [intOf]; omega
      · obtain rfl : k = N := by omega
        go_wp2_with fail
        go_meet
        exact ⟨rfl, HP⟩
  case rest =>
    obtain ⟨rfl, HP⟩ := hcut
    clear HSM
    generalize dueN M j N = s at *
    go_wp2_with (go_at_call 14; (with_reducible refine (HOF.out _ HP.out).mono ?_); rintro e w5 ⟨rfl, b5⟩)
    go_ret
    exact ⟨by first | rfl | (simp; done), below_up HB.out (below_up HP.out b5)⟩
end Go.Proofs.Ytbliagfmpcmfdaa

/-
  The walk over the statement that work does not grow between deadlines.
-/
namespace Go.Proofs.Ytbliagfmpcmfdaa
open Go.RowKit Go.Maps
attribute [-go_sem] run_max_int2

theorem next_small {M : List Dm} (h : AllGood M) {t y : Int} (ht : 0 ≤ t) (e : nextA M t = some y) : t < y ∧ y ≤ t + 24 := by
  obtain ⟨⟨x, hx, hd⟩, h2, h3⟩ := next_some h.ok e
  have hg := h x hx
  have := h3 _ ⟨x, hx, nxt_dl hg.ok t⟩ (jobs_fit hg.ok t).1
  have hf := (jobs_fit hg.ok t).2
  have hp := hg.per; have hp2 := hg.d2
  refine ⟨h2, ?_⟩
  rcases Int.lt_or_le 0 (jobsD x t) with q | q
  · have := hf q; omega
  · have e0 : jobsD x t = 0 := by have := jobs_nonneg hg.ok t; omega
    have : nxtD x t = x.d := by unfold nxtD; rw [e0, Int.zero_mul]; omega
    omega
set_option maxRecDepth 100000 in
set_option maxHeartbeats 8000000 in
theorem law_steps (W : World) (a : Option Addr) (n cap : Nat) (l : Nat → Int × Int × Int) (hn : Trips W a n l) (t : Int) :
    Calls Try.prog 5 #[.slice a n cap, .int .i64 t] W fun e w' => e = .returned (.bool true) ∧ Below W.heap.size W w' := by
  have MC := Lib.hid (fun v (hb : Below W.heap.size W v) => made_dems (hn.below hb) cap)
  obtain ⟨j, hj, hband⟩ := and255 t
  have AC := Lib.hid (fun v => awake_any v)
  clear hn
  go_enter Try.func5, Try.ntmps5
  go_upto_region 2 with (go_at_call 9; (with_reducible refine (AC.out _).mono ?_); rintro e w1 ⟨rfl, b1⟩)
  go_upto_region 3 with (go_at_call 11; (with_reducible refine (MC.out _ b1).mono ?_); rintro e w2 ⟨⟨a', N, c', M, rfl, hd, hN, hg⟩, b2⟩; have HD := Lib.hid hd; have HG := Lib.hid hg; have HB := Lib.hid (below_up b1 b2); clear hd hg b2)
  clear MC AC b1
  have hlen := HD.out.len
  have hN6 : M.length ≤ 6 := by omega
  have hj0 : (0 : Int) ≤ (j : Int) := by omega
  have hj1 : (j : Int) ≤ 255 := by omega
  have NC := Lib.hid (fun v (hb : Below w2.heap.size w2 v) => pnext_any (HD.out.below hb) (j : Int) (by unfold I64; omega))
  rw [nextS_good HG.out hN6 hj0 (by omega)] at NC
  cases ex : nextA M (j : Int) with
  | none =>
    have hM := next_nil HG.out.ok ex
    have hN0 : N = 0 := by rw [← hlen, hM]; rfl
    rw [ex] at NC
    subst hN0
    clear hlen hN6 ex hM
    go_wp2_with (go_at_call 15; (with_reducible refine (NC.out _ (by repeat (first | exact Below.refl _ _ | (with_reducible assumption) | refine bw_alloc ?_ _ | refine bw_drew ?_))).mono ?_); rintro e w5 ⟨rfl, b5⟩)
    go_ret
    exact ⟨by first | rfl | (simp; done), below_up HB.out b5⟩
  | some y =>
    obtain ⟨hy1, hy2⟩ := next_small HG.out hj0 ex
    have hN0 : ¬ N = 0 := by
      intro z
      have : M = [] := List.length_eq_zero_iff.1 (hlen.trans z)
      rw [this] at ex; cases ex
    have z1 : ((N : Int) == 0) = false := by rw [beq_eq_false_iff_ne]; omega
    rw [ex] at NC
    have OC := Lib.hid (fun v (hb : Below w2.heap.size w2 v) => pof_any (HD.out.below hb) (j : Int) (by unfold I64; omega))
    rw [ofA_good HG.out hN6 hj0 (by omega)] at OC
    have OC2 := Lib.hid (fun v (hb : Below w2.heap.size w2 v) => pof_any (HD.out.below hb) (y - 1) (by unfold I64; omega))
    rw [ofA_good HG.out hN6 (show 0 ≤ y - 1 by omega) (by omega), steps_due HG.out.ok ex] at OC2
    have LC := Lib.hid (fun v (hb : Below w2.heap.size w2 v) => plast_any (HD.out.below hb) y (by unfold I64; omega))
    rw [lastS_good HG.out hN6 (show 0 ≤ y by omega) (by omega)] at LC
    obtain ⟨hs1, hs2⟩ := steps_last HG.out.ok hj0 ex
    have e1 : IntKind.i64.wrap (y - 1) = y - 1 := IntWalk.i64_in _ (by omega)
    have hyj : ¬ y ≤ (j : Int) := by omega
    generalize dueA M (j : Int) = dv at *
    cases el : lastA M y with
    | none =>
      have e2 := hs2 el
      have NC2 := Lib.hid (fun v (hb : Below w2.heap.size w2 v) => pnext_any (HD.out.below hb) 0 (by unfold I64; omega))
      rw [nextS_good HG.out hN6 (by omega) (by omega), e2] at NC2
      rw [el] at LC
      have mx : ∀ (ts : Array TypeId) (t : TypeId) (w : World), (Builtin.max_ ts t #[.int .i64 0, .int .i64 0]).run Try.prog w = .ok (.int .i64 0) w := fun ts t w => by rw [run_max_int2, if_neg (by omega)]
      clear hs1 hs2 el e2 ex hlen hN6 hN0 hy1 hy2
      go_upto_region 5 with (go_at_call 15; (with_reducible refine (NC.out _ (by repeat (first | exact Below.refl _ _ | (with_reducible assumption) | refine bw_alloc ?_ _ | refine bw_drew ?_))).mono ?_); rintro e w5 ⟨rfl, b5⟩)
      go_upto_region 8 with (go_at_call 14; (with_reducible refine (OC.out _ b5).mono ?_); rintro e w6 ⟨rfl, b6⟩; have B6 := below_up b5 b6; clear b6)
      go_upto_region 9 with (go_at_call 14; (with_reducible refine (OC2.out _ B6).mono ?_); rintro e w7 ⟨rfl, b7⟩; have B7 := below_up B6 b7; clear b7)
      go_upto_region 12 with (go_at_call 16; (with_reducible refine (LC.out _ B7).mono ?_); rintro e w8 ⟨rfl, b8⟩; have B8 := below_up B7 b8; clear b8)
      go_wp2_with (go_at_call 15; (with_reducible refine (NC2.out _ B8).mono ?_); rintro e w9 ⟨rfl, b9⟩; have B9 := below_up B8 b9; clear b9)
      go_ret
      exact ⟨by first | rfl | (simp; done), below_up HB.out B9⟩
    | some z =>
      obtain ⟨q1, q2, q3⟩ := hs1 z el
      have NC2 := Lib.hid (fun v (hb : Below w2.heap.size w2 v) => pnext_any (HD.out.below hb) z (by unfold I64; omega))
      rw [nextS_good HG.out hN6 (by omega) (by omega), q3] at NC2
      rw [el] at LC
      have mx : ∀ (ts : Array TypeId) (t : TypeId) (w : World), (Builtin.max_ ts t #[.int .i64 z, .int .i64 0]).run Try.prog w = .ok (.int .i64 z) w := fun ts t w => by rw [run_max_int2, if_neg (by omega)]
      clear hs1 hs2 el q3 ex hlen hN6 hN0 hy1 hy2 q2
      go_upto_region 5 with (go_at_call 15; (with_reducible refine (NC.out _ (by repeat (first | exact Below.refl _ _ | (with_reducible assumption) | refine bw_alloc ?_ _ | refine bw_drew ?_))).mono ?_); rintro e w5 ⟨rfl, b5⟩)
      go_upto_region 8 with (go_at_call 14; (with_reducible refine (OC.out _ b5).mono ?_); rintro e w6 ⟨rfl, b6⟩; have B6 := below_up b5 b6; clear b6)
      go_upto_region 9 with (go_at_call 14; (with_reducible refine (OC2.out _ B6).mono ?_); rintro e w7 ⟨rfl, b7⟩; have B7 := below_up B6 b7; clear b7)
      go_upto_region 12 with (go_at_call 16; (with_reducible refine (LC.out _ B7).mono ?_); rintro e w8 ⟨rfl, b8⟩; have B8 := below_up B7 b8; clear b8)
      go_wp2_with (go_at_call 15; (with_reducible refine (NC2.out _ B8).mono ?_); rintro e w9 ⟨rfl, b9⟩; have B9 := below_up B8 b9; clear b9)
      go_ret
      exact ⟨by first | rfl | (simp; done), below_up HB.out B9⟩
end Go.Proofs.Ytbliagfmpcmfdaa

/-
  The walk over the statement that a period later there is a period's work more.
-/
namespace Go.Proofs.Ytbliagfmpcmfdaa
open Go.RowKit Go.Maps

set_option maxRecDepth 100000 in
set_option maxHeartbeats 8000000 in
theorem law_periods (W : World) (a : Option Addr) (n cap : Nat) (l : Nat → Int × Int × Int) (hn : Trips W a n l) (t : Int) :
    Calls Try.prog 6 #[.slice a n cap, .int .i64 t] W fun e w' => e = .returned (.bool true) ∧ Below W.heap.size W w' := by
  have MC := Lib.hid (fun v (hb : Below W.heap.size W v) => made_dems (hn.below hb) cap)
  obtain ⟨j, hj, hband⟩ := and1023 t
  have AC := Lib.hid (fun v => awake_any v)
  clear hn
  go_enter Try.func6, Try.ntmps6
  go_upto_region 2 with (go_at_call 9; (with_reducible refine (AC.out _).mono ?_); rintro e w1 ⟨rfl, b1⟩)
  go_upto_region 3 with (go_at_call 11; (with_reducible refine (MC.out _ b1).mono ?_); rintro e w2 ⟨⟨a', N, c', M, rfl, hd, hN, hg⟩, b2⟩; have HD := Lib.hid hd; have HG := Lib.hid hg; have HB := Lib.hid (below_up b1 b2); clear hd hg b2)
  clear MC AC b1
  have hlen := HD.out.len
  have hN6 : M.length ≤ 6 := by omega
  have hj0 : (0 : Int) ≤ (j : Int) := by omega
  have hj1 : (j : Int) ≤ 1023 := by omega
  have LC := Lib.hid (fun v (hb : Below w2.heap.size w2 v) => pload_any (HD.out.below hb))
  have PC := Lib.hid (fun v (hb : Below w2.heap.size w2 v) => pperiod_any (HD.out.below hb))
  obtain ⟨p1, p2, p3, _⟩ := per_good HG.out hN6
  obtain ⟨l1, l2, l3⟩ := load_good HG.out hN6
  have hpg := periods_good HG.out hN6 hj0
  have hs := due_small HG.out hN6 hj0 (by omega)
  rw [p1] at PC
  rw [l1] at LC
  obtain ⟨p, hp⟩ : ∃ p, (perS M).1 = p := ⟨_, rfl⟩
  rw [hp] at PC LC p2 p3 l2 l3 hpg
  have OC := Lib.hid (fun v (hb : Below w2.heap.size w2 v) => pof_any (HD.out.below hb) (j : Int) (by unfold I64; omega))
  rw [ofA_good HG.out hN6 hj0 (by omega)] at OC
  have OC2 := Lib.hid (fun v (hb : Below w2.heap.size w2 v) => pof_any (HD.out.below hb) ((j : Int) + p) (by unfold I64; omega))
  rw [ofA_good HG.out hN6 (show 0 ≤ (j : Int) + p by omega) (by omega), hpg] at OC2
  have e1 : IntKind.i64.wrap ((j : Int) + p) = (j : Int) + p := IntWalk.i64_in _ (by omega)
  obtain ⟨dv, hdv⟩ : ∃ dv, dueA M (j : Int) = dv := ⟨_, rfl⟩
  obtain ⟨lv, hlv⟩ : ∃ lv, loadN M p M.length = lv := ⟨_, rfl⟩
  rw [hdv] at OC OC2 hs
  rw [hlv] at OC2 LC l2 l3
  have e2 : IntKind.i64.wrap (dv + lv) = dv + lv := IntWalk.i64_in _ (by omega)
  clear hlen hN6 p1 l1 hpg hp hdv hlv hs l2 l3 p2 p3
  go_upto_region 5 with (go_at_call 17; (with_reducible refine (LC.out _ (by repeat (first | exact Below.refl _ _ | (with_reducible assumption) | refine bw_alloc ?_ _ | refine bw_drew ?_))).mono ?_); rintro e w5 ⟨rfl, b5⟩)
  go_upto_region 6 with (go_at_call 14; (with_reducible refine (OC.out _ b5).mono ?_); rintro e w6 ⟨rfl, b6⟩; have B6 := below_up b5 b6; clear b6)
  go_upto_region 7 with (go_at_call 14; (with_reducible refine (OC2.out _ B6).mono ?_); rintro e w7 ⟨rfl, b7⟩; have B7 := below_up B6 b7; clear b7)
  go_wp2_with (go_at_call 18; (with_reducible refine (PC.out _ B7).mono ?_); rintro e w9 ⟨rfl, b9⟩; have B9 := below_up B7 b9; clear b9)
  go_ret
  exact ⟨by first | rfl | (simp; done), below_up HB.out B9⟩
end Go.Proofs.Ytbliagfmpcmfdaa

/-
  The walk over the statement of slack.
-/
namespace Go.Proofs.Ytbliagfmpcmfdaa
open Go.RowKit Go.Maps

/-- Has there been a deadline; has slack been met? -/
def anyN (M : List Dm) (fr : Int) : Nat → Bool
  | 0 => false
  | i + 1 => anyN M fr i || dlB M (fr + i)
def metN (M : List Dm) (fr s : Int) : Nat → Bool
  | 0 => false
  | i + 1 => metN M fr s i || (dlB M (fr + i) && (fr + i - dueA M (fr + i) == s))
theorem any_not {M : List Dm} {fr : Int} : ∀ {k : Nat}, (∀ i, i < k → dlB M (fr + (i : Nat)) = false) → anyN M fr k = false
  | 0, _ => rfl
  | k + 1, h => by rw [anyN, any_not (fun i hi => h i (by omega)), h k (by omega)]; rfl
theorem met_not {M : List Dm} {fr s : Int} : ∀ {k : Nat}, (∀ i, i < k → dlB M (fr + (i : Nat)) = false) → metN M fr s k = false
  | 0, _ => rfl
  | k + 1, h => by rw [metN, met_not (fun i hi => h i (by omega)), h k (by omega)]; rfl
theorem any_yes {M : List Dm} {fr : Int} : ∀ {k i : Nat}, i < k → dlB M (fr + i) = true → anyN M fr k = true
  | 0, i, hi, _ => absurd hi (Nat.not_lt_zero _)
  | k + 1, i, hi, h => by
    rw [anyN]
    rcases Nat.lt_or_ge i k with q | q
    · rw [any_yes q h]; rfl
    · obtain rfl : i = k := by omega
      rw [h]; simp
theorem met_yes {M : List Dm} {fr s : Int} : ∀ {k i : Nat}, i < k → dlB M (fr + i) = true → fr + i - dueA M (fr + i) = s → metN M fr s k = true
  | 0, i, hi, _, _ => absurd hi (Nat.not_lt_zero _)
  | k + 1, i, hi, h, hs => by
    rw [metN]
    rcases Nat.lt_or_ge i k with q | q
    · rw [met_yes q h hs]; rfl
    · obtain rfl : i = k := by omega
      rw [h, hs]; simp
/-- What the row's slack says, and what a count finds. -/
theorem slack_found {M : List Dm} {fr : Int} {k : Nat} {b : Option Int} (h : slkN M fr k = some b) :
    (∀ i : Nat, i < k → dlB M (fr + i) = true → b.getD 0 ≤ fr + i - dueA M (fr + i)) ∧ ((b.isSome = true ∧ anyN M fr k = true ∧ metN M fr (b.getD 0) k = true) ∨ (b.isSome = false ∧ b.getD 0 = 0 ∧ anyN M fr k = false ∧ metN M fr (b.getD 0) k = false)) := by
  obtain ⟨i1, i2⟩ := slk_is h
  cases b with
  | none =>
    have hn := i1 rfl
    exact ⟨fun i hi hd => (by rw [hn i hi] at hd; cases hd), .inr ⟨rfl, rfl, any_not hn, met_not hn⟩⟩
  | some v =>
    obtain ⟨⟨i, hi, h1, h2⟩, h3⟩ := i2 v rfl
    exact ⟨h3, .inl ⟨rfl, any_yes hi h1, met_yes hi h1 h2⟩⟩
theorem last_here {M : List Dm} (h : ∀ x ∈ M, x.ok) {t : Int} (hd : dlB M t = true) : lastA M (t + 1) = some t :=
  last_eq h ((dlB_iff h).1 hd) (by omega) (fun z _ hz => by omega)
theorem last_else {M : List Dm} (h : ∀ x ∈ M, x.ok) {t : Int} (hd : dlB M t = false) : lastA M (t + 1) = none ∨ ∃ z, lastA M (t + 1) = some z ∧ z ≠ t := by
  cases e : lastA M (t + 1) with
  | none => exact .inl rfl
  | some z =>
    refine .inr ⟨z, rfl, fun q => ?_⟩
    obtain ⟨d1, _, _⟩ := last_some h e
    rw [q] at d1
    rw [(dlB_iff h).2 d1] at hd; cases hd

set_option maxRecDepth 100000 in
set_option maxHeartbeats 8000000 in
theorem law_slack (W : World) (a : Option Addr) (n cap : Nat) (l : Nat → Int × Int × Int) (hn : Trips W a n l) (q0 q1 : Int) :
    Calls Try.prog 7 #[.slice a n cap, .agg #[.int .i64 q0, .int .i64 q1]] W fun e w' => e = .returned (.bool true) ∧ Below W.heap.size W w' := by
  have MC := Lib.hid (fun v (hb : Below W.heap.size W v) => made_dems (hn.below hb) cap)
  obtain ⟨j, hj, hband⟩ := and127 q0
  obtain ⟨j2, hj2, hband2⟩ := and127 q1
  have AC := Lib.hid (fun v => awake_any v)
  clear hn
  go_enter Try.func7, Try.ntmps7
  go_upto_region 1 with fail
  obtain ⟨bx, hbx⟩ : ∃ bx, W.heap.size = bx := ⟨_, rfl⟩
  refine gen_world (fun v => Below W.heap.size W v ∧ v.heap[bx]? = some (.cells #[.int .i64 q0, .int .i64 q1] 41 (0, 0))) ⟨(by repeat (first | exact Below.refl _ _ | (with_reducible assumption) | refine bw_alloc ?_ _ | refine bw_drew ?_)), by rw [← hbx]; exact heap_alloc_new W _⟩ ?_
  rw [hbx]
  intro V0 ⟨hl0, hx0⟩
  rw [← hbx] at hl0
  have HL0 := Lib.hid hl0
  have HX0 := Lib.hid hx0
  clear hl0 hx0
  go_upto_region 2 with (go_at_call 9; (with_reducible refine (AC.out _).mono ?_); rintro e w1 ⟨rfl, b1⟩; have HL1 := Lib.hid (below_up HL0.out b1); have HX1 := Lib.hid (kept_obj b1 HX0.out); clear b1)
  go_upto_region 3 with (go_at_call 11; (with_reducible refine (MC.out _ HL1.out).mono ?_); rintro e w2 ⟨⟨a', N, c', M, rfl, hd, hN, hg⟩, b2⟩; have HD := Lib.hid hd; have HG := Lib.hid hg; have HB := Lib.hid (below_up HL1.out b2); have HX2 := Lib.hid (kept_obj b2 HX1.out); clear hd hg b2)
  have x0 : w2.cell? ⟨bx, 0, none⟩ = some (.int .i64 q0) := by rw [blk_cell HX2.out]; rfl
  have x1 : w2.cell? ⟨bx, 1, none⟩ = some (.int .i64 q1) := by rw [blk_cell HX2.out]; rfl
  clear MC AC HL0 HX0 HL1 HX1 HX2
  have hlen := HD.out.len
  have hN6 : M.length ≤ 6 := by omega
  have hj0 : (0 : Int) ≤ (j : Int) := by omega
  have e1 : IntKind.i64.wrap ((j : Int) + (j2 : Int)) = (j : Int) + (j2 : Int) := IntWalk.i64_in _ (by omega)
  have hsm : ∀ i : Nat, i ≤ 127 → 0 ≤ dueA M ((j : Int) + i) ∧ dueA M ((j : Int) + i) ≤ 432144 := fun i hi => due_small HG.out hN6 (by omega) (by omega)
  obtain ⟨b, hb⟩ := slk_small (l := M) (fr := (j : Int)) (k := j2) (fun i hi => by have := (hsm i (by omega)).2; omega)
  have hsl : slS M (j : Int) ((j : Int) + j2) = b := slS_is (okL_good HG.out hN6) ⟨timeB_small hj0 (by omega), timeB_small (by omega) (by omega), by omega⟩ (by rw [show ((j : Int) + j2 - j).toNat = j2 by omega]; exact hb)
  have SC := Lib.hid (fun v (hb : Below w2.heap.size w2 v) => pslack_any (HD.out.below hb) (j : Int) ((j : Int) + j2) (by unfold I64; omega) (by unfold I64; omega))
  rw [hsl] at SC
  obtain ⟨hf1, hf2⟩ := slack_found hb
  obtain ⟨s, hs⟩ : ∃ s, b.getD 0 = s := ⟨_, rfl⟩
  obtain ⟨is, his⟩ : ∃ is, b.isSome = is := ⟨_, rfl⟩
  rw [hs] at hf1 hf2 SC
  rw [his] at hf2 SC
  have HF1 := Lib.hid hf1
  have HF2 := Lib.hid hf2
  have HSM := Lib.hid hsm
  have HN6 := Lib.hid hN6
  have HOC := Lib.hid (fun (i : Nat) (hi : i ≤ 127) v (hb : Below w2.heap.size w2 v) => by
    have := pof_any (HD.out.below hb) ((j : Int) + i) (by unfold I64; omega)
    rw [ofA_good HG.out hN6 (by omega) (by omega)] at this
    exact this)
  have HLC := Lib.hid (fun (i : Nat) (hi : i ≤ 127) v (hb : Below w2.heap.size w2 v) => by
    have := plast_any (HD.out.below hb) ((j : Int) + i + 1) (by unfold I64; omega)
    rw [lastS_good HG.out hN6 (by omega) (by omega)] at this
    exact this)
  clear hlen hN6 hsm hb hsl hf1 hf2 hs his
  go_upto_region 6 with (go_at_call 19; (with_reducible refine (SC.out _ (by repeat (first | exact Below.refl _ _ | (with_reducible assumption) | refine bw_alloc ?_ _ | refine bw_drew ?_))).mono ?_); rintro e w5 ⟨rfl, b5⟩; have HB5 := Lib.hid b5; clear b5)
  clear SC x0 x1
  go_upto_block 0 with fail
  go_cut [11, 12] (fun u v wx => u = .bool (metN M (j : Int) s j2) ∧ v = .bool (anyN M (j : Int) j2) ∧ Hid (Below w2.heap.size w2 wx))
  case first =>
    clear HF2
    go_wp2
    go_loopw [11, 12, 13] (fun g h u wr => ∃ i : Nat, i ≤ j2 ∧ u = .int .i64 ((j : Int) + i) ∧ g = .bool (metN M (j : Int) s i) ∧ h = .bool (anyN M (j : Int) i) ∧ Hid (Below w2.heap.size w2 wr)) (fun _ _ u _ => ((j : Int) + j2 - intOf u).toNat)
    case atStart => exact ⟨0, Nat.zero_le _, by simp, rfl, rfl, HB5⟩
    case round =>
      obtain ⟨i, hi, rfl, rfl, rfl, HP⟩ := hrel
      clear HB5
      by_cases hlt : i < j2
      · have h1 : (j : Int) + (i : Int) < (j : Int) + (j2 : Int) := by omega
        have e2 : IntKind.i64.wrap ((j : Int) + i + 1) = (j : Int) + i + 1 := IntWalk.i64_in _ (by omega)
        have LC := Lib.hid (HLC.out i (by omega))
        cases hd : dlB M ((j : Int) + i) with
        | false =>
          have hA : Hid (anyN M (j : Int) (i + 1) = anyN M (j : Int) i) := by show _ = _; rw [anyN, hd, Bool.or_false]
          have hM : Hid (metN M (j : Int) s (i + 1) = metN M (j : Int) s i) := by show _ = _; rw [metN, hd, Bool.false_and, Bool.or_false]
          rcases last_else HG.out.ok hd with el | ⟨z, el, hz⟩
          · rw [el] at LC
            clear el hd HF1 HSM HOC HLC
            generalize anyN M (j : Int) i = A1 at *
            generalize metN M (j : Int) s i = M1 at *
            go_wp2_with (go_at_call 16; (with_reducible refine (LC.out _ HP.out).mono ?_); rintro e w6 ⟨rfl, b6⟩; have HP6 := Lib.hid (below_up HP.out b6); clear b6)
            go_roundw
            case rel => exact ⟨i + 1, by omega, by rw [Int.natCast_add]; exact congrArg _ (by omega), by rw [hM.out], by rw [hA.out], HP6⟩
            case measure => simp [intOf]; omega
          · rw [el] at LC
            have d1 : (z == (j : Int) + i) = false := by rw [beq_eq_false_iff_ne]; exact hz
            have d2 : (z != (j : Int) + i) = true := by rw [bne, d1]; rfl
            clear el hd HF1 HSM HOC HLC hz
            generalize anyN M (j : Int) i = A1 at *
            generalize metN M (j : Int) s i = M1 at *
            go_wp2_with (go_at_call 16; (with_reducible refine (LC.out _ HP.out).mono ?_); rintro e w6 ⟨rfl, b6⟩; have HP6 := Lib.hid (below_up HP.out b6); clear b6)
            go_roundw
            case rel => exact ⟨i + 1, by omega, by rw [Int.natCast_add]; exact congrArg _ (by omega), by rw [hM.out], by rw [hA.out], HP6⟩
            case measure => simp [intOf]; omega
        | true =>
          have hA : Hid (anyN M (j : Int) (i + 1) = true) := by show _ = _; rw [anyN, hd, Bool.or_true]
          have hM : Hid (metN M (j : Int) s (i + 1) = (metN M (j : Int) s i || ((j : Int) + i - dueA M ((j : Int) + i) == s))) := by show _ = _; rw [metN, hd, Bool.true_and]
          rw [last_here HG.out.ok hd] at LC
          have OC := Lib.hid (HOC.out i (by omega))
          have hge := HF1.out i hlt hd
          have hdv := HSM.out i (by omega)
          obtain ⟨dv, hdd⟩ : ∃ dv, dueA M ((j : Int) + i) = dv := ⟨_, rfl⟩
          rw [hdd] at hM OC hge hdv
          have e3 : IntKind.i64.wrap ((j : Int) + i - dv) = (j : Int) + i - dv := IntWalk.i64_in _ (by omega)
          have hge2 : ¬ (j : Int) + i - dv < s := by omega
          clear hd HF1 HSM HOC HLC hdd hge hdv
          generalize anyN M (j : Int) i = A1 at *
          obtain ⟨M1, hM1⟩ : ∃ M1, metN M (j : Int) s i = M1 := ⟨_, rfl⟩
          rw [hM1] at hM
          rw [hM1]
          clear hM1
          cases M1 with
          | true =>
            go_wp2_with (first
              | (go_at_call 16; (with_reducible refine (LC.out _ HP.out).mono ?_); rintro e w6 ⟨rfl, b6⟩; have HP6 := Lib.hid (below_up HP.out b6); clear b6)
              | (go_at_call 14; (with_reducible refine (OC.out _ HP6.out).mono ?_); rintro e w7 ⟨rfl, b7⟩; have HP7 := Lib.hid (below_up HP6.out b7); clear b7))
            go_roundw
            case rel => exact ⟨i + 1, by omega, by rw [Int.natCast_add]; exact congrArg _ (by omega), by rw [hM.out]; rfl, by rw [hA.out], HP7⟩
            case measure => simp [intOf]; omega
          | false =>
            go_wp2_with (first
              | (go_at_call 16; (with_reducible refine (LC.out _ HP.out).mono ?_); rintro e w6 ⟨rfl, b6⟩; have HP6 := Lib.hid (below_up HP.out b6); clear b6)
              | (go_at_call 14; (with_reducible refine (OC.out _ HP6.out).mono ?_); rintro e w7 ⟨rfl, b7⟩; have HP7 := Lib.hid (below_up HP6.out b7); clear b7))
            go_roundw
            case rel => exact ⟨i + 1, by omega, by rw [Int.natCast_add]; exact congrArg _ (by omega), by rw [hM.out]; rfl, by rw [hA.out], HP7⟩
            case measure => simp [intOf]; omega
      · obtain rfl : i = j2 := by omega
        go_wp2_with fail
        go_meet
        exact ⟨rfl, rfl, HP⟩
  case rest =>
    obtain ⟨rfl, rfl, HP⟩ := hcut
    obtain ⟨h1, h2, h3⟩ | ⟨h1, h2, h3, h4⟩ := HF2.out
    · rw [h2, h3]
      subst h1
      clear HF1 HF2 HSM HOC HLC h2 h3
      go_wp2_with fail
      go_ret
      exact ⟨by first | rfl | (simp; done), below_up HB.out HP.out⟩
    · rw [h3, h4]
      subst h1 h2
      clear HF1 HF2 HSM HOC HLC h3 h4
      go_wp2_with fail
      go_ret
      exact ⟨by first | rfl | (simp; done), below_up HB.out HP.out⟩
end Go.Proofs.Ytbliagfmpcmfdaa

/-
  The walk over the statement of two rows of demands.
-/
namespace Go.Proofs.Ytbliagfmpcmfdaa
open Go.RowKit Go.Maps

theorem GView.none_nil {w : World} {l : List Dm} (h : GView w none l) : l = [] := by
  rcases h with rfl | ⟨g, o, e, _⟩
  · rfl
  · cases e
theorem AllGood.take {M : List Dm} (h : AllGood M) (k : Nat) : AllGood (M.take k) := fun x hx => h x (List.mem_of_mem_take hx)
theorem AllGood.two {M K : List Dm} (h : AllGood M) (k : AllGood K) : AllGood (M ++ K) := fun x hx => (List.mem_append.1 hx).elim (h x) (k x)
theorem Dems.take {w : World} {a : Option Addr} {n c : Nat} {l : List Dm} (h : Dems w a n c l) {m : Nat} (hm : m ≤ n) : Dems w a m c (l.take m) :=
  ⟨by rw [List.length_take, h.len]; omega, h.view.take m, Nat.le_trans hm h.le, h.small, fun x hx => h.wf x (List.mem_of_mem_take hx)⟩
theorem Dems.none_zero {w : World} {n c : Nat} {l : List Dm} (h : Dems w none n c l) : n = 0 := by rw [← h.len, GView.none_nil h.view]; rfl

def minO : Option Int → Option Int → Option Int
  | none, b => b
  | some a, none => some a
  | some a, some b => if b < a then some b else some a
theorem next_min {l m : List Dm} (hl : ∀ x ∈ l, x.ok) (hm : ∀ x ∈ m, x.ok) (t : Int) : nextA (l ++ m) t = minO (nextA l t) (nextA m t) := by
  rw [next_two hl hm]
  cases nextA l t <;> cases nextA m t <;> rfl
set_option maxRecDepth 100000 in
set_option maxHeartbeats 8000000 in
theorem law_parts (W : World) (a : Option Addr) (n cap : Nat) (l : Nat → Int × Int × Int) (hn : Trips W a n l) (ab : Option Addr) (nb capb : Nat) (lb : Nat → Int × Int × Int) (hnb : Trips W ab nb lb) (t : Int) :
    Calls Try.prog 8 #[.slice a n cap, .slice ab nb capb, .int .i64 t] W fun e w' => e = .returned (.bool true) ∧ Below W.heap.size W w' := by
  have MC := Lib.hid (fun v (hb : Below W.heap.size W v) => made_dems (hn.below hb) cap)
  have MCb := Lib.hid (fun v (hb : Below W.heap.size W v) => made_dems (hnb.below hb) capb)
  obtain ⟨j, hj, hband⟩ := and255 t
  have AC := Lib.hid (fun v => awake_any v)
  clear hn hnb
  go_enter Try.func8, Try.ntmps8
  go_upto_region 2 with (go_at_call 9; (with_reducible refine (AC.out _).mono ?_); rintro e w1 ⟨rfl, b1⟩)
  go_upto_region 3 with (go_at_call 11; (with_reducible refine (MC.out _ b1).mono ?_); rintro e w2 ⟨⟨a1, N1, c1, M1, rfl, hd1, hN1, hg1⟩, b2⟩; have HD1 := Lib.hid hd1; have HG1 := Lib.hid hg1; have HB2 := Lib.hid (below_up b1 b2); clear hd1 hg1 b2)
  go_upto_region 4 with (go_at_call 11; (with_reducible refine (MCb.out _ HB2.out).mono ?_); rintro e w3 ⟨⟨a2, N2, c2, M2, rfl, hd2, hN2, hg2⟩, b3⟩; have HD1' := Lib.hid (HD1.out.below b3); have HD2 := Lib.hid hd2; have HG2 := Lib.hid hg2; have HB3 := Lib.hid (below_up HB2.out b3); clear hd2 hg2 b3)
  clear MC MCb AC b1 HD1 HB2
  go_upto_if 32 with fail
  go_cut [8] (fun u wx => ∃ (m : Nat) (X : List Dm), u = .slice a1 m c1 ∧ Hid (Dems w3 a1 m c1 X ∧ AllGood X ∧ m ≤ 3) ∧ Hid (Below w3.heap.size w3 wx))
  case first =>
    have hc1 := HD1'.out.le
    by_cases h3 : 3 < N1
    · have q1 : (3 : Int) < (N1 : Int) := by omega
      have q2 : 3 ≤ c1 := by omega
      have HX : Hid (Dems w3 a1 3 c1 (M1.take 3) ∧ AllGood (M1.take 3) ∧ 3 ≤ 3) := ⟨HD1'.out.take (by omega), HG1.out.take 3, Nat.le_refl _⟩
      clear h3 hc1
      go_wp2_with fail
      go_meet
      exact ⟨3, _, rfl, HX, Lib.hid (Below.refl _ _)⟩
    · have q1 : ¬ (3 : Int) < (N1 : Int) := by omega
      have HX : Hid (Dems w3 a1 N1 c1 M1 ∧ AllGood M1 ∧ N1 ≤ 3) := ⟨HD1'.out, HG1.out, by omega⟩
      clear h3 hc1
      go_wp2_with fail
      go_meet
      exact ⟨N1, _, rfl, HX, Lib.hid (Below.refl _ _)⟩
  case rest =>
    obtain ⟨m1, X, rfl, HX, HW⟩ := hcut
    clear HD1' HG1 hN1
    go_upto_if 37 with fail
    go_cut [9] (fun u wx => ∃ (m : Nat) (Y : List Dm), u = .slice a2 m c2 ∧ Hid (Dems w3 a2 m c2 Y ∧ AllGood Y ∧ m ≤ 3) ∧ Hid (Below w3.heap.size w3 wx))
    case first =>
      have hc2 := HD2.out.le
      by_cases h3 : 3 < N2
      · have q1 : (3 : Int) < (N2 : Int) := by omega
        have q2 : 3 ≤ c2 := by omega
        have HY : Hid (Dems w3 a2 3 c2 (M2.take 3) ∧ AllGood (M2.take 3) ∧ 3 ≤ 3) := ⟨HD2.out.take (by omega), HG2.out.take 3, Nat.le_refl _⟩
        clear h3 hc2
        go_wp2_with fail
        go_meet
        exact ⟨3, _, rfl, HY, HW⟩
      · have q1 : ¬ (3 : Int) < (N2 : Int) := by omega
        have HY : Hid (Dems w3 a2 N2 c2 M2 ∧ AllGood M2 ∧ N2 ≤ 3) := ⟨HD2.out, HG2.out, by omega⟩
        clear h3 hc2
        go_wp2_with fail
        go_meet
        exact ⟨N2, _, rfl, HY, HW⟩
    case rest =>
      obtain ⟨m2, Y, rfl, HY, HW2⟩ := hcut
      clear HD2 HG2 hN2 HW
      obtain ⟨hdx, hgx, hm1⟩ := HX.out
      obtain ⟨hdy, hgy, hm2⟩ := HY.out
      have hlx := hdx.len
      have hly := hdy.len
      have HDX := Lib.hid (hdx.below HW2.out)
      have HDY := Lib.hid (hdy.below HW2.out)
      have HGX := Lib.hid hgx
      have HGY := Lib.hid hgy
      have HLX := Lib.hid hlx
      have HLY := Lib.hid hly
      have HS1 : Hid (([] : List Dm).length + m1 ≤ 1000000) := by show 0 + m1 ≤ _; omega
      have HN1 : Hid (([] : List Dm).length + m1 = m1) := by show 0 + m1 = _; omega
      have HS2 : Hid (([] ++ X).length + m2 ≤ 1000000) := by show _ ≤ _; rw [List.nil_append]; omega
      have HN2 : Hid (([] ++ X).length + m2 = m1 + m2) := by show _ = _; rw [List.nil_append]; omega
      have HM12 : Hid (m1 ≤ 3 ∧ m2 ≤ 3) := ⟨hm1, hm2⟩
      clear HX HY hdx hdy hgx hgy hlx hly hm1 hm2
      go_upto_region 9 with (at_builtin; first
        | (refine wp_gappend (B := wc.heap.size) (m := m1) (q := []) (l := X) rfl _ _ rfl rfl rfl (OwnG.made wc) (Nat.le_of_lt (by rw [World.size_alloc]; omega)) (HDX.out.below (by repeat (first | exact Below.refl _ _ | (with_reducible assumption) | refine bw_alloc ?_ _ | refine bw_drew ?_))).view HLX.out HS1.out (fun z => by subst z; exact HDX.out.none_zero) m1 HN1.out ?_; intro a5 k5 w5 o5 n5 l5; have HO5 := Lib.hid o5; have HB5 : Hid (Below wc.heap.size wc w5) := (bw_alloc (Below.refl _ _) _).grown n5 (Nat.le_of_lt (by rw [World.size_alloc]; omega)) (fun q hq => ((OwnG.made wc).new hq).1); clear o5 n5 l5)
        | (refine wp_gappend (B := wc.heap.size) (m := m2) (q := [] ++ X) (l := Y) rfl _ _ rfl rfl rfl HO5.out HB5.out.size (HDY.out.below HB5.out).view HLY.out HS2.out (fun z => by subst z; exact HDY.out.none_zero) (m1 + m2) HN2.out ?_; intro a6 k6 w6 o6 n6 l6; have HO6 := Lib.hid o6; have HB6 : Hid (Below wc.heap.size wc w6) := HB5.out.grown n6 HB5.out.size (fun q hq => (HO5.out.new hq).1); clear o6 n6 l6))
      obtain ⟨a9, c9, e9, hv, h1, h2⟩ := HO6.out.slice
      obtain ⟨rfl, hln, rfl⟩ := Value.slice.inj e9
      rw [List.nil_append] at hv hln h1
      have hj0 : (0 : Int) ≤ (j : Int) := by omega
      have hX6 : X.length ≤ 6 := by have := HLX.out; have := HM12.out.1; omega
      have hY6 : Y.length ≤ 6 := by have := HLY.out; have := HM12.out.2; omega
      have hZ6 : (X ++ Y).length ≤ 6 := by rw [List.length_append]; have := HLX.out; have := HLY.out; have := HM12.out; omega
      have hgz := HGX.out.two HGY.out
      have hdz : Dems w6 a6 (m1 + m2) k6 (X ++ Y) := Dems.good hv hln.symm (by rw [hln]; exact h1) h2 hgz
      have OX := Lib.hid (fun v (hb : Below w6.heap.size w6 v) => pof_any ((HDX.out.below HB6.out).below hb) (j : Int) (by unfold I64; omega))
      have OY := Lib.hid (fun v (hb : Below w6.heap.size w6 v) => pof_any ((HDY.out.below HB6.out).below hb) (j : Int) (by unfold I64; omega))
      have OZ := Lib.hid (fun v (hb : Below w6.heap.size w6 v) => pof_any (hdz.below hb) (j : Int) (by unfold I64; omega))
      have NX := Lib.hid (fun v (hb : Below w6.heap.size w6 v) => pnext_any ((HDX.out.below HB6.out).below hb) (j : Int) (by unfold I64; omega))
      have NY := Lib.hid (fun v (hb : Below w6.heap.size w6 v) => pnext_any ((HDY.out.below HB6.out).below hb) (j : Int) (by unfold I64; omega))
      have NZ := Lib.hid (fun v (hb : Below w6.heap.size w6 v) => pnext_any (hdz.below hb) (j : Int) (by unfold I64; omega))
      have hsx := due_small HGX.out hX6 hj0 (by omega)
      have hsy := due_small HGY.out hY6 hj0 (by omega)
      rw [ofA_good HGX.out hX6 hj0 (by omega)] at OX
      rw [ofA_good HGY.out hY6 hj0 (by omega)] at OY
      rw [ofA_good hgz hZ6 hj0 (by omega), due_two] at OZ
      rw [nextS_good HGX.out hX6 hj0 (by omega)] at NX
      rw [nextS_good HGY.out hY6 hj0 (by omega)] at NY
      rw [nextS_good hgz hZ6 hj0 (by omega), next_min HGX.out.ok HGY.out.ok] at NZ
      obtain ⟨dx, hdx⟩ : ∃ d, dueA X (j : Int) = d := ⟨_, rfl⟩
      obtain ⟨dy, hdy⟩ : ∃ d, dueA Y (j : Int) = d := ⟨_, rfl⟩
      rw [hdx] at OX OZ hsx
      rw [hdy] at OY OZ hsy
      have e1 : IntKind.i64.wrap (dx + dy) = dx + dy := IntWalk.i64_in _ (by omega)
      obtain ⟨oa, hoa⟩ : ∃ o, nextA X (j : Int) = o := ⟨_, rfl⟩
      obtain ⟨ob, hob⟩ : ∃ o, nextA Y (j : Int) = o := ⟨_, rfl⟩
      rw [hoa] at NX NZ
      rw [hob] at NY NZ
      have HLOW := Lib.hid (below_up HB3.out (below_up HW2.out HB6.out))
      clear hv h1 h2 hln e9 hX6 hY6 hZ6 hgz hdz hdx hdy hsx hsy hoa hob HDX HDY HGX HGY HLX HLY HS1 HN1 HS2 HN2 HM12 HO6 HO5 HB5 HB6 HW2 HB3
      cases oa with
      | none =>
        cases ob with
        | none =>
          have hm : minO none none = none := rfl
          rw [hm] at NZ
          go_upto_region 11 with (go_at_call 14; (with_reducible refine (OX.out _ (Below.refl _ _)).mono ?_); rintro e v1 ⟨rfl, b1⟩)
          go_upto_region 12 with (go_at_call 14; (with_reducible refine (OY.out _ b1).mono ?_); rintro e v2 ⟨rfl, b2⟩; have B2 := below_up b1 b2; clear b2)
          go_upto_region 13 with (go_at_call 14; (with_reducible refine (OZ.out _ B2).mono ?_); rintro e v3 ⟨rfl, b3⟩; have B3 := below_up B2 b3; clear b3)
          go_upto_region 14 with (go_at_call 15; (with_reducible refine (NX.out _ B3).mono ?_); rintro e v4 ⟨rfl, b4⟩; have B4 := below_up B3 b4; clear b4)
          go_upto_region 15 with (go_at_call 15; (with_reducible refine (NY.out _ B4).mono ?_); rintro e v5 ⟨rfl, b5⟩; have B5 := below_up B4 b5; clear b5)
          go_wp2_with (go_at_call 15; (with_reducible refine (NZ.out _ B5).mono ?_); rintro e v6 ⟨rfl, b6⟩; have B6 := below_up B5 b6; clear b6)
          go_ret
          exact ⟨by first | rfl | (simp; done), below_up HLOW.out B6⟩
        | some y =>
          have hm : minO none (some y) = some y := rfl
          rw [hm] at NZ
          go_upto_region 11 with (go_at_call 14; (with_reducible refine (OX.out _ (Below.refl _ _)).mono ?_); rintro e v1 ⟨rfl, b1⟩)
          go_upto_region 12 with (go_at_call 14; (with_reducible refine (OY.out _ b1).mono ?_); rintro e v2 ⟨rfl, b2⟩; have B2 := below_up b1 b2; clear b2)
          go_upto_region 13 with (go_at_call 14; (with_reducible refine (OZ.out _ B2).mono ?_); rintro e v3 ⟨rfl, b3⟩; have B3 := below_up B2 b3; clear b3)
          go_upto_region 14 with (go_at_call 15; (with_reducible refine (NX.out _ B3).mono ?_); rintro e v4 ⟨rfl, b4⟩; have B4 := below_up B3 b4; clear b4)
          go_upto_region 15 with (go_at_call 15; (with_reducible refine (NY.out _ B4).mono ?_); rintro e v5 ⟨rfl, b5⟩; have B5 := below_up B4 b5; clear b5)
          go_wp2_with (go_at_call 15; (with_reducible refine (NZ.out _ B5).mono ?_); rintro e v6 ⟨rfl, b6⟩; have B6 := below_up B5 b6; clear b6)
          go_ret
          exact ⟨by first | rfl | (simp; done), below_up HLOW.out B6⟩
      | some x =>
        cases ob with
        | none =>
          have hm : minO (some x) none = some x := rfl
          rw [hm] at NZ
          go_upto_region 11 with (go_at_call 14; (with_reducible refine (OX.out _ (Below.refl _ _)).mono ?_); rintro e v1 ⟨rfl, b1⟩)
          go_upto_region 12 with (go_at_call 14; (with_reducible refine (OY.out _ b1).mono ?_); rintro e v2 ⟨rfl, b2⟩; have B2 := below_up b1 b2; clear b2)
          go_upto_region 13 with (go_at_call 14; (with_reducible refine (OZ.out _ B2).mono ?_); rintro e v3 ⟨rfl, b3⟩; have B3 := below_up B2 b3; clear b3)
          go_upto_region 14 with (go_at_call 15; (with_reducible refine (NX.out _ B3).mono ?_); rintro e v4 ⟨rfl, b4⟩; have B4 := below_up B3 b4; clear b4)
          go_upto_region 15 with (go_at_call 15; (with_reducible refine (NY.out _ B4).mono ?_); rintro e v5 ⟨rfl, b5⟩; have B5 := below_up B4 b5; clear b5)
          go_wp2_with (go_at_call 15; (with_reducible refine (NZ.out _ B5).mono ?_); rintro e v6 ⟨rfl, b6⟩; have B6 := below_up B5 b6; clear b6)
          go_ret
          exact ⟨by first | rfl | (simp; done), below_up HLOW.out B6⟩
        | some y =>
          by_cases q : y < x
          · have hm : minO (some x) (some y) = some y := if_pos q
            rw [hm] at NZ
            go_upto_region 11 with (go_at_call 14; (with_reducible refine (OX.out _ (Below.refl _ _)).mono ?_); rintro e v1 ⟨rfl, b1⟩)
            go_upto_region 12 with (go_at_call 14; (with_reducible refine (OY.out _ b1).mono ?_); rintro e v2 ⟨rfl, b2⟩; have B2 := below_up b1 b2; clear b2)
            go_upto_region 13 with (go_at_call 14; (with_reducible refine (OZ.out _ B2).mono ?_); rintro e v3 ⟨rfl, b3⟩; have B3 := below_up B2 b3; clear b3)
            go_upto_region 14 with (go_at_call 15; (with_reducible refine (NX.out _ B3).mono ?_); rintro e v4 ⟨rfl, b4⟩; have B4 := below_up B3 b4; clear b4)
            go_upto_region 15 with (go_at_call 15; (with_reducible refine (NY.out _ B4).mono ?_); rintro e v5 ⟨rfl, b5⟩; have B5 := below_up B4 b5; clear b5)
            go_wp2_with (go_at_call 15; (with_reducible refine (NZ.out _ B5).mono ?_); rintro e v6 ⟨rfl, b6⟩; have B6 := below_up B5 b6; clear b6)
            go_ret
            exact ⟨by first | rfl | (simp; done), below_up HLOW.out B6⟩
          · have hm : minO (some x) (some y) = some x := if_neg q
            rw [hm] at NZ
            go_upto_region 11 with (go_at_call 14; (with_reducible refine (OX.out _ (Below.refl _ _)).mono ?_); rintro e v1 ⟨rfl, b1⟩)
            go_upto_region 12 with (go_at_call 14; (with_reducible refine (OY.out _ b1).mono ?_); rintro e v2 ⟨rfl, b2⟩; have B2 := below_up b1 b2; clear b2)
            go_upto_region 13 with (go_at_call 14; (with_reducible refine (OZ.out _ B2).mono ?_); rintro e v3 ⟨rfl, b3⟩; have B3 := below_up B2 b3; clear b3)
            go_upto_region 14 with (go_at_call 15; (with_reducible refine (NX.out _ B3).mono ?_); rintro e v4 ⟨rfl, b4⟩; have B4 := below_up B3 b4; clear b4)
            go_upto_region 15 with (go_at_call 15; (with_reducible refine (NY.out _ B4).mono ?_); rintro e v5 ⟨rfl, b5⟩; have B5 := below_up B4 b5; clear b5)
            go_wp2_with (go_at_call 15; (with_reducible refine (NZ.out _ B5).mono ?_); rintro e v6 ⟨rfl, b6⟩; have B6 := below_up B5 b6; clear b6)
            go_ret
            exact ⟨by first | rfl | (simp; done), below_up HLOW.out B6⟩
end Go.Proofs.Ytbliagfmpcmfdaa

/-
  The walk over the statement that work, deadlines, periods and slack are told as the document's.
-/
namespace Go.Proofs.Ytbliagfmpcmfdaa
open Go.RowKit Go.Maps

set_option maxRecDepth 100000 in
set_option maxHeartbeats 16000000 in
theorem tells11_any {w : World} {a : Option Addr} {n c : Nat} {l : List Dm} (h : Dems w a n c l) (t : Int) (ht : I64 t) :
    Calls Try.prog 10 #[.slice a n c, .int .i64 t] w fun e w' => e = .returned (.bool true) ∧ Below w.heap.size w w' := by
  have C1 := Lib.hid (fun v (hb : Below w.heap.size w v) => pof_any (h.below hb) t ht)
  have C2 := Lib.hid (fun v (hb : Below w.heap.size w v) => rof_any l n c h.len h.n9 a t v (h.view.below hb))
  have C3 := Lib.hid (fun v (hb : Below w.heap.size w v) => pnext_any (h.below hb) t ht)
  have C4 := Lib.hid (fun v (hb : Below w.heap.size w v) => rnext_any l n c h.len h.n9 a t v (h.view.below hb))
  have C5 := Lib.hid (fun v (hb : Below w.heap.size w v) => plast_any (h.below hb) t ht)
  have C6 := Lib.hid (fun v (hb : Below w.heap.size w v) => rlast_any l n c h.len h.n9 a t v (h.view.below hb))
  have C7 := Lib.hid (fun v (hb : Below w.heap.size w v) => pperiod_any (h.below hb))
  have C8 := Lib.hid (fun v (hb : Below w.heap.size w v) => rperiod_any l n c h.len h.n9 a v (h.view.below hb))
  have C9 := Lib.hid (fun v (hb : Below w.heap.size w v) => pload_any (h.below hb))
  have C10 := Lib.hid (fun v (hb : Below w.heap.size w v) => rload_any l n c h.len h.n9 a v (h.view.below hb))
  have C11 := Lib.hid (fun v (hb : Below w.heap.size w v) => pcheck_any (h.below hb))
  have C12 := Lib.hid (fun v (hb : Below w.heap.size w v) => rcheck_any l n c h.len h.n9 a v (h.view.below hb))
  clear h ht
  generalize (ofA l t).getD 0 = o1 at *
  generalize (ofA l t).isSome = o2 at *
  generalize (nextS l t).getD 0 = x1 at *
  generalize (nextS l t).isSome = x2 at *
  generalize (lastS l t).getD 0 = l1 at *
  generalize (lastS l t).isSome = l2 at *
  generalize (perS l).1 = p1 at *
  generalize (perS l).2 = p2 at *
  generalize (ldS l).1 = d1 at *
  generalize (ldS l).2.1 = d2 at *
  generalize (ldS l).2.2 = d3 at *
  generalize okL l = ok at *
  go_enter Try.func10, Try.ntmps10
  go_upto_region 2 with (go_at_call 14; (with_reducible refine (C1.out _ (Below.refl _ _)).mono ?_); rintro e v0 ⟨rfl, b⟩; have B0 := b; clear b)
  go_upto_region 3 with (go_at_call 20; (with_reducible refine (C2.out _ B0).mono ?_); rintro e v1 ⟨rfl, b⟩; have B1 := below_up B0 b; clear b)
  obtain ⟨g1, hg1⟩ : ∃ g, v1.heap.size = g := ⟨_, rfl⟩
  have hq := heap_alloc_new v1 (.cells #[.int .i64 o1, .bool o2] NT)
  rw [hg1] at hq ⊢
  refine gen_world (fun v => Below w.heap.size w v ∧ v.heap[g1]? = some (.cells #[.int .i64 o1, .bool o2] NT (0, 0))) ⟨below_up B1 (by repeat (first | exact Below.refl _ _ | (with_reducible assumption) | refine bw_alloc ?_ _ | refine bw_drew ?_)), hq⟩ ?_
  clear hq hg1 B0 B1
  intro u1 ⟨B1, Kg1⟩
  go_upto_region 4 with (go_at_call 15; (with_reducible refine (C3.out _ B1).mono ?_); rintro e v2 ⟨rfl, b⟩; have Kg1 := kept_obj b Kg1; have B2 := below_up B1 b; clear b)
  go_upto_region 5 with (go_at_call 21; (with_reducible refine (C4.out _ B2).mono ?_); rintro e v3 ⟨rfl, b⟩; have Kg1 := kept_obj b Kg1; have B3 := below_up B2 b; clear b)
  obtain ⟨g2, hg2⟩ : ∃ g, v3.heap.size = g := ⟨_, rfl⟩
  have hq := heap_alloc_new v3 (.cells #[.int .i64 x1, .bool x2] NT)
  rw [hg2] at hq ⊢
  refine gen_world (fun v => Below w.heap.size w v ∧ v.heap[g1]? = some (.cells #[.int .i64 o1, .bool o2] NT (0, 0)) ∧ v.heap[g2]? = some (.cells #[.int .i64 x1, .bool x2] NT (0, 0))) ⟨below_up B3 (by repeat (first | exact Below.refl _ _ | (with_reducible assumption) | refine bw_alloc ?_ _ | refine bw_drew ?_)), kept_obj (by repeat (first | exact Below.refl _ _ | (with_reducible assumption) | refine bw_alloc ?_ _ | refine bw_drew ?_)) Kg1, hq⟩ ?_
  clear hq hg2 B2 B3 Kg1
  intro u3 ⟨B3, Kg1, Kg2⟩
  go_upto_region 6 with (go_at_call 16; (with_reducible refine (C5.out _ B3).mono ?_); rintro e v4 ⟨rfl, b⟩; have Kg1 := kept_obj b Kg1; have Kg2 := kept_obj b Kg2; have B4 := below_up B3 b; clear b)
  go_upto_region 7 with (go_at_call 22; (with_reducible refine (C6.out _ B4).mono ?_); rintro e v5 ⟨rfl, b⟩; have Kg1 := kept_obj b Kg1; have Kg2 := kept_obj b Kg2; have B5 := below_up B4 b; clear b)
  obtain ⟨g3, hg3⟩ : ∃ g, v5.heap.size = g := ⟨_, rfl⟩
  have hq := heap_alloc_new v5 (.cells #[.int .i64 l1, .bool l2] NT)
  rw [hg3] at hq ⊢
  refine gen_world (fun v => Below w.heap.size w v ∧ v.heap[g1]? = some (.cells #[.int .i64 o1, .bool o2] NT (0, 0)) ∧ v.heap[g2]? = some (.cells #[.int .i64 x1, .bool x2] NT (0, 0)) ∧ v.heap[g3]? = some (.cells #[.int .i64 l1, .bool l2] NT (0, 0))) ⟨below_up B5 (by repeat (first | exact Below.refl _ _ | (with_reducible assumption) | refine bw_alloc ?_ _ | refine bw_drew ?_)), kept_obj (by repeat (first | exact Below.refl _ _ | (with_reducible assumption) | refine bw_alloc ?_ _ | refine bw_drew ?_)) Kg1, kept_obj (by repeat (first | exact Below.refl _ _ | (with_reducible assumption) | refine bw_alloc ?_ _ | refine bw_drew ?_)) Kg2, hq⟩ ?_
  clear hq hg3 B4 B5 Kg1 Kg2
  intro u5 ⟨B5, Kg1, Kg2, Kg3⟩
  go_upto_region 8 with (go_at_call 18; (with_reducible refine (C7.out _ B5).mono ?_); rintro e v6 ⟨rfl, b⟩; have Kg1 := kept_obj b Kg1; have Kg2 := kept_obj b Kg2; have Kg3 := kept_obj b Kg3; have B6 := below_up B5 b; clear b)
  go_upto_region 9 with (go_at_call 23; (with_reducible refine (C8.out _ B6).mono ?_); rintro e v7 ⟨rfl, b⟩; have Kg1 := kept_obj b Kg1; have Kg2 := kept_obj b Kg2; have Kg3 := kept_obj b Kg3; have B7 := below_up B6 b; clear b)
  go_upto_region 10 with (go_at_call 17; (with_reducible refine (C9.out _ B7).mono ?_); rintro e v8 ⟨rfl, b⟩; have Kg1 := kept_obj b Kg1; have Kg2 := kept_obj b Kg2; have Kg3 := kept_obj b Kg3; have B8 := below_up B7 b; clear b)
  go_upto_region 11 with (go_at_call 24; (with_reducible refine (C10.out _ B8).mono ?_); rintro e v9 ⟨rfl, b⟩; have Kg1 := kept_obj b Kg1; have Kg2 := kept_obj b Kg2; have Kg3 := kept_obj b Kg3; have B9 := below_up B8 b; clear b)
  obtain ⟨g4, hg4⟩ : ∃ g, v9.heap.size = g := ⟨_, rfl⟩
  have hq := heap_alloc_new v9 (.cells #[.int .i64 d1, .int .i64 d2, .int .i64 d3] WT)
  rw [hg4] at hq ⊢
  refine gen_world (fun v => Below w.heap.size w v ∧ v.heap[g1]? = some (.cells #[.int .i64 o1, .bool o2] NT (0, 0)) ∧ v.heap[g2]? = some (.cells #[.int .i64 x1, .bool x2] NT (0, 0)) ∧ v.heap[g3]? = some (.cells #[.int .i64 l1, .bool l2] NT (0, 0)) ∧ v.heap[g4]? = some (.cells #[.int .i64 d1, .int .i64 d2, .int .i64 d3] WT (0, 0))) ⟨below_up B9 (by repeat (first | exact Below.refl _ _ | (with_reducible assumption) | refine bw_alloc ?_ _ | refine bw_drew ?_)), kept_obj (by repeat (first | exact Below.refl _ _ | (with_reducible assumption) | refine bw_alloc ?_ _ | refine bw_drew ?_)) Kg1, kept_obj (by repeat (first | exact Below.refl _ _ | (with_reducible assumption) | refine bw_alloc ?_ _ | refine bw_drew ?_)) Kg2, kept_obj (by repeat (first | exact Below.refl _ _ | (with_reducible assumption) | refine bw_alloc ?_ _ | refine bw_drew ?_)) Kg3, hq⟩ ?_
  clear hq hg4 B8 B9 Kg1 Kg2 Kg3
  intro u9 ⟨B9, Kg1, Kg2, Kg3, Kg4⟩
  try simp only [List.append]
  go_wp2_with (first
    | (go_at_call 25; (with_reducible refine (C11.out _ B9).mono ?_); rintro e va ⟨rfl, b⟩; have Kg1 := kept_obj b Kg1; have Kg2 := kept_obj b Kg2; have Kg3 := kept_obj b Kg3; have Kg4 := kept_obj b Kg4; have B10 := below_up B9 b; clear b)
    | (go_at_call 26; (with_reducible refine (C12.out _ B10).mono ?_); rintro e vb ⟨rfl, b⟩; have Kg1 := kept_obj b Kg1; have Kg2 := kept_obj b Kg2; have Kg3 := kept_obj b Kg3; have Kg4 := kept_obj b Kg4; have B11 := below_up B10 b; clear b; have yg10 : vb.cell? ⟨g1, 0, none⟩ = some (.int .i64 o1) := (by rw [blk_cell Kg1]; rfl); have yg11 : vb.cell? ⟨g1, 1, none⟩ = some (.bool o2) := (by rw [blk_cell Kg1]; rfl); have yg20 : vb.cell? ⟨g2, 0, none⟩ = some (.int .i64 x1) := (by rw [blk_cell Kg2]; rfl); have yg21 : vb.cell? ⟨g2, 1, none⟩ = some (.bool x2) := (by rw [blk_cell Kg2]; rfl); have yg30 : vb.cell? ⟨g3, 0, none⟩ = some (.int .i64 l1) := (by rw [blk_cell Kg3]; rfl); have yg31 : vb.cell? ⟨g3, 1, none⟩ = some (.bool l2) := (by rw [blk_cell Kg3]; rfl); have yg40 : vb.cell? ⟨g4, 0, none⟩ = some (.int .i64 d1) := (by rw [blk_cell Kg4]; rfl); have yg41 : vb.cell? ⟨g4, 1, none⟩ = some (.int .i64 d2) := (by rw [blk_cell Kg4]; rfl); have yg42 : vb.cell? ⟨g4, 2, none⟩ = some (.int .i64 d3) := (by rw [blk_cell Kg4]; rfl)))
  go_ret
  exact ⟨by first | rfl | (simp; done), B11⟩
end Go.Proofs.Ytbliagfmpcmfdaa

/-
  The walk over what the statement asks of slack; then the statement itself.
-/
namespace Go.Proofs.Ytbliagfmpcmfdaa
open Go.RowKit Go.Maps

theorem Dems.cut {w : World} {a : Option Addr} {n c : Nat} {l : List Dm} (h : Dems w a n c l) {m : Nat} (hm : m ≤ n) : Dems w a m c (l.take m) :=
  ⟨by rw [List.length_take, h.len]; omega, h.view.take m, Nat.le_trans hm h.le, h.small, fun x hx => h.wf x (List.mem_of_mem_take hx)⟩
set_option maxRecDepth 100000 in
set_option maxHeartbeats 2000000 in
theorem few11_any {w : World} {a : Option Addr} {n c : Nat} {l : List Dm} (h : Dems w a n c l) :
    Calls Try.prog 12 #[.slice a n c] w fun e w' => (∃ (m : Nat) (l' : List Dm), e = .returned (.slice a m c) ∧ Dems w' a m c l') ∧ Below w.heap.size w w' := by
  have HD := Lib.hid h
  have hc := h.le
  clear h
  by_cases h66 : 66 < n
  · have q1 : (66 : Int) < (n : Int) := by omega
    have q2 : 66 ≤ c := by omega
    have HX := Lib.hid (HD.out.cut (m := 66) (by omega))
    clear h66 hc
    go_enter Try.func12, Try.ntmps12
    go_wp2
    go_ret
    exact ⟨by first | exact ⟨66, _, rfl, HX.out⟩ | exact ⟨_, HX.out⟩ | exact ⟨_, rfl, HX.out⟩, Below.refl _ _⟩
  · have q1 : ¬ (66 : Int) < (n : Int) := by omega
    clear h66 hc
    go_enter Try.func12, Try.ntmps12
    go_wp2
    go_ret
    exact ⟨by first | exact ⟨n, _, rfl, HD.out⟩ | exact ⟨_, HD.out⟩ | exact ⟨n, rfl, _, HD.out⟩, Below.refl _ _⟩

set_option maxRecDepth 100000 in
set_option maxHeartbeats 8000000 in
theorem slack11_any {w : World} {a : Option Addr} {n c : Nat} {l : List Dm} (h : Dems w a n c l) (q0 q1 q2 : Int) :
    Calls Try.prog 13 #[.slice a n c, .agg #[.int .i64 q0, .int .i64 q1, .int .i64 q2]] w fun e w' => e = .returned (.bool true) ∧ Below w.heap.size w w' := by
  have r1a := Int.tmod_lt_of_pos q1 (show (0 : Int) < 2001 by omega)
  have r1b := Int.lt_tmod_of_pos q1 (show (0 : Int) < 2001 by omega)
  have r2a := Int.tmod_lt_of_pos q2 (show (0 : Int) < 501 by omega)
  have r2b := Int.lt_tmod_of_pos q2 (show (0 : Int) < 501 by omega)
  obtain ⟨fr, hfr⟩ : ∃ fr, q1.tmod 2001 = fr := ⟨_, rfl⟩
  obtain ⟨r2, hr2⟩ : ∃ r, q2.tmod 501 = r := ⟨_, rfl⟩
  rw [hfr] at r1a r1b
  rw [hr2] at r2a r2b
  have e1 : IntKind.i64.wrap (fr + r2) = fr + r2 := IntWalk.i64_in _ (by omega)
  obtain ⟨tt, htt⟩ : ∃ tt, fr + r2 = tt := ⟨_, rfl⟩
  rw [htt] at e1
  have e2 : IntKind.i64.wrap (fr + 2097152) = fr + 2097152 := IntWalk.i64_in _ (by omega)
  obtain ⟨t3, ht3⟩ : ∃ t3, fr + 2097152 = t3 := ⟨_, rfl⟩
  have C3 := Lib.hid (fun v (hb : Below w.heap.size w v) => pslack_any (h.below hb) fr tt (by unfold I64; omega) (by unfold I64; omega))
  have C4 := Lib.hid (fun v (hb : Below w.heap.size w v) => rslack_any l n c h.len h.n9 a fr tt v (h.view.below hb))
  have C5 := Lib.hid (fun v (hb : Below w.heap.size w v) => pslack_any (h.below hb) fr t3 (by unfold I64; omega) (by unfold I64; omega))
  have C6 := Lib.hid (fun v (hb : Below w.heap.size w v) => pslack_any (h.below hb) (-1) tt (by unfold I64; omega) (by unfold I64; omega))
  rw [slS_bad (fun z => by have := z.2.2; omega)] at C5
  rw [slS_bad (fun z => by have := timeB_iff.1 z.1; unfold timeOk at this; omega)] at C6
  rw [ht3] at e2
  generalize (slS l fr tt).getD 0 = s1 at *
  generalize (slS l fr tt).isSome = s2 at *
  have u1 : fr + r2 = tt := htt
  have u2 : fr + 2097152 = t3 := ht3
  clear h r1a r1b r2a r2b htt ht3
  go_enter Try.func13, Try.ntmps13
  go_upto_region 4 with (go_at_call 19; (with_reducible refine (C3.out _ (by repeat (first | exact Below.refl _ _ | (with_reducible assumption) | refine bw_alloc ?_ _ | refine bw_drew ?_))).mono ?_); rintro e v1 ⟨rfl, b1⟩; have B1 := below_up (W := w) (by repeat (first | exact Below.refl _ _ | (with_reducible assumption) | refine bw_alloc ?_ _ | refine bw_drew ?_)) b1; clear b1)
  go_upto_region 5 with (go_at_call 27; (with_reducible refine (C4.out _ B1).mono ?_); rintro e v2 ⟨rfl, b2⟩; have B2 := below_up B1 b2; clear b2)
  obtain ⟨g, hg⟩ : ∃ g, v2.heap.size = g := ⟨_, rfl⟩
  have hq := nm_new v2 s1 s2
  rw [hg] at hq ⊢
  refine gen_world (fun v => Below w.heap.size w v ∧ Nm v g s1 s2) ⟨below_up B2 (by repeat (first | exact Below.refl _ _ | (with_reducible assumption) | refine bw_alloc ?_ _ | refine bw_drew ?_)), hq⟩ ?_
  clear hq hg B1 B2
  intro V3 ⟨B3, K3⟩
  have K3 := Lib.hid K3
  go_upto_region 6 with (go_at_call 19; (with_reducible refine (C5.out _ B3).mono ?_); rintro e v4 ⟨rfl, b4⟩; have B4 := below_up B3 b4; have K4 : Hid (Nm v4 g s1 s2) := kept_obj b4 K3.out; clear b4)
  go_upto_region 7 with (go_at_call 19; (with_reducible refine (C6.out _ B4).mono ?_); rintro e v5 ⟨rfl, b5⟩; have B5 := below_up B4 b5; have K5 : Hid (Nm v5 g s1 s2) := kept_obj b5 K4.out; clear b5)
  have y0 : v5.cell? ⟨g, 0, none⟩ = some (.int .i64 s1) := by rw [blk_cell K5.out]; rfl
  have y1 : v5.cell? ⟨g, 1, none⟩ = some (.bool s2) := by rw [blk_cell K5.out]; rfl
  go_wp2_with fail
  go_ret
  exact ⟨by first | rfl | (simp; done), B5⟩

set_option maxRecDepth 100000 in
set_option maxHeartbeats 8000000 in
theorem law_tells (W : World) (a : Option Addr) (n cap : Nat) (l : Nat → Int × Int × Int) (hn : Trips W a n l) (a2 : Option Addr) (n2 c2 : Nat) (L : List Dm) (hd : Dems W a2 n2 c2 L) (q0 q1 q2 : Int) (h0 : I64 q0) :
    Calls Try.prog 3 #[.slice a n cap, .slice a2 n2 c2, .agg #[.int .i64 q0, .int .i64 q1, .int .i64 q2]] W fun e w' => e = .returned (.bool true) ∧ Below W.heap.size W w' := by
  have MC := Lib.hid (fun v (hb : Below W.heap.size W v) => made_dems (hn.below hb) cap)
  have FC := Lib.hid (fun v (hb : Below W.heap.size W v) => few11_any (hd.below hb))
  obtain ⟨j, hj, hband⟩ := and255 q0
  have HT0 := Lib.hid h0
  have HTJ : Hid (I64 (j : Int)) := by show I64 _; unfold I64; omega
  have AC := Lib.hid (fun v => awake_any v)
  clear hn hd h0
  go_enter Try.func3, Try.ntmps3
  go_upto_region 1 with fail
  obtain ⟨bx, hbx⟩ : ∃ bx, W.heap.size = bx := ⟨_, rfl⟩
  refine gen_world (fun v => Below W.heap.size W v ∧ v.heap[bx]? = some (.cells #[.int .i64 q0, .int .i64 q1, .int .i64 q2] 24 (0, 0))) ⟨(by repeat (first | exact Below.refl _ _ | (with_reducible assumption) | refine bw_alloc ?_ _ | refine bw_drew ?_)), by rw [← hbx]; exact heap_alloc_new W _⟩ ?_
  rw [hbx]
  intro V0 ⟨hl0, hx0⟩
  rw [← hbx] at hl0
  have HX := Lib.hid hx0
  clear hx0
  go_upto_region 2 with (go_at_call 9; (with_reducible refine (AC.out _).mono ?_); rintro e w1 ⟨rfl, b1⟩; have BB := below_up hl0 b1; have HX := Lib.hid (kept_obj b1 HX.out); clear b1)
  clear AC
  have HB := Lib.hid BB
  have MK : Hid (∀ w', Below w1.heap.size w1 w' → (w'.cell? ⟨bx, 0, none⟩ = some (.int .i64 q0) ∧ w'.cell? ⟨bx, 1, none⟩ = some (.int .i64 q1) ∧ w'.cell? ⟨bx, 2, none⟩ = some (.int .i64 q2))) := fun w' hb => by
    have x := kept_obj hb HX.out
    exact ⟨by rw [blk_cell x]; rfl, by rw [blk_cell x]; rfl, by rw [blk_cell x]; rfl⟩
  clear BB hl0
  go_cut [6] (fun u wx => u = .bool true ∧ Hid (Below W.heap.size W wx))
  case first =>
    go_region_held3 (fun w' => w'.cell? ⟨bx, 0, none⟩ = some (.int .i64 q0) ∧ w'.cell? ⟨bx, 1, none⟩ = some (.int .i64 q1) ∧ w'.cell? ⟨bx, 2, none⟩ = some (.int .i64 q2)) (exact MK.out _ (by repeat (first | exact Below.refl _ _ | (with_reducible assumption) | refine bw_alloc ?_ _ | refine bw_drew ?_))) (first
      | (go_at_call 11; (with_reducible refine (Calls.upV (V := w1) (by repeat (first | exact Below.refl _ _ | (with_reducible assumption) | refine bw_alloc ?_ _ | refine bw_drew ?_)) (MC.out _ (below_up HB.out (by repeat (first | exact Below.refl _ _ | (with_reducible assumption) | refine bw_alloc ?_ _ | refine bw_drew ?_))))).mono ?_); rintro e wm ⟨⟨a', N, c', M, rfl, hd, hN, hg⟩, bz, bx1⟩; have HD := Lib.hid hd; clear hd hg hN bz)
      | (go_at_call 12; (with_reducible refine (Calls.upV (V := w1) (by repeat (first | exact Below.refl _ _ | (with_reducible assumption) | refine bw_alloc ?_ _ | refine bw_drew ?_)) (FC.out _ (below_up HB.out (by repeat (first | exact Below.refl _ _ | (with_reducible assumption) | refine bw_alloc ?_ _ | refine bw_drew ?_))))).mono ?_); rintro e wf ⟨⟨mf, lf, rfl, hd⟩, bz, bx1⟩; have HD := Lib.hid hd; clear hd bz)
      | (go_at_call 10; (with_reducible refine (Calls.upV (V := w1) (by repeat (first | exact Below.refl _ _ | (with_reducible assumption) | refine bw_alloc ?_ _ | refine bw_drew ?_)) (tells11_any (HD.out.below (by repeat (first | exact Below.refl _ _ | (with_reducible assumption) | refine bw_alloc ?_ _ | refine bw_drew ?_))) q0 HT0.out)).mono ?_); rintro e wt ⟨rfl, bz, bx2⟩; clear bz)
      | (go_at_call 10; (with_reducible refine (Calls.upV (V := w1) (by repeat (first | exact Below.refl _ _ | (with_reducible assumption) | refine bw_alloc ?_ _ | refine bw_drew ?_)) (tells11_any (HD.out.below (by repeat (first | exact Below.refl _ _ | (with_reducible assumption) | refine bw_alloc ?_ _ | refine bw_drew ?_))) (j : Int) HTJ.out)).mono ?_); rintro e wt ⟨rfl, bz, bx2⟩; clear bz)
      | (go_at_call 13; (with_reducible refine (Calls.upV (V := w1) (by repeat (first | exact Below.refl _ _ | (with_reducible assumption) | refine bw_alloc ?_ _ | refine bw_drew ?_)) (slack11_any (HD.out.below (by repeat (first | exact Below.refl _ _ | (with_reducible assumption) | refine bw_alloc ?_ _ | refine bw_drew ?_))) q0 q1 q2)).mono ?_); rintro e ws ⟨rfl, bz, bx3⟩; clear bz))
    all_goals
      go_wp2_with fail
      go_meet
      exact ⟨by first | rfl | (simp; done), Lib.hid (below_up HB.out (by repeat (first | exact Below.refl _ _ | (with_reducible assumption) | refine bw_alloc ?_ _ | refine bw_drew ?_)))⟩
  case rest =>
    obtain ⟨rfl, H9⟩ := hcut
    go_wp2_with fail
    go_ret
    exact ⟨rfl, H9.out⟩
end Go.Proofs.Ytbliagfmpcmfdaa

/-
  The arguments of the statements of demand, opened; the rows.
-/
namespace Go.Proofs.Ytbliagfmpcmfdaa
open Go.ChangeShapes Go.WideShapes Go.ChangeAt Go.RowKit
instance : Inhabited Dm := ⟨⟨0, 0, 0⟩⟩
section
variable {H : Type} {enc : TypeId × Value → H} {W : World} {base : Nat} {spare : Nat → Bool} {held : Bool}
set_option maxRecDepth 100000 in
theorem open_trips {r : Reach} {b0 : Nat} {v : Value} {d : DataW H} {p : List MemPlace} (hv : Value.okWide Try.prog W r b0 22 v) (h : DataW.Trod enc Try.prog W base spare held 22 v d p) :
    ∃ (a : Option Addr) (n c : Nat) (l : Nat → Int × Int × Int), v = .slice a n c ∧ Trips W a n l := by
  obtain ⟨a0, len, cap, rfl⟩ := okWide_slice Try.underlying22 hv
  refine ⟨a0, len, cap, ?_⟩
  obtain ⟨fuel, hf⟩ := h
  have k1 : Try.prog.cellsOf 3 = 1 := by kernel_rfl
  have k2 : Try.prog.cellsOf 53 = 3 := by kernel_rfl
  have hf : DataW.trod enc Try.prog W base spare held fuel 22 [.slice a0 len cap] = some (d, p) := by simpa [Value.cells] using hf
  rcases Go.Deep.open_slice Try.underlying22 hf with ⟨hcs, _⟩ | ⟨a, len', cap', m, n, D, Pl, hcs, hb, hl, hm, hmm, hx, hi⟩
  · simp at hcs
    obtain ⟨rfl, rfl, rfl⟩ := hcs
    exact ⟨fun _ => (0, 0, 0), rfl, by omega, fun k hk => absurd hk (Nat.not_lt_zero _)⟩
  · simp at hcs
    obtain ⟨rfl, rfl, rfl⟩ := hcs
    have hlm : len ≤ m := by rw [hmm]; split <;> omega
    obtain ⟨O, hO⟩ := Go.Deep.choose_lt (n := len) (p := fun i (o : Int × Int × Int) => W.cell? (a.add (i * 3)) = some (.int .i64 o.1) ∧ W.cell? (a.add (i * 3 + 1)) = some (.int .i64 o.2.1) ∧ W.cell? (a.add (i * 3 + 2)) = some (.int .i64 o.2.2)) (fun i hil => by
      obtain ⟨cs, hc, htr⟩ := hi i (by omega)
      rw [k2] at hc
      obtain ⟨_, hcl, hat⟩ := World.cells?_some hc
      obtain ⟨ys, m', _, _, hlen, hyl, hall⟩ := DataW.trod_array Try.underlying53 htr
      rw [k1] at hall
      match cs, hcl, ys, hyl with
      | [v0, v1, v2], _, [y0, y1, y2], _ =>
        have t0 : DataW.trod enc Try.prog W base spare held m' 3 [v0] = some y0 := by have q := hall 0 (by omega); simpa using q
        have t1 : DataW.trod enc Try.prog W base spare held m' 3 [v1] = some y1 := by have q := hall 1 (by omega); simpa using q
        have t2 : DataW.trod enc Try.prog W base spare held m' 3 [v2] = some y2 := by have q := hall 2 (by omega); simpa using q
        obtain ⟨n0, e0, _, w0⟩ := DataW.trod_int Try.underlying3 t0
        obtain ⟨n1, e1, _, w1⟩ := DataW.trod_int Try.underlying3 t1
        obtain ⟨n2, e2, _, w2⟩ := DataW.trod_int Try.underlying3 t2
        simp at e0 e1 e2
        subst e0 e1 e2
        have c0 := hat 0 (by omega)
        have c1 := hat 1 (by omega)
        have c2 := hat 2 (by omega)
        rw [Go.Deep.add_add] at c0 c1 c2
        exact ⟨(n0, n1, n2), c0, c1, c2⟩)
    refine ⟨O, rfl, by unfold maxLen at hm; omega, fun k hk => ?_⟩
    obtain ⟨c0, c1, c2⟩ := hO k hk
    have z0 := (hO 0 (by omega)).1
    rcases a with ⟨b, off, spot⟩
    have hs : spot = none := by
      cases spot with
      | none => rfl
      | some s => simp [World.cell?, Addr.add] at z0; split at z0 <;> simp at z0
    subst hs
    rw [addr_at] at c0 c1 c2
    exact ⟨b, off, rfl, c0, c1, c2⟩
set_option maxRecDepth 100000 in
/-- The cells of a demand. -/
theorem open_dcells {fuel : Nat} {cs : List Value} {y : DataW H × List MemPlace} (h : DataW.trod enc Try.prog W base spare held fuel 32 cs = some y) : ∃ x : Dm, cs = gcells x ∧ I64 x.c ∧ I64 x.d ∧ I64 x.t := by
  obtain ⟨xs, n, _, _, hl, hlen, hf⟩ := DataW.trod_struct Try.underlying32 h
  have hl3 : cs.length = 3 := hl.trans (by kernel_rfl)
  have hx3 : xs.length = 3 := hlen
  have k1 : Try.prog.cellsOf 2 = 1 := by kernel_rfl
  match cs, hl3, xs, hx3 with
  | [v0, v1, v2], _, [y0, y1, y2], _ =>
    have t0 : DataW.trod enc Try.prog W base spare held n 2 [v0] = some y0 := by have q := hf 0 _ rfl; simpa [k1] using q
    have t1 : DataW.trod enc Try.prog W base spare held n 2 [v1] = some y1 := by have q := hf 1 _ rfl; simpa [k1] using q
    have t2 : DataW.trod enc Try.prog W base spare held n 2 [v2] = some y2 := by have q := hf 2 _ rfl; simpa [k1] using q
    obtain ⟨n0, e0, _, w0⟩ := DataW.trod_int Try.underlying2 t0
    obtain ⟨n1, e1, _, w1⟩ := DataW.trod_int Try.underlying2 t1
    obtain ⟨n2, e2, _, w2⟩ := DataW.trod_int Try.underlying2 t2
    simp at e0 e1 e2
    subst e0 e1 e2
    exact ⟨⟨n0, n1, n2⟩, rfl, i64_of_wf w0, i64_of_wf w1, i64_of_wf w2⟩
set_option maxRecDepth 100000 in
theorem open_dems {r : Reach} {b0 : Nat} {v : Value} {d : DataW H} {p : List MemPlace} (hv : Value.okWide Try.prog W r b0 23 v) (h : DataW.Trod enc Try.prog W base spare held 23 v d p) :
    ∃ (a : Option Addr) (n c : Nat) (L : List Dm), v = .slice a n c ∧ Dems W a n c L := by
  obtain ⟨a0, len, cap, rfl⟩ := okWide_slice Try.underlying23 hv
  obtain ⟨fuel, hf⟩ := h
  have hf : DataW.trod enc Try.prog W base spare held fuel 23 [.slice a0 len cap] = some (d, p) := by simpa [Value.cells] using hf
  have k3 : Try.prog.cellsOf 32 = 3 := by kernel_rfl
  rcases Go.Deep.open_slice Try.underlying23 hf with ⟨hcs, _⟩ | ⟨a, len', cap', m, n, D, Pl, hcs, hb, hl, hm, hmm, hx, hi⟩
  · simp at hcs
    obtain ⟨rfl, rfl, rfl⟩ := hcs
    exact ⟨none, 0, 0, [], rfl, ⟨rfl, .inl rfl, Nat.le_refl _, by omega, (fun x hx => by cases hx)⟩⟩
  · simp at hcs
    obtain ⟨rfl, rfl, rfl⟩ := hcs
    have hlm : len ≤ m := by rw [hmm]; split <;> omega
    obtain ⟨O, hO⟩ := Go.Deep.choose_lt (n := len) (p := fun i (x : Dm) => (I64 x.c ∧ I64 x.d ∧ I64 x.t) ∧ ∀ j u, (gcells x)[j]? = some u → W.cell? (a.add (i * 3 + j)) = some u) (fun i hil => by
      obtain ⟨cs, hc, htr⟩ := hi i (by omega)
      rw [k3] at hc
      obtain ⟨_, hcl, hat⟩ := World.cells?_some hc
      obtain ⟨x, rfl, h1⟩ := open_dcells htr
      refine ⟨x, h1, fun j u hj => ?_⟩
      have hjl : j < 3 := by
        have := (List.getElem?_eq_some_iff.1 hj).1
        rwa [gcells_len] at this
      have := hat j hjl
      rw [Go.Deep.add_add] at this
      rw [this]; exact hj)
    refine ⟨some a, len, cap, (List.range len).map O, rfl, ⟨by simp, ?_, hl, by unfold maxLen at hm; omega, ?_⟩⟩
    · rcases Nat.eq_zero_or_pos len with z | z
      · subst z; left; rfl
      have z0 := (hO 0 z).2 0 _ rfl
      rcases a with ⟨b, off, spot⟩
      have hs : spot = none := by
        cases spot with
        | none => rfl
        | some s => simp [World.cell?, Addr.add] at z0; split at z0 <;> simp at z0
      subst hs
      refine .inr ⟨b, off, rfl, fun j u hj => ?_⟩
      have hjl : j < len * 3 := by
        have := (List.getElem?_eq_some_iff.1 hj).1
        rwa [gflat_len, List.length_map, List.length_range] at this
      have hk : ((List.range len).map O)[j / 3]? = some (O (j / 3)) := by simp [show j / 3 < len by omega]
      have hf := gflat_at _ _ _ hk (j % 3) (by omega)
      rw [show j / 3 * 3 + j % 3 = j by omega, hj] at hf
      have := (hO (j / 3) (by omega)).2 (j % 3) u hf.symm
      rw [addr_at, show j / 3 * 3 + j % 3 = j by omega] at this
      exact this
    · intro x hx
      obtain ⟨i, hi, rfl⟩ := List.mem_map.1 hx
      exact (hO i (by simpa using hi)).1
set_option maxRecDepth 100000 in
theorem open_two64 {r : Reach} {b0 : Nat} {v : Value} {d : DataW H} {p : List MemPlace} (hv : Value.okWide Try.prog W r b0 41 v) (h : DataW.Trod enc Try.prog W base spare held 41 v d p) :
    ∃ q0 q1 : Int, v = .agg #[.int .i64 q0, .int .i64 q1] := by
  obtain ⟨zs, rfl, hl, _⟩ := open_intarr Try.underlying41 Try.underlying2 (by kernel_rfl) (by kernel_rfl) hv h
  match zs, hl with
  | [x, y], _ => exact ⟨x, y, rfl⟩
set_option maxRecDepth 100000 in
theorem open_three64 {r : Reach} {b0 : Nat} {v : Value} {d : DataW H} {p : List MemPlace} (hv : Value.okWide Try.prog W r b0 24 v) (h : DataW.Trod enc Try.prog W base spare held 24 v d p) :
    ∃ q0 q1 q2 : Int, v = .agg #[.int .i64 q0, .int .i64 q1, .int .i64 q2] ∧ I64 q0 := by
  obtain ⟨zs, rfl, hl, hw⟩ := open_intarr Try.underlying24 Try.underlying2 (by kernel_rfl) (by kernel_rfl) hv h
  match zs, hl with
  | [x, y, z], _ => exact ⟨x, y, z, rfl, i64_of_wf (hw x (List.mem_cons_self ..))⟩
end
theorem row_tells (W : World) (a : Option Addr) (n cap : Nat) (l : Nat → Int × Int × Int) (hn : Trips W a n l) (a2 : Option Addr) (n2 c2 : Nat) (L : List Dm) (hd : Dems W a2 n2 c2 L) (q0 q1 q2 : Int) (h0 : I64 q0) :
    Calls Try.prog 3 #[.slice a n cap, .slice a2 n2 c2, .agg #[.int .i64 q0, .int .i64 q1, .int .i64 q2]] W fun e w' => e = .returned (.bool true) ∧ Below W.heap.size W w' := law_tells W a n cap l hn a2 n2 c2 L hd q0 q1 q2 h0
theorem row_sums (W : World) (a : Option Addr) (n cap : Nat) (l : Nat → Int × Int × Int) (hn : Trips W a n l) (t : Int) (_ : (Lit.int .i64 t).wf = true) :
    Calls Try.prog 4 #[.slice a n cap, .int .i64 t] W fun e w' => e = .returned (.bool true) ∧ Below W.heap.size W w' := law_sums W a n cap l hn t
theorem row_steps (W : World) (a : Option Addr) (n cap : Nat) (l : Nat → Int × Int × Int) (hn : Trips W a n l) (t : Int) (_ : (Lit.int .i64 t).wf = true) :
    Calls Try.prog 5 #[.slice a n cap, .int .i64 t] W fun e w' => e = .returned (.bool true) ∧ Below W.heap.size W w' := law_steps W a n cap l hn t
theorem row_periods (W : World) (a : Option Addr) (n cap : Nat) (l : Nat → Int × Int × Int) (hn : Trips W a n l) (t : Int) (_ : (Lit.int .i64 t).wf = true) :
    Calls Try.prog 6 #[.slice a n cap, .int .i64 t] W fun e w' => e = .returned (.bool true) ∧ Below W.heap.size W w' := law_periods W a n cap l hn t
theorem row_slack (W : World) (a : Option Addr) (n cap : Nat) (l : Nat → Int × Int × Int) (hn : Trips W a n l) (q0 q1 : Int) :
    Calls Try.prog 7 #[.slice a n cap, .agg #[.int .i64 q0, .int .i64 q1]] W fun e w' => e = .returned (.bool true) ∧ Below W.heap.size W w' := law_slack W a n cap l hn q0 q1
theorem row_parts (W : World) (a : Option Addr) (n cap : Nat) (l : Nat → Int × Int × Int) (hn : Trips W a n l) (ab : Option Addr) (nb capb : Nat) (lb : Nat → Int × Int × Int) (hnb : Trips W ab nb lb) (t : Int) (_ : (Lit.int .i64 t).wf = true) :
    Calls Try.prog 8 #[.slice a n cap, .slice ab nb capb, .int .i64 t] W fun e w' => e = .returned (.bool true) ∧ Below W.heap.size W w' := law_parts W a n cap l hn ab nb capb lb hnb t
end Go.Proofs.Ytbliagfmpcmfdaa
