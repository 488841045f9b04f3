/- Texts of this claim, put together: VLaw3, VDef4, VLaw4, VLaw5, VOpen. -/
import Derived.Test.YtljigfedmjlfgaaM6
import Derived.Deep.DeepCutAuto
import Derived.ProofKit
import Derived.OpenShut
import Derived.ChangeOld
import Derived.Below
set_option linter.unusedVariables false
set_option linter.unusedSimpArgs false

/-
  The walk over the statement of the first time at which it is too much.
-/
namespace Go.Proofs.Ytljigfedmjlfgaa
open Go.RowKit Go.Maps

theorem end_small {M : List Dm} {K : List Bk} (hg : AllGood M) (hl : M.length ≤ 6) (hh : AllHeld K) : endA M K ≤ 120 := by
  obtain ⟨_, _, p2, _⟩ := per_good hg hl
  rcases end_in M K with e | ⟨x, hx, e⟩
  · omega
  · have := (hh x hx).d2; omega
theorem next_of {M : List Dm} (h : ∀ x ∈ M, x.ok) {y : Int} (hy : Dl M y) (u : Int) : ∃ z, nextA M u = some z := by
  cases e : nextA M u with
  | some z => exact ⟨z, rfl⟩
  | none =>
    have := next_nil h e
    subst this
    obtain ⟨x, hx, _⟩ := hy
    cases hx

set_option maxRecDepth 100000 in
set_option maxHeartbeats 8000000 in
theorem law_miss (W : World) (a : Option Addr) (n cap : Nat) (l : Nat → Int × Int × Int) (hn : Trips W a n l) (ab : Option Addr) (nb capb : Nat) (lb : Nat → Int × Int) (hnb : Pairs W ab nb lb) :
    Calls Try.prog 5 #[.slice a n cap, .slice ab nb capb] W fun e w' => e = .returned (.bool true) ∧ Below W.heap.size W w' := by
  have MC := Lib.hid (fun v (hb : Below W.heap.size W v) => made_dems (hn.below hb) cap)
  have HC := Lib.hid (fun v (hb : Below W.heap.size W v) => held_blks (hnb.below hb) capb)
  have AC := Lib.hid (fun v => awake_any v)
  clear hn hnb
  go_enter Try.func5, Try.ntmps5
  go_upto_region 2 with (go_at_call 8; (with_reducible refine (AC.out _).mono ?_); rintro e w1 ⟨rfl, b1⟩)
  go_upto_region 3 with (go_at_call 9; (with_reducible refine (MC.out _ b1).mono ?_); rintro e w2 ⟨⟨a1, N1, c1, M, rfl, hd, hN, hg⟩, b2⟩; have HD0 := Lib.hid hd; have HG := Lib.hid hg; have HN := Lib.hid hN; have HB2 := Lib.hid (below_up b1 b2); clear hd hg hN b2)
  go_upto_region 4 with (go_at_call 10; (with_reducible refine (HC.out _ HB2.out).mono ?_); rintro e w3 ⟨⟨a2, N2, c2, K, rfl, hk, hnk, hh⟩, b3⟩; have HK := Lib.hid hk; have HNK := Lib.hid hnk; clear hnk; have HH := Lib.hid hh; have HD := Lib.hid (HD0.out.below b3); have HB3 := Lib.hid (below_up HB2.out b3); clear hk hh b3)
  clear MC HC AC b1 HB2 HD0
  have hlen := HD.out.len
  have hN6 : M.length ≤ 6 := by have := HN.out; omega
  have hni := HG.out.nice (show M.length ≤ 7 by omega)
  have HNI := Lib.hid hni
  have TC := Lib.hid (fun v (hb : Below w3.heap.size w3 v) => qtest_any (HD.out.below hb) hni (HK.out.below hb))
  have SC := Lib.hid (fun v (hb : Below w3.heap.size w3 v) => qmiss_any (HD.out.below hb) hni (HK.out.below hb))
  have HL := Lib.hid hlen
  have HN6 := Lib.hid hN6
  clear hlen hN6 hni
  cases hms : msS M K with
  | none =>
    have hbad := ms_not HG.out.ok hms
    rw [hms] at SC
    have LC := Lib.hid (fun v (hb : Below w3.heap.size w3 v) => rload_any M N1 c1 HL.out HD.out.n9 a1 v (HD.out.view.below hb))
    obtain ⟨hld, hl0, hl1⟩ := load_good HG.out HN6.out
    have hiff : tsS M K = 0 ↔ loadN M (perS M).1 M.length ≤ (perS M).1 := ts_iff.trans ⟨fun h => h.1, fun h => ⟨h, hbad⟩⟩
    rw [hld] at LC
    have hor := ts_or M K
    generalize loadN M (perS M).1 M.length = N at *
    generalize (perS M).1 = P at *
    generalize tsS M K = ts at *
    clear hms hbad hld hl0 hl1
    go_upto_region 6 with (go_at_call 14; (with_reducible refine (SC.out _ (by repeat (first | exact Below.refl _ _ | (with_reducible assumption) | refine bw_alloc ?_ _ | refine bw_drew ?_))).mono ?_); rintro e w4 ⟨rfl, b4⟩; have HB4 := Lib.hid b4; clear b4)
    go_upto_region 7 with (go_at_call 15; (with_reducible refine (LC.out _ HB4.out).mono ?_); rintro e w5 ⟨rfl, b5⟩; have HB5 := Lib.hid (below_up HB4.out b5); clear b5)
    refine gen_world (fun v => Below w3.heap.size w3 v ∧ v.heap[w5.heap.size]? = some (.cells #[.int .i64 N, .int .i64 P, .int .i64 0] WT (0, 0))) ⟨below_up HB5.out (by repeat (first | exact Below.refl _ _ | (with_reducible assumption) | refine bw_alloc ?_ _ | refine bw_drew ?_)), heap_alloc_new w5 _⟩ ?_
    intro V ⟨hb, hq⟩
    have HV := Lib.hid hb
    generalize w5.heap.size = bx at *
    have x0 : V.cell? ⟨bx, 0, none⟩ = some (.int .i64 N) := by rw [blk_cell hq]; rfl
    have x1 : V.cell? ⟨bx, 1, none⟩ = some (.int .i64 P) := by rw [blk_cell hq]; rfl
    have HX := Lib.hid (fun w' (hb : Below V.heap.size V w') => And.intro (kept_cell hb x0) (kept_cell hb x1))
    clear hb hq SC LC HB4 HB5
    have TC2 := Lib.hid (fun v (hb : Below V.heap.size V v) => TC.out v (below_up HV.out hb))
    clear TC
    rcases hor with ⟨rfl, _⟩ | ⟨rfl, _⟩
    · have hle : N ≤ P := hiff.1 rfl
      clear hiff
      go_region_held3 (fun w' => w'.cell? ⟨bx, 0, none⟩ = some (.int .i64 N) ∧ w'.cell? ⟨bx, 1, none⟩ = some (.int .i64 P)) (exact HX.out _ (by repeat (first | exact Below.refl _ _ | (with_reducible assumption) | refine bw_drew ?_ | refine bw_alloc ?_ _))) ((go_at_call 11; (with_reducible refine (Calls.upV (V := V) (by repeat (first | exact Below.refl _ _ | (with_reducible assumption) | refine bw_alloc ?_ _ | refine bw_drew ?_)) (TC2.out _ (by repeat (first | exact Below.refl _ _ | (with_reducible assumption) | refine bw_alloc ?_ _ | refine bw_drew ?_)))).mono ?_); rintro e w7 ⟨rfl, bz7, bx7⟩; clear bz7))
      all_goals
        go_wp2_with fail
        go_ret
        exact ⟨by first | rfl | simp, below_up HB3.out (below_up HV.out (by repeat (first | exact Below.refl _ _ | (with_reducible assumption) | refine bw_drew ?_ | refine bw_alloc ?_ _)))⟩
    · have hle : ¬ N ≤ P := fun h => by have := hiff.2 h; cases this
      clear hiff
      go_region_held3 (fun w' => w'.cell? ⟨bx, 0, none⟩ = some (.int .i64 N) ∧ w'.cell? ⟨bx, 1, none⟩ = some (.int .i64 P)) (exact HX.out _ (by repeat (first | exact Below.refl _ _ | (with_reducible assumption) | refine bw_drew ?_ | refine bw_alloc ?_ _))) ((go_at_call 11; (with_reducible refine (Calls.upV (V := V) (by repeat (first | exact Below.refl _ _ | (with_reducible assumption) | refine bw_alloc ?_ _ | refine bw_drew ?_)) (TC2.out _ (by repeat (first | exact Below.refl _ _ | (with_reducible assumption) | refine bw_alloc ?_ _ | refine bw_drew ?_)))).mono ?_); rintro e w7 ⟨rfl, bz7, bx7⟩; clear bz7))
      all_goals
        go_wp2_with fail
        go_ret
        exact ⟨by first | rfl | simp, below_up HB3.out (below_up HV.out (by repeat (first | exact Below.refl _ _ | (with_reducible assumption) | refine bw_drew ?_ | refine bw_alloc ?_ _)))⟩
  | some y =>
    obtain ⟨hb, hmin⟩ := ms_at hms
    rw [hms] at SC
    have hts : tsS M K = 17 := ts_no fun h => h.2 y hb
    rw [hts] at TC
    have hend := end_small HG.out HN6.out HH.out
    have hy1 := dl_pos' HG.out.ok hb.1
    have hy2 := hb.2.1
    obtain ⟨z0, hz0⟩ := next_of HG.out.ok hb.1 0
    have hzd := next_some HG.out.ok hz0
    have NC := Lib.hid (fun v t (hb : Below w3.heap.size w3 v) (h0 : 0 ≤ t) (h1 : t ≤ 3000) => (by have := rnext_any M N1 c1 HL.out HD.out.n9 a1 t v (HD.out.view.below hb); rwa [nextS_good HG.out HN6.out h0 h1] at this : Calls Try.prog 16 #[.slice a1 N1 c1, .int .i64 t] v fun e w' => e = .returned (.agg #[.int .i64 ((nextA M t).getD 0), .bool (nextA M t).isSome]) ∧ Below v.heap.size v w'))
    have OC := Lib.hid (fun v t (hb : Below w3.heap.size w3 v) (h0 : 0 ≤ t) (h1 : t ≤ 3000) => (by have := rof_any M N1 c1 HL.out HD.out.n9 a1 t v (HD.out.view.below hb); rwa [ofA_good HG.out HN6.out h0 h1] at this : Calls Try.prog 17 #[.slice a1 N1 c1, .int .i64 t] v fun e w' => e = .returned (.agg #[.int .i64 (dueA M t), .bool true]) ∧ Below v.heap.size v w'))
    have N0 := Lib.hid (fun v (hb : Below w3.heap.size w3 v) => NC.out v 0 hb (by omega) (by omega))
    rw [hz0] at N0
    have HZ0 : Hid (Dl M z0 ∧ 0 < z0) := ⟨hzd.1, hzd.2.1⟩
    have HBAD := Lib.hid hb
    have HMIN := Lib.hid hmin
    have HY : Hid (1 ≤ y ∧ y ≤ 120) := ⟨hy1, by omega⟩
    clear hms hb hmin hts hend hy1 hy2 hz0 hzd
    go_upto_region 8 with (go_at_call 14; (with_reducible refine (SC.out _ (by repeat (first | exact Below.refl _ _ | (with_reducible assumption) | refine bw_alloc ?_ _ | refine bw_drew ?_))).mono ?_); rintro e w4 ⟨rfl, b4⟩; have HB4 := Lib.hid b4; clear b4)
    go_upto_region 10 with (go_at_call 11; (with_reducible refine (TC.out _ HB4.out).mono ?_); rintro e w5 ⟨rfl, b5⟩; have HB5 := Lib.hid (below_up HB4.out b5); clear b5)
    clear SC TC HB4
    go_upto_block 0 with (go_at_call 16; (with_reducible refine (N0.out _ HB5.out).mono ?_); rintro e w6 ⟨rfl, b6⟩; have HB6 := Lib.hid (below_up HB5.out b6); clear b6)
    refine gen_world (fun v => Below w3.heap.size w3 v ∧ Nm v w6.heap.size z0 true) ⟨below_up HB6.out (by repeat (first | exact Below.refl _ _ | (with_reducible assumption) | refine bw_alloc ?_ _ | refine bw_drew ?_)), nm_new w6 z0 true⟩ ?_
    intro V ⟨hb, hq⟩
    have HV := Lib.hid hb
    have HQ := Lib.hid hq
    have HBX : Hid (w3.heap.size ≤ w6.heap.size) := HB6.out.size
    generalize w6.heap.size = bx at *
    clear hb hq N0 HB5 HB6
    go_wp2
    go_loopw [] (fun wr => ∃ z : Int, Hid (Nm wr bx z true) ∧ Hid (Dl M z ∧ 0 < z) ∧ Hid (Below w3.heap.size w3 wr)) (fun wr => (y + 1 - intOf ((wr.cell? ⟨bx, 0, none⟩).getD undef)).toNat)
    case atStart => exact ⟨z0, HQ, HZ0, HV⟩
    case round =>
      obtain ⟨z, HQz, HZ, HP⟩ := hrel
      clear HQ HZ0 HV
      have x0 : wr.cell? ⟨bx, 0, none⟩ = some (.int .i64 z) := by rw [blk_cell HQz.out]; rfl
      have x1 : wr.cell? ⟨bx, 1, none⟩ = some (.bool true) := by rw [blk_cell HQz.out]; rfl
      by_cases hzy : z ≤ y
      · have HM0 : Hid (y + 1 - intOf ((wr.cell? ⟨bx, 0, none⟩).getD undef) = y + 1 - z) := by show _ = _; rw [x0]; rfl
        have OZ := Lib.hid (fun v hb => OC.out v z hb (by have := HZ.out.2; omega) (by have := HY.out.2; omega))
        have NZ := Lib.hid (fun v hb => NC.out v z hb (by have := HZ.out.2; omega) (by have := HY.out.2; omega))
        have QZ := Lib.hid (fun v (hb : Below w3.heap.size w3 v) => qat_any (HK.out.below hb) z (by have := HZ.out.2; have := HY.out.2; unfold I64; omega))
        obtain ⟨z', hz'⟩ := next_of HG.out.ok HBAD.out.1 z
        have hzn := next_some HG.out.ok hz'
        rw [hz'] at NZ
        have HZ' : Hid (Dl M z' ∧ 0 < z') := ⟨hzn.1, by have := HZ.out.2; have := hzn.2.1; omega⟩
        have HM1 : Hid (z < z') := hzn.2.1
        have hs := due_small HG.out HN6.out (show (0 : Int) ≤ z by have := HZ.out.2; omega) (by have := HY.out.2; omega)
        have hh0 := held_nonneg K z
        have hh1 := held_top HK.out.nice z
        have hleft : (z = y → leftA M K z < 0) ∧ (z ≠ y → 0 ≤ leftA M K z) := by
          refine ⟨fun e => by rw [e]; exact HBAD.out.2.2, fun e => ?_⟩
          rcases Int.lt_or_le (leftA M K z) 0 with q | q
          · have := HMIN.out z ⟨HZ.out.1, by have := HBAD.out.2.1; omega, q⟩
            omega
          · exact q
        unfold leftA at hleft
        obtain ⟨s, hss⟩ : ∃ s, dueA M z = s := ⟨_, rfl⟩
        obtain ⟨h, hhh⟩ : ∃ h, heldA K z = h := ⟨_, rfl⟩
        rw [hss] at OZ hs hleft
        rw [hhh] at QZ hh0 hh1 hleft
        have e1 : IntKind.i64.wrap (s + h) = s + h := IntWalk.i64_in _ (by omega)
        have hcs : (z < s + h ∧ (z == y) = true) ∨ (¬ z < s + h ∧ (z == y) = false) := by
          by_cases e : z = y
          · exact .inl ⟨by have := hleft.1 e; omega, by simp [e]⟩
          · exact .inr ⟨by have := hleft.2 e; omega, by rw [beq_eq_false_iff_ne]; exact e⟩
        clear hleft hs hh0 hh1 hss hhh hz' hzn
        go_upto_region 13 with (go_at_call 17; (with_reducible refine (OZ.out _ HP.out).mono ?_); rintro e w7 ⟨rfl, b7⟩; have HP7 := Lib.hid (below_up HP.out b7); have HQ7 : Hid (Nm w7 bx z true) := kept_obj b7 HQz.out; clear b7)
        refine gen_world (fun v => Below w3.heap.size w3 v ∧ Nm v bx z true ∧ Nm v w7.heap.size s true) ⟨below_up HP7.out (by repeat (first | exact Below.refl _ _ | (with_reducible assumption) | refine bw_alloc ?_ _ | refine bw_drew ?_)), kept_obj (by repeat (first | exact Below.refl _ _ | (with_reducible assumption) | refine bw_alloc ?_ _ | refine bw_drew ?_)) HQ7.out, nm_new w7 s true⟩ ?_
        intro V8 ⟨hb8, hq8, hn8⟩
        have HP8 := Lib.hid hb8
        have HQ8 := Lib.hid hq8
        have y0 : V8.cell? ⟨bx, 0, none⟩ = some (.int .i64 z) := by rw [blk_cell hq8]; rfl
        have y2 : V8.cell? ⟨w7.heap.size, 0, none⟩ = some (.int .i64 s) := by rw [blk_cell hn8]; rfl
        generalize w7.heap.size = bn at *
        have HC8 := Lib.hid (fun w' (hb : Below V8.heap.size V8 w') => And.intro (kept_cell hb y0) (kept_cell hb y2))
        clear hb8 hq8 hn8 x0 x1 OZ HP7 HQ7
        go_cut [77] (fun u wx => u = .bool false ∧ Hid (Below V8.heap.size V8 wx))
        case first =>
          rcases hcs with ⟨q1, q2⟩ | ⟨q1, q2⟩
          all_goals
            go_region_held3 (fun w' => w'.cell? ⟨bx, 0, none⟩ = some (.int .i64 z) ∧ w'.cell? ⟨bn, 0, none⟩ = some (.int .i64 s)) (exact HC8.out _ (by repeat (first | exact Below.refl _ _ | (with_reducible assumption) | refine bw_drew ?_ | refine bw_alloc ?_ _))) ((go_at_call 12; (with_reducible refine (Calls.upV (V := V8) (by repeat (first | exact Below.refl _ _ | (with_reducible assumption) | refine bw_alloc ?_ _ | refine bw_drew ?_)) (QZ.out _ (below_up HP8.out (by repeat (first | exact Below.refl _ _ | (with_reducible assumption) | refine bw_alloc ?_ _ | refine bw_drew ?_))))).mono ?_); rintro e w9 ⟨rfl, bz9, bx9⟩; clear bz9))
            all_goals
              go_wp2_with fail
              go_meet
              exact ⟨by first | rfl | (simp; done) | (simp; omega), Lib.hid (by repeat (first | exact Below.refl _ _ | (with_reducible assumption) | refine bw_drew ?_ | refine bw_alloc ?_ _))⟩
        case rest =>
          obtain ⟨rfl, HB9⟩ := hcut
          have HP9 := Lib.hid (below_up HP8.out HB9.out)
          have HQ9 : Hid (Nm wc bx z true) := kept_obj HB9.out HQ8.out
          have y0 : wc.cell? ⟨bx, 0, none⟩ = some (.int .i64 z) := by rw [blk_cell HQ9.out]; rfl
          clear hcs QZ HC8 HB9
          go_wp2_with (go_at_call 16; (with_reducible refine (NZ.out _ HP9.out).mono ?_); rintro e w10 ⟨rfl, b10⟩; have HP10 := Lib.hid (below_up HP9.out b10); have hq10 : Nm w10 bx z true := kept_obj b10 HQ9.out; have z0 : w10.cell? ⟨bx, 0, none⟩ = some (.int .i64 z) := (by rw [blk_cell hq10]; rfl); have z1 : w10.cell? ⟨bx, 1, none⟩ = some (.bool true) := (by rw [blk_cell hq10]; rfl); have f0 := blk_free hq10 0; have f1 := blk_free hq10 1; have HQ10 := Lib.hid hq10; clear hq10 b10)
          go_roundw
          case rel => exact ⟨z', Lib.hid (HQ10.out.set z' true), HZ', Lib.hid ((HP10.out.setCell (p := ⟨bx, 0, none⟩) HBX.out _).setCell (p := ⟨bx, 1, none⟩) HBX.out _)⟩
          case measure =>
            have hset := HQ10.out.set z' true
            have e9 : ((w10.setCell ⟨bx, 0, none⟩ (.int .i64 z')).setCell ⟨bx, 1, none⟩ (.bool true)).cell? ⟨bx, 0, none⟩ = some (.int .i64 z') := by rw [blk_cell hset]; rfl
            rw [HM0.out, e9]
            have := HM1.out
            show (y + 1 - z').toNat < _
            omega
      · clear HY HBAD HMIN
        go_wp2
        go_ret
        exact ⟨rfl, below_up HB3.out HP.out⟩
end Go.Proofs.Ytljigfedmjlfgaa

/-
  How many blocks there are where what is held changes.
-/
namespace Go.Proofs.Ytljigfedmjlfgaa

theorem held_few {K : List Bk} (h : AllHeld K) (t : Int) : heldA K t ≤ 15 := by
  rcases held_in K t with e | ⟨x, hx, _, e⟩
  · omega
  · have := (h x hx).b1; omega
theorem plus_len (K : List Bk) (n : Int) : ∀ k : Nat, k < 120 → ((plusN K n k).length : Int) ≤ heldA K 0 - heldA K (k : Int)
  | 0, _ => by show (0 : Int) ≤ heldA K 0 - heldA K 0; omega
  | k + 1, hk => by
    have ih := plus_len K n k (by omega)
    have ha := held_anti K (show (k : Int) ≤ (k : Int) + 1 by omega)
    by_cases q : k + 1 = 120 ∨ heldA K (k : Int) ≠ heldA K ((k : Int) + 1)
    · rw [plus_yes q, List.length_append, List.length_singleton]
      rcases q with q | q
      · omega
      · rw [show ((k + 1 : Nat) : Int) = (k : Int) + 1 by omega]; omega
    · rw [plus_no q, show ((k + 1 : Nat) : Int) = (k : Int) + 1 by omega]; omega
theorem plusA_len {K : List Bk} (h : AllHeld K) (n : Int) : (plusA K n).length ≤ 17 := by
  have h1 := plus_len K n 119 (by omega)
  have h2 := held_few h 0
  have h3 := held_nonneg K ((119 : Nat) : Int)
  unfold plusA
  rw [List.length_append, plus_yes (t := 119) (.inl rfl), List.length_append, List.length_singleton]
  show _ + 1 + 1 ≤ 17
  omega
theorem plus_small (K : List Bk) (n : Int) : ∀ k : Nat, (plusN K n k).length ≤ k
  | 0 => Nat.le_refl _
  | k + 1 => by
    have ih := plus_small K n k
    by_cases q : k + 1 = 120 ∨ heldA K (k : Int) ≠ heldA K ((k : Int) + 1)
    · rw [plus_yes q, List.length_append, List.length_singleton]; omega
    · rw [plus_no q]; omega
theorem plusA_nice {K : List Bk} (h : AllHeld K) {n : Int} (h0 : 0 ≤ n) (h1 : n ≤ 300) : NiceB (plusA K n) := by
  refine ⟨fun x hx => ?_, by have := plusA_len h n; omega⟩
  rcases List.mem_append.1 hx with z | z
  · obtain ⟨t, a, b, c⟩ := plus_mem K n _ x z
    have := held_few h (t : Int)
    have := held_nonneg K (t : Int)
    omega
  · rw [List.mem_singleton] at z
    subst z
    exact ⟨by show (1 : Int) ≤ 16384; omega, by show (16384 : Int) ≤ _; omega, h0, by show n ≤ _; omega⟩
theorem first_end {M : List Dm} (h : Nice M) (hne : M ≠ []) (K : List Bk) : ∃ y, Dl M y ∧ y ≤ endA M K := by
  obtain ⟨x, hx⟩ := List.exists_mem_of_ne_nil M hne
  obtain ⟨_, p1, _, p3, _⟩ := h.per
  have ho := h.ok x hx
  have h1 := ho.d1; have h2 := ho.d2
  have := Int.le_of_dvd (by omega) (p3 x hx)
  have := end_per M K
  exact ⟨x.d, ⟨x, hx, 0, Int.le_refl _, by omega⟩, by omega⟩
end Go.Proofs.Ytljigfedmjlfgaa

/-
  The walk over the statement of what is left.
-/
namespace Go.Proofs.Ytljigfedmjlfgaa
open Go.RowKit Go.Maps

theorem OwnV.blks4 {w : World} {B n c : Nat} {a : Option Addr} {l : List Bk} (h : OwnV w B (.slice a n c) l) (hg : NiceB l) : Blks w a n c l := by
  obtain ⟨a9, c9, e9, hv, h1, h2⟩ := h.slice
  obtain ⟨rfl, hln, rfl⟩ := Value.slice.inj e9
  exact ⟨hln.symm, hv, by rw [hln]; exact h1, h2, hg⟩
theorem OwnV.kept {w w' : World} {B : Nat} {v : Value} {l : List Bk} {row : Option Nat} (h : OwnV w B v l) (hg : w.grownBy w' row) (hne : ∀ k, v.ownBlock = some k → row ≠ some k) : OwnV w' B v l := by
  rcases h with ⟨h0, h | ⟨g, cap, cur, rfl, hB, h3, r⟩⟩
  · exact ⟨h0, .inl h⟩
  · exact ⟨h0, .inr ⟨g, cap, cur, rfl, hB, (hg.block g (lt_of_block h3) (fun e => hne g rfl e.symm)).trans h3, r⟩⟩
/-- Two rows of one's own that grow beside one another. -/
structure PM (w : World) (vp : Value) (P : List Bk) (vm : Value) (Q : List Bk) (V : World) : Prop where
  low : Below w.heap.size w V
  op : OwnV V w.heap.size vp P
  om : OwnV V w.heap.size vm Q
  ap : ∀ k, vp.ownBlock = some k → vm.ownBlock = some k → False
theorem PM.below {w V V' : World} {vp vm : Value} {P Q : List Bk} (h : PM w vp P vm Q V) (hb : Below V.heap.size V V') : PM w vp P vm Q V' := ⟨below_up h.low hb, h.op.below hb, h.om.below hb, h.ap⟩
theorem PM.push1 {w V V' : World} {vp vp' vm : Value} {P P' Q : List Bk} (h : PM w vp P vm Q V) (hg : V.grownBy V' vp.ownBlock) (ho : OwnV V' w.heap.size vp' P') (hl : ∀ k, vp'.ownBlock = some k → vp.ownBlock = some k ∨ V.heap.size ≤ k) : PM w vp' P' vm Q V' :=
  ⟨h.low.grown hg h.low.size (fun k hk => (h.op.new hk).1), ho, h.om.kept hg (fun k hk e => h.ap k e hk), fun k h1 h2 => by
    rcases hl k h1 with q | q
    · exact h.ap k q h2
    · have := (h.om.new h2).2; omega⟩
theorem PM.push2 {w V V' : World} {vp vm vm' : Value} {P Q Q' : List Bk} (h : PM w vp P vm Q V) (hg : V.grownBy V' vm.ownBlock) (ho : OwnV V' w.heap.size vm' Q') (hl : ∀ k, vm'.ownBlock = some k → vm.ownBlock = some k ∨ V.heap.size ≤ k) : PM w vp P vm' Q' V' :=
  ⟨h.low.grown hg h.low.size (fun k hk => (h.om.new hk).1), h.op.kept hg (fun k hk e => h.ap k hk e), ho, fun k h1 h2 => by
    rcases hl k h2 with q | q
    · exact h.ap k h1 q
    · have := (h.op.new h1).2; omega⟩

set_option maxRecDepth 100000 in
set_option maxHeartbeats 8000000 in
theorem law_room (W : World) (a : Option Addr) (n cap : Nat) (l : Nat → Int × Int × Int) (hn : Trips W a n l) (ab : Option Addr) (nb capb : Nat) (lb : Nat → Int × Int) (hnb : Pairs W ab nb lb) :
    Calls Try.prog 6 #[.slice a n cap, .slice ab nb capb] W fun e w' => e = .returned (.bool true) ∧ Below W.heap.size W w' := by
  have MC := Lib.hid (fun v (hb : Below W.heap.size W v) => made_dems (hn.below hb) cap)
  have HC := Lib.hid (fun v (hb : Below W.heap.size W v) => held_blks (hnb.below hb) capb)
  have AC := Lib.hid (fun v => awake_any v)
  clear hn hnb
  go_enter Try.func6, Try.ntmps6
  go_upto_region 2 with (go_at_call 8; (with_reducible refine (AC.out _).mono ?_); rintro e w1 ⟨rfl, b1⟩)
  go_upto_region 3 with (go_at_call 9; (with_reducible refine (MC.out _ b1).mono ?_); rintro e w2 ⟨⟨a1, N1, c1, M, rfl, hd, hN, hg⟩, b2⟩; have HD0 := Lib.hid hd; have HG := Lib.hid hg; have HN := Lib.hid hN; have HB2 := Lib.hid (below_up b1 b2); clear hd hg hN b2)
  go_upto_region 4 with (go_at_call 10; (with_reducible refine (HC.out _ HB2.out).mono ?_); rintro e w3 ⟨⟨a2, N2, c2, K, rfl, hk, hnk, hh⟩, b3⟩; have HK := Lib.hid hk; have HNK := Lib.hid hnk; clear hnk; have HH := Lib.hid hh; have HD := Lib.hid (HD0.out.below b3); have HB3 := Lib.hid (below_up HB2.out b3); clear hk hh b3)
  clear MC HC AC b1 HB2 HD0
  have hlen := HD.out.len
  have hN6 : M.length ≤ 6 := by have := HN.out; omega
  have hni := HG.out.nice (show M.length ≤ 7 by omega)
  have HNI := Lib.hid hni
  have TC := Lib.hid (fun v (hb : Below w3.heap.size w3 v) => qtest_any (HD.out.below hb) hni (HK.out.below hb))
  have RC := Lib.hid (fun v (hb : Below w3.heap.size w3 v) => qroom_any (HD.out.below hb) hni (HK.out.below hb))
  have HL := Lib.hid hlen
  clear hN6 hni
  cases hrm : rmS M K with
  | none =>
    have hnot := rm_not hrm
    rw [hrm] at RC
    clear hrm
    by_cases h0 : N1 = 0
    · subst h0
      clear hnot hlen
      go_wp2_with (go_at_call 18; (with_reducible refine (RC.out _ (by repeat (first | exact Below.refl _ _ | (with_reducible assumption) | refine bw_alloc ?_ _ | refine bw_drew ?_))).mono ?_); rintro e w4 ⟨rfl, b4⟩; have HB4 := Lib.hid b4; clear b4)
      go_ret
      exact ⟨rfl, below_up HB3.out HB4.out⟩
    · have hts : tsS M K = 17 := by
        refine ts_no ?_
        rcases hnot with q | q
        · exact q
        · obtain ⟨y, y1, y2⟩ := first_end HNI.out (fun e => h0 (by rw [← hlen, e]; rfl)) K
          exact absurd y2 (q y y1)
      have hz : ((N1 : Int) == 0) = false := by rw [beq_eq_false_iff_ne]; omega
      rw [hts] at TC
      clear hnot hlen hts
      go_wp2_with (first
        | (go_at_call 18; (with_reducible refine (RC.out _ (by repeat (first | exact Below.refl _ _ | (with_reducible assumption) | refine bw_alloc ?_ _ | refine bw_drew ?_))).mono ?_); rintro e w4 ⟨rfl, b4⟩; have HB4 := Lib.hid b4; clear b4)
        | (go_at_call 11; (with_reducible refine (TC.out _ HB4.out).mono ?_); rintro e w5 ⟨rfl, b5⟩; have HB5 := Lib.hid (below_up HB4.out b5); clear b5))
      go_ret
      exact ⟨rfl, below_up HB3.out HB5.out⟩
  | some nn =>
    have h64 : ∀ x ∈ K, x.d ≤ 64 := fun x hx => (HH.out x hx).d2
    obtain ⟨hn0, hn1, hf1, hf2⟩ := room_fits HNI.out h64 (rm_at hrm)
    rw [hrm] at RC
    have T1 := Lib.hid (fun v a n c (h : Blks v a n c (plusA K nn)) (hb : Below w3.heap.size w3 v) => qtest_any (HD.out.below hb) HNI.out h)
    have T2 := Lib.hid (fun v a n c (h : Blks v a n c (plusA K (nn + 1))) (hb : Below w3.heap.size w3 v) => qtest_any (HD.out.below hb) HNI.out h)
    rw [ts_yes hf1] at T1
    rw [ts_no hf2] at T2
    have HNB1 := Lib.hid (plusA_nice HH.out hn0 (by omega))
    have HNB2 := Lib.hid (plusA_nice HH.out (show 0 ≤ nn + 1 by omega) (by omega))
    have QC := Lib.hid (fun v t (ht : I64 t) (hb : Below w3.heap.size w3 v) => qat_any (HK.out.below hb) t ht)
    have hnneg : ¬ nn < 0 := by omega
    have HNN := Lib.hid (And.intro hn0 hn1)
    have en1 : IntKind.i64.wrap (nn + 1) = nn + 1 := IntWalk.i64_in _ (by omega)
    have HLEN1 := Lib.hid (plusA_len HH.out nn)
    have HLEN2 := Lib.hid (plusA_len HH.out (nn + 1))
    clear hrm h64 hn0 hn1 hf1 hf2 hlen TC
    go_upto_block 0 with (go_at_call 18; (with_reducible refine (RC.out _ (by repeat (first | exact Below.refl _ _ | (with_reducible assumption) | refine bw_alloc ?_ _ | refine bw_drew ?_))).mono ?_); rintro e w4 ⟨rfl, b4⟩; have HB4 := Lib.hid b4; clear b4)
    have HP0 : Hid (PM w4 (.slice none 0 0) [] (.slice none 0 0) [] w4) := ⟨Below.refl _ _, World.ownsRow_nil _ _ _ _, World.ownsRow_nil _ _ _ _, fun k h => by cases h⟩
    clear RC
    go_cut [10, 11] (fun p q wx => ∃ (np nq : Nat) (ap am : Option Addr) (cp cm : Nat), p = .slice ap np cp ∧ q = .slice am nq cm ∧ Hid (PM w4 (.slice ap np cp) (plusN K nn 120) (.slice am nq cm) (plusN K (nn + 1) 120) wx) ∧ Hid ((plusN K nn 120).length = np ∧ (plusN K (nn + 1) 120).length = nq))
    case first =>
      go_wp2
      go_loopw [10, 11, 12] (fun p q u wr => ∃ (k : Nat) (np nq : Nat) (ap am : Option Addr) (cp cm : Nat), k ≤ 120 ∧ u = .int .i64 ((k : Int) + 1) ∧ p = .slice ap np cp ∧ q = .slice am nq cm ∧ Hid (PM w4 (.slice ap np cp) (plusN K nn k) (.slice am nq cm) (plusN K (nn + 1) k) wr) ∧ Hid ((plusN K nn k).length = np ∧ (plusN K (nn + 1) k).length = nq)) (fun _ _ u _ => (121 - intOf u).toNat)
      case atStart => exact ⟨0, 0, 0, none, none, 0, 0, by omega, rfl, rfl, rfl, HP0, rfl, rfl⟩
      case round =>
        obtain ⟨k, np, nq, ap, am, cp, cm, hk, rfl, rfl, rfl, HP, HLL⟩ := hrel
        clear HP0
        by_cases hlt : k < 120
        · have QK := Lib.hid (fun v hb => QC.out v (k : Int) (by unfold I64; omega) hb)
          have QK1 := Lib.hid (fun v hb => QC.out v ((k : Int) + 1) (by unfold I64; omega) hb)
          have hb0 := held_few HH.out (k : Int)
          have hb1 := held_nonneg K (k : Int)
          have ha0 := HNN.out.1
          have ha1 := HNN.out.2
          have hl1 := plus_small K nn k
          have hl2 := plus_small K (nn + 1) k
          have HS1 : Hid ((plusN K nn k).length + 1 ≤ 1000000) := by show _ ≤ _; omega
          have HS2 : Hid ((plusN K (nn + 1) k).length + 1 ≤ 1000000) := by show _ ≤ _; omega
          have HE1 : Hid ((plusN K nn k).length + 1 = np + 1) := by show _ = _; rw [HLL.out.1]
          have HE2 : Hid ((plusN K (nn + 1) k).length + 1 = nq + 1) := by show _ = _; rw [HLL.out.2]
          have HY : Hid (∀ m, (k + 1 = 120 ∨ heldA K (k : Int) ≠ heldA K ((k : Int) + 1)) → plusN K m (k + 1) = plusN K m k ++ [⟨(k : Int) + 1, heldA K (k : Int) + m⟩]) := fun m h => plus_yes h
          have HNO : Hid (∀ m, ¬ (k + 1 = 120 ∨ heldA K (k : Int) ≠ heldA K ((k : Int) + 1)) → plusN K m (k + 1) = plusN K m k) := fun m h => plus_no h
          obtain ⟨h0, hh0⟩ : ∃ h0, heldA K (k : Int) = h0 := ⟨_, rfl⟩
          obtain ⟨h1, hh1⟩ : ∃ h1, heldA K ((k : Int) + 1) = h1 := ⟨_, rfl⟩
          rw [hh0] at QK hb0 hb1 HY HNO
          rw [hh1] at QK1 HY HNO
          have e1 : IntKind.i64.wrap (h0 + nn) = h0 + nn := IntWalk.i64_in _ (by omega)
          have e2 : IntKind.i64.wrap (h0 + nn + 1) = h0 + nn + 1 := IntWalk.i64_in _ (by omega)
          have HAS : Hid (h0 + (nn + 1) = h0 + nn + 1) := by show _ = _; omega
          have hk1 : (k : Int) + 1 ≤ 120 := by omega
          have HKK := Lib.hid (And.intro hlt hk)
          obtain ⟨T, hT⟩ : ∃ T, (k : Int) + 1 = T := ⟨_, rfl⟩
          have eT : IntKind.i64.wrap (T - 1) = (k : Int) := by rw [IntWalk.i64_in _ (by omega)]; omega
          have eT1 : IntKind.i64.wrap (T + 1) = T + 1 := IntWalk.i64_in _ (by omega)
          have HTT : Hid (T + 1 = ((k + 1 : Nat) : Int) + 1) := by show _ = _; omega
          have HTM : Hid ((121 - (T + 1)).toNat < (121 - T).toNat) := by show _ < _; omega
          have hc : (k + 1 = 120 ∧ (T == 120) = true) ∨ (k + 1 ≠ 120 ∧ (T == 120) = false) := by
            by_cases e : k + 1 = 120
            · exact .inl ⟨e, by simp; omega⟩
            · exact .inr ⟨e, by rw [beq_eq_false_iff_ne]; omega⟩
          rw [hT] at QK1 HY hk1 ⊢
          have HBP : Hid (∀ v, Below wr.heap.size wr v → Below w3.heap.size w3 v) := fun v hb => below_up (below_up HB4.out HP.out.low) hb
          clear hlt hk hb0 hb1 ha0 ha1 hl1 hl2 hh0 hh1 hT hnneg
          have appP : ∀ (v : World), Hid (Below wr.heap.size wr v) → Hid (PM w4 (.slice ap np cp) (plusN K nn k) (.slice am nq cm) (plusN K (nn + 1) k) v) := fun v hb => HP.out.below hb.out
          rcases hc with ⟨q1, q2⟩ | ⟨q1, q2⟩
          · have HYY := Lib.hid (fun m => HY.out m (.inl q1))
            clear q1 HY HNO QK1
            go_wp2_with (first
              | (go_at_call 12; (with_reducible refine (QK.out _ (HBP.out _ (by repeat (first | exact Below.refl _ _ | (with_reducible assumption) | refine bw_alloc ?_ _ | refine bw_drew ?_)))).mono ?_); rintro e w6 ⟨rfl, b6⟩; have HB6 : Hid (Below wr.heap.size wr w6) := b6; clear b6)
              | (at_builtin; first
                | (refine wp_vappend (B := w4.heap.size) (m := 1) (q := plusN K nn k) (l := [(⟨T, h0 + nn⟩ : Bk)]) rfl _ _ rfl rfl rfl ((HP.out.below (below_up HB6.out (by repeat (first | exact Below.refl _ _ | (with_reducible assumption) | refine bw_alloc ?_ _ | refine bw_drew ?_)))).op) ((HP.out.below (below_up HB6.out (by repeat (first | exact Below.refl _ _ | (with_reducible assumption) | refine bw_alloc ?_ _ | refine bw_drew ?_)))).low.size) (bk_new w6 ⟨T, h0 + nn⟩ _) rfl HS1.out (fun z => by cases z) (np + 1) HE1.out ?_; intro a8 c8 w8 o8 n8 l8; have HP8 := Lib.hid ((HP.out.below (below_up HB6.out (by repeat (first | exact Below.refl _ _ | (with_reducible assumption) | refine bw_alloc ?_ _ | refine bw_drew ?_)))).push1 n8 o8 l8); clear o8 n8 l8)
                | (refine wp_vappend (B := w4.heap.size) (m := 1) (q := plusN K (nn + 1) k) (l := [(⟨T, h0 + nn + 1⟩ : Bk)]) rfl _ _ rfl rfl rfl ((HP8.out.below (by repeat (first | exact Below.refl _ _ | (with_reducible assumption) | refine bw_alloc ?_ _ | refine bw_drew ?_))).om) ((HP8.out.below (by repeat (first | exact Below.refl _ _ | (with_reducible assumption) | refine bw_alloc ?_ _ | refine bw_drew ?_))).low.size) (bk_new w8 ⟨T, h0 + nn + 1⟩ _) rfl HS2.out (fun z => by cases z) (nq + 1) HE2.out ?_; intro a9 c9 w9 o9 n9 l9; have HP9 := Lib.hid ((HP8.out.below (by repeat (first | exact Below.refl _ _ | (with_reducible assumption) | refine bw_alloc ?_ _ | refine bw_drew ?_))).push2 n9 o9 l9); clear o9 n9 l9)))
            go_roundw
            case rel =>
              refine ⟨k + 1, np + 1, nq + 1, a8, a9, c8, c9, HKK.out.1, by rw [HTT.out], rfl, rfl, ?_, ?_⟩
              · show PM _ _ _ _ _ _
                rw [HYY.out, HYY.out, HAS.out]
                exact HP9.out
              · show _ ∧ _
                rw [HYY.out, HYY.out, List.length_append, List.length_append]
                exact ⟨HE1.out, HE2.out⟩
            case measure => show (121 - (T + 1)).toNat < (121 - T).toNat; exact HTM.out
          · by_cases hd : h0 = h1
            · have hbn : (h0 != h1) = false := by simp [hd]
              have HNN2 := Lib.hid (fun m => HNO.out m (by rintro (z | z); exact q1 z; exact z hd))
              clear q1 HY HNO hd
              go_wp2_with (first
                | (go_at_call 12; (first | ((with_reducible refine (QK.out _ (HBP.out _ (Below.refl _ _))).mono ?_); rintro e w6 ⟨rfl, b6⟩; have HB6 : Hid (Below wr.heap.size wr w6) := b6; clear b6) | ((with_reducible refine (QK1.out _ (HBP.out _ HB6.out)).mono ?_); rintro e w7 ⟨rfl, b7⟩; have HB7 : Hid (Below wr.heap.size wr w7) := below_up HB6.out b7; clear b7))))
              go_roundw
              case rel =>
                refine ⟨k + 1, np, nq, ap, am, cp, cm, HKK.out.1, by rw [HTT.out], rfl, rfl, ?_, ?_⟩
                · show PM _ _ _ _ _ _
                  rw [HNN2.out, HNN2.out]
                  exact HP.out.below HB7.out
                · show _ ∧ _
                  rw [HNN2.out, HNN2.out]
                  exact HLL.out
              case measure => show (121 - (T + 1)).toNat < (121 - T).toNat; exact HTM.out
            · have hbn : (h0 != h1) = true := by simp [hd]
              have HYY := Lib.hid (fun m => HY.out m (.inr hd))
              clear q1 HY HNO hd
              go_wp2_with (first
                | (go_at_call 12; (first | ((with_reducible refine (QK.out _ (HBP.out _ (Below.refl _ _))).mono ?_); rintro e w5 ⟨rfl, b6⟩; have HB5 : Hid (Below wr.heap.size wr w5) := b6; clear b6) | ((with_reducible refine (QK1.out _ (HBP.out _ HB5.out)).mono ?_); rintro e w6 ⟨rfl, b7⟩; have HB6 : Hid (Below wr.heap.size wr w6) := below_up HB5.out b7; clear b7)))
                | (at_builtin; first
                  | (refine wp_vappend (B := w4.heap.size) (m := 1) (q := plusN K nn k) (l := [(⟨T, h0 + nn⟩ : Bk)]) rfl _ _ rfl rfl rfl ((HP.out.below (below_up HB6.out (by repeat (first | exact Below.refl _ _ | (with_reducible assumption) | refine bw_alloc ?_ _ | refine bw_drew ?_)))).op) ((HP.out.below (below_up HB6.out (by repeat (first | exact Below.refl _ _ | (with_reducible assumption) | refine bw_alloc ?_ _ | refine bw_drew ?_)))).low.size) (bk_new w6 ⟨T, h0 + nn⟩ _) rfl HS1.out (fun z => by cases z) (np + 1) HE1.out ?_; intro a8 c8 w8 o8 n8 l8; have HP8 := Lib.hid ((HP.out.below (below_up HB6.out (by repeat (first | exact Below.refl _ _ | (with_reducible assumption) | refine bw_alloc ?_ _ | refine bw_drew ?_)))).push1 n8 o8 l8); clear o8 n8 l8)
                  | (refine wp_vappend (B := w4.heap.size) (m := 1) (q := plusN K (nn + 1) k) (l := [(⟨T, h0 + nn + 1⟩ : Bk)]) rfl _ _ rfl rfl rfl ((HP8.out.below (by repeat (first | exact Below.refl _ _ | (with_reducible assumption) | refine bw_alloc ?_ _ | refine bw_drew ?_))).om) ((HP8.out.below (by repeat (first | exact Below.refl _ _ | (with_reducible assumption) | refine bw_alloc ?_ _ | refine bw_drew ?_))).low.size) (bk_new w8 ⟨T, h0 + nn + 1⟩ _) rfl HS2.out (fun z => by cases z) (nq + 1) HE2.out ?_; intro a9 c9 w9 o9 n9 l9; have HP9 := Lib.hid ((HP8.out.below (by repeat (first | exact Below.refl _ _ | (with_reducible assumption) | refine bw_alloc ?_ _ | refine bw_drew ?_))).push2 n9 o9 l9); clear o9 n9 l9)))
              go_roundw
              case rel =>
                refine ⟨k + 1, np + 1, nq + 1, a8, a9, c8, c9, HKK.out.1, by rw [HTT.out], rfl, rfl, ?_, ?_⟩
                · show PM _ _ _ _ _ _
                  rw [HYY.out, HYY.out, HAS.out]
                  exact HP9.out
                · show _ ∧ _
                  rw [HYY.out, HYY.out, List.length_append, List.length_append]
                  exact ⟨HE1.out, HE2.out⟩
              case measure => show (121 - (T + 1)).toNat < (121 - T).toNat; exact HTM.out
        · obtain rfl : k = 120 := by omega
          clear hnneg
          go_wp2_with fail
          go_meet
          exact ⟨np, nq, ap, am, cp, cm, rfl, rfl, HP, HLL⟩
    case rest =>
      obtain ⟨np, nq, ap, am, cp, cm, rfl, rfl, HP, HLL⟩ := hcut
      have hl1 := HLEN1.out
      have hl2 := HLEN2.out
      unfold plusA at hl1 hl2
      rw [List.length_append, List.length_singleton] at hl1 hl2
      have HS1 : Hid ((plusN K nn 120).length + 1 ≤ 1000000) := by show _ ≤ _; omega
      have HS2 : Hid ((plusN K (nn + 1) 120).length + 1 ≤ 1000000) := by show _ ≤ _; omega
      have HE1 : Hid ((plusN K nn 120).length + 1 = np + 1) := by show _ = _; rw [HLL.out.1]
      have HE2 : Hid ((plusN K (nn + 1) 120).length + 1 = nq + 1) := by show _ = _; rw [HLL.out.2]
      clear hl1 hl2 HP0 QC hnneg
      go_upto_region 20 with (at_builtin; first
        | (refine wp_vappend (B := w4.heap.size) (m := 1) (q := plusN K nn 120) (l := [(⟨16384, nn⟩ : Bk)]) rfl _ _ rfl rfl rfl ((HP.out.below (by repeat (first | exact Below.refl _ _ | (with_reducible assumption) | refine bw_alloc ?_ _ | refine bw_drew ?_))).op) ((HP.out.below (by repeat (first | exact Below.refl _ _ | (with_reducible assumption) | refine bw_alloc ?_ _ | refine bw_drew ?_))).low.size) (bk_new wc ⟨16384, nn⟩ _) rfl HS1.out (fun z => by cases z) (np + 1) HE1.out ?_; intro a8 c8 w8 o8 n8 l8; have HP8 := Lib.hid ((HP.out.below (by repeat (first | exact Below.refl _ _ | (with_reducible assumption) | refine bw_alloc ?_ _ | refine bw_drew ?_))).push1 n8 o8 l8); clear o8 n8 l8)
        | (refine wp_vappend (B := w4.heap.size) (m := 1) (q := plusN K (nn + 1) 120) (l := [(⟨16384, nn + 1⟩ : Bk)]) rfl _ _ rfl rfl rfl ((HP8.out.below (by repeat (first | exact Below.refl _ _ | (with_reducible assumption) | refine bw_alloc ?_ _ | refine bw_drew ?_))).om) ((HP8.out.below (by repeat (first | exact Below.refl _ _ | (with_reducible assumption) | refine bw_alloc ?_ _ | refine bw_drew ?_))).low.size) (bk_new w8 ⟨16384, nn + 1⟩ _) rfl HS2.out (fun z => by cases z) (nq + 1) HE2.out ?_; intro a9 c9 w9 o9 n9 l9; have HP9 := Lib.hid ((HP8.out.below (by repeat (first | exact Below.refl _ _ | (with_reducible assumption) | refine bw_alloc ?_ _ | refine bw_drew ?_))).push2 n9 o9 l9); clear o9 n9 l9))
      have HX1 := Lib.hid (HP9.out.op.blks4 HNB1.out)
      have HX2 := Lib.hid (HP9.out.om.blks4 HNB2.out)
      have HB9 := Lib.hid (below_up HB4.out HP9.out.low)
      clear HP HP8 HP9 HB4
      go_wp2_with (go_at_call 11; (first
        | ((with_reducible refine (T1.out _ _ _ _ HX1.out HB9.out).mono ?_); rintro e w10 ⟨rfl, b10⟩; have HX3 := Lib.hid (HX2.out.below b10); have HB10 := Lib.hid (below_up HB9.out b10); clear b10)
        | ((with_reducible refine (T2.out _ _ _ _ HX3.out HB10.out).mono ?_); rintro e w11 ⟨rfl, b11⟩)))
      go_ret
      exact ⟨rfl, below_up HB3.out (below_up HB10.out b11)⟩
end Go.Proofs.Ytljigfedmjlfgaa

/-
  The walk over the statement of all times, and all work, doubled.
-/
namespace Go.Proofs.Ytljigfedmjlfgaa
open Go.RowKit Go.Maps

theorem OwnG.demsN {w : World} {B n c : Nat} {a : Option Addr} {l : List Dm} (h : OwnG w B (.slice a n c) l) (hg : Nice l) : Dems w a n c l := by
  obtain ⟨a9, c9, e9, hv, h1, h2⟩ := h.slice
  obtain ⟨rfl, hln, rfl⟩ := Value.slice.inj e9
  refine ⟨hln.symm, hv, by rw [hln]; exact h1, h2, fun x hx => ?_⟩
  have q := hg.ok x hx
  have := q.c0; have := q.c1; have := q.d1; have := q.d2; have := q.t2
  unfold I64; omega
theorem OwnV.blks5 {w : World} {B n c : Nat} {a : Option Addr} {l : List Bk} (h : OwnV w B (.slice a n c) l) (hg : NiceB l) : Blks w a n c l := by
  obtain ⟨a9, c9, e9, hv, h1, h2⟩ := h.slice
  obtain ⟨rfl, hln, rfl⟩ := Value.slice.inj e9
  exact ⟨hln.symm, hv, by rw [hln]; exact h1, h2, hg⟩
theorem dblH_nice {K : List Bk} (h : AllHeld K) (hl : K.length ≤ 64) : NiceB (dblH K) := by
  refine ⟨fun x hx => ?_, by unfold dblH; rw [List.length_map]; exact hl⟩
  obtain ⟨y, hy, rfl⟩ := List.mem_map.1 hx
  have q := h y hy
  have := q.d1; have := q.d2; have := q.b0; have := q.b1
  show 1 ≤ 2 * y.d ∧ 2 * y.d ≤ 1048576 ∧ 0 ≤ 2 * y.b ∧ 2 * y.b ≤ 1000000
  omega
theorem dblL_next {M : List Dm} {k : Nat} {x : Dm} (h : M[k]? = some x) : dblL (M.take (k + 1)) = dblL (M.take k) ++ [dbl x] := by unfold dblL; rw [List.take_add_one, h, List.map_append]; rfl
theorem dblH_next {K : List Bk} {k : Nat} {x : Bk} (h : K[k]? = some x) : dblH (K.take (k + 1)) = dblH (K.take k) ++ [dblB x] := by unfold dblH; rw [List.take_add_one, h, List.map_append]; rfl

set_option maxRecDepth 100000 in
set_option maxHeartbeats 8000000 in
theorem law_double (W : World) (a : Option Addr) (n cap : Nat) (l : Nat → Int × Int × Int) (hn : Trips W a n l) (ab : Option Addr) (nb capb : Nat) (lb : Nat → Int × Int) (hnb : Pairs W ab nb lb) :
    Calls Try.prog 7 #[.slice a n cap, .slice ab nb capb] W fun e w' => e = .returned (.bool true) ∧ Below W.heap.size W w' := by
  have MC := Lib.hid (fun v (hb : Below W.heap.size W v) => made_dems (hn.below hb) cap)
  have HC := Lib.hid (fun v (hb : Below W.heap.size W v) => held_blks (hnb.below hb) capb)
  have AC := Lib.hid (fun v => awake_any v)
  clear hn hnb
  go_enter Try.func7, Try.ntmps7
  go_upto_region 2 with (go_at_call 8; (with_reducible refine (AC.out _).mono ?_); rintro e w1 ⟨rfl, b1⟩)
  go_upto_region 3 with (go_at_call 9; (with_reducible refine (MC.out _ b1).mono ?_); rintro e w2 ⟨⟨a1, N1, c1, M, rfl, hd, hN, hg⟩, b2⟩; have HD0 := Lib.hid hd; have HG := Lib.hid hg; have HN := Lib.hid hN; have HB2 := Lib.hid (below_up b1 b2); clear hd hg hN b2)
  go_upto_region 4 with (go_at_call 10; (with_reducible refine (HC.out _ HB2.out).mono ?_); rintro e w3 ⟨⟨a2, N2, c2, K, rfl, hk, hnk, hh⟩, b3⟩; have HK := Lib.hid hk; have HNK := Lib.hid hnk; clear hnk; have HH := Lib.hid hh; have HD := Lib.hid (HD0.out.below b3); have HB3 := Lib.hid (below_up HB2.out b3); clear hk hh b3)
  clear MC HC AC b1 HB2 HD0
  have hlen := HD.out.len
  have hlk := HK.out.len
  have hN6 : M.length ≤ 6 := by have := HN.out; omega
  have hK6 : K.length ≤ 6 := by have := HNK.out; omega
  have HNH := Lib.hid (HG.out.niceH (show M.length ≤ 7 by omega))
  have HL := Lib.hid hlen
  have HLK := Lib.hid hlk
  have HN6 := Lib.hid hN6
  have HK6 := Lib.hid hK6
  have hn6 : N1 ≤ 6 := by omega
  have hk6 : N2 ≤ 6 := by omega
  clear hlen hlk hN6 hK6
  go_upto_block 0 with fail
  go_cut [8] (fun u wx => ∃ (a' : Option Addr) (c' : Nat), u = .slice a' N1 c' ∧ Hid (Dems wx a' N1 c' (dblL M)) ∧ Hid (Below w3.heap.size w3 wx))
  case first =>
    go_wp2
    go_loopw [8, 10] (fun g u wr => ∃ (k : Nat) (a' : Option Addr) (c' : Nat), k ≤ N1 ∧ u = .int .i64 k ∧ g = .slice a' k c' ∧ Hid (OwnG wr w3.heap.size (.slice a' k c') (dblL (M.take k))) ∧ Hid (Below w3.heap.size w3 wr)) (fun _ u _ => (N1 - intOf u).toNat)
    case atStart => exact ⟨0, none, 0, Nat.zero_le _, rfl, rfl, OwnG.nil _ _, Below.refl _ _⟩
    case round =>
      obtain ⟨k, a', c', hk, rfl, rfl, HO, HB⟩ := hrel
      by_cases hlt : k < N1
      · obtain ⟨x, hx⟩ := nth_of HL.out hlt
        obtain ⟨g, o, rfl, ⟨y0, y1, y2⟩⟩ := (HD.out.view.below HB.out).at_ hx
        have hk1 : (k : Int) < (N1 : Int) := by omega
        have hk0 : (0 : Int) ≤ (k : Int) := by omega
        have hxo := (HG.out x (List.mem_of_getElem? hx)).ok
        have p0 := hxo.c0; have p1 := hxo.c1; have p2 := hxo.d1; have p3 := hxo.d2; have p4 := hxo.t2
        have HX := Lib.hid (dblL_next hx)
        obtain ⟨C, hC⟩ : ∃ C, 2 * x.c = C := ⟨_, rfl⟩
        obtain ⟨D, hD⟩ : ∃ D, 2 * x.d = D := ⟨_, rfl⟩
        obtain ⟨T, hT⟩ : ∃ T, 2 * x.t = T := ⟨_, rfl⟩
        have e1 : IntKind.i64.wrap (2 * x.c) = C := by rw [hC]; exact IntWalk.i64_in _ (by omega)
        have e2 : IntKind.i64.wrap (2 * x.d) = D := by rw [hD]; exact IntWalk.i64_in _ (by omega)
        have e3 : IntKind.i64.wrap (2 * x.t) = T := by rw [hT]; exact IntWalk.i64_in _ (by omega)
        have hdx : dbl x = ⟨C, D, T⟩ := by unfold dbl; rw [hC, hD, hT]
        rw [hdx] at HX
        have HLN : Hid ((dblL (M.take k)).length = k) := by show _ = _; unfold dblL; rw [List.length_map, List.length_take]; have := HL.out; omega
        have HSM : Hid ((dblL (M.take k)).length + 1 ≤ 1000000) := by have := HLN.out; show _ ≤ _; omega
        have HNN : Hid ((dblL (M.take k)).length + 1 = k + 1) := by show _ = _; rw [HLN.out]
        generalize dblL (M.take k) = Q at *
        clear hx hxo p0 p1 p2 p3 p4 hC hD hT hdx
        go_upto_region 9 with fail
        go_region_law (refine gstep_append (m := 1) (l := [(⟨C, D, T⟩ : Dm)]) rfl (.tmp 31) (.tmp 51) rfl (by rfl) (by rfl) (HO.out.below (by repeat (first | exact Below.refl _ _ | (with_reducible assumption) | refine bw_alloc ?_ _ | refine bw_drew ?_))) (Nat.le_trans HB.out.size ((by repeat (first | exact Below.refl _ _ | (with_reducible assumption) | refine bw_alloc ?_ _ | refine bw_drew ?_)) : Below wr.heap.size wr _).size) (by first | exact dm_new _ ⟨C, D, T⟩ _ | exact (dm_new _ ⟨C, D, T⟩ _).below (by repeat (first | exact Below.refl _ _ | (with_reducible assumption) | refine bw_alloc ?_ _ | refine bw_drew ?_))) rfl HSM.out (fun z => by cases z) (k + 1) HNN.out ?_; intro a6 c6 w6 o6 n6 l6; rw [← HX.out] at o6; have HO6 := Lib.hid o6; have HB6 : Hid (Below w3.heap.size w3 w6) := (below_up HB.out (by repeat (first | exact Below.refl _ _ | (with_reducible assumption) | refine bw_alloc ?_ _ | refine bw_drew ?_))).grown n6 (Nat.le_trans HB.out.size ((by repeat (first | exact Below.refl _ _ | (with_reducible assumption) | refine bw_alloc ?_ _ | refine bw_drew ?_)) : Below wr.heap.size wr _).size) (fun q hq => ((HO.out.below (by repeat (first | exact Below.refl _ _ | (with_reducible assumption) | refine bw_alloc ?_ _ | refine bw_drew ?_))).new hq).1); clear o6 n6 l6)
        all_goals
          go_wp2
          go_roundw
          case rel => exact ⟨k + 1, a6, c6, by omega, by go_num, rfl, (by first | exact HO6 | exact Lib.hid (HO6.out.below (by repeat (first | exact Below.refl _ _ | (with_reducible assumption) | refine bw_alloc ?_ _ | refine bw_drew ?_)))), (by first | exact HB6 | exact Lib.hid (below_up HB6.out (by repeat (first | exact Below.refl _ _ | (with_reducible assumption) | refine bw_alloc ?_ _ | refine bw_drew ?_))))⟩
          case measure => simp [intOf]; omega
      · obtain rfl : k = N1 := by omega
        have HE : Hid (Dems wr a' k c' (dblL M)) := by
          have h1 := HO.out
          rw [List.take_of_length_le (by have := HL.out; omega)] at h1
          exact h1.demsN HNH.out.twice
        clear HO
        go_wp2_with fail
        go_meet
        exact ⟨a', c', rfl, HE, HB⟩
  case rest =>
    obtain ⟨ax, cx, rfl, HX, HBX⟩ := hcut
    go_upto_block 2 with fail
    go_cut [9] (fun u wx => ∃ (a' : Option Addr) (c' : Nat), u = .slice a' N2 c' ∧ Hid (Blks wx a' N2 c' (dblH K)) ∧ Hid (Below wc.heap.size wc wx))
    case first =>
      go_wp2
      go_loopw [9, 11] (fun g u wr => ∃ (k : Nat) (a' : Option Addr) (c' : Nat), k ≤ N2 ∧ u = .int .i64 k ∧ g = .slice a' k c' ∧ Hid (OwnV wr wc.heap.size (.slice a' k c') (dblH (K.take k))) ∧ Hid (Below wc.heap.size wc wr)) (fun _ u _ => (N2 - intOf u).toNat)
      case atStart => exact ⟨0, none, 0, Nat.zero_le _, rfl, rfl, OwnV.nil _ _, Below.refl _ _⟩
      case round =>
        obtain ⟨k, a', c', hk, rfl, rfl, HO, HB⟩ := hrel
        by_cases hlt : k < N2
        · obtain ⟨x, hx⟩ := nth_of HLK.out hlt
          obtain ⟨g, o, rfl, ⟨y0, y1⟩⟩ := (HK.out.view.below (below_up HBX.out HB.out)).at_ hx
          have hk1 : (k : Int) < (N2 : Int) := by omega
          have hk0 : (0 : Int) ≤ (k : Int) := by omega
          have hxo := HH.out x (List.mem_of_getElem? hx)
          have p0 := hxo.d1; have p1 := hxo.d2; have p2 := hxo.b0; have p3 := hxo.b1
          have HXX := Lib.hid (dblH_next hx)
          obtain ⟨D, hD⟩ : ∃ D, 2 * x.d = D := ⟨_, rfl⟩
          obtain ⟨T, hT⟩ : ∃ T, 2 * x.b = T := ⟨_, rfl⟩
          have e2 : IntKind.i64.wrap (2 * x.d) = D := by rw [hD]; exact IntWalk.i64_in _ (by omega)
          have e3 : IntKind.i64.wrap (2 * x.b) = T := by rw [hT]; exact IntWalk.i64_in _ (by omega)
          have hdx : dblB x = ⟨D, T⟩ := by unfold dblB; rw [hD, hT]
          rw [hdx] at HXX
          have HLN : Hid ((dblH (K.take k)).length = k) := by show _ = _; unfold dblH; rw [List.length_map, List.length_take]; have := HLK.out; omega
          have HSM : Hid ((dblH (K.take k)).length + 1 ≤ 1000000) := by have := HLN.out; show _ ≤ _; omega
          have HNN : Hid ((dblH (K.take k)).length + 1 = k + 1) := by show _ = _; rw [HLN.out]
          generalize dblH (K.take k) = Q at *
          clear hx hxo p0 p1 p2 p3 hD hT hdx
          go_upto_region 13 with fail
          go_region_law (refine vstep_append (m := 1) (l := [(⟨D, T⟩ : Bk)]) rfl (.tmp 59) (.tmp 73) rfl (by rfl) (by rfl) (HO.out.below (by repeat (first | exact Below.refl _ _ | (with_reducible assumption) | refine bw_alloc ?_ _ | refine bw_drew ?_))) (Nat.le_trans HB.out.size ((by repeat (first | exact Below.refl _ _ | (with_reducible assumption) | refine bw_alloc ?_ _ | refine bw_drew ?_)) : Below wr.heap.size wr _).size) (by first | exact bk_new _ ⟨D, T⟩ _ | exact (bk_new _ ⟨D, T⟩ _).below (by repeat (first | exact Below.refl _ _ | (with_reducible assumption) | refine bw_alloc ?_ _ | refine bw_drew ?_))) rfl HSM.out (fun z => by cases z) (k + 1) HNN.out ?_; intro a6 c6 w6 o6 n6 l6; rw [← HXX.out] at o6; have HO6 := Lib.hid o6; have HB6 : Hid (Below wc.heap.size wc w6) := (below_up HB.out (by repeat (first | exact Below.refl _ _ | (with_reducible assumption) | refine bw_alloc ?_ _ | refine bw_drew ?_))).grown n6 (Nat.le_trans HB.out.size ((by repeat (first | exact Below.refl _ _ | (with_reducible assumption) | refine bw_alloc ?_ _ | refine bw_drew ?_)) : Below wr.heap.size wr _).size) (fun q hq => ((HO.out.below (by repeat (first | exact Below.refl _ _ | (with_reducible assumption) | refine bw_alloc ?_ _ | refine bw_drew ?_))).new hq).1); clear o6 n6 l6)
          all_goals
            go_wp2
            go_roundw
            case rel => exact ⟨k + 1, a6, c6, by omega, by go_num, rfl, (by first | exact HO6 | exact Lib.hid (HO6.out.below (by repeat (first | exact Below.refl _ _ | (with_reducible assumption) | refine bw_alloc ?_ _ | refine bw_drew ?_)))), (by first | exact HB6 | exact Lib.hid (below_up HB6.out (by repeat (first | exact Below.refl _ _ | (with_reducible assumption) | refine bw_alloc ?_ _ | refine bw_drew ?_))))⟩
            case measure => simp [intOf]; omega
        · obtain rfl : k = N2 := by omega
          have HE : Hid (Blks wr a' k c' (dblH K)) := by
            have h1 := HO.out
            rw [List.take_of_length_le (by have := HLK.out; omega)] at h1
            exact h1.blks5 (dblH_nice HH.out (by have := HK6.out; omega))
          clear HO
          go_wp2_with fail
          go_meet
          exact ⟨a', c', rfl, HE, HB⟩
    case rest =>
      obtain ⟨ay, cy, rfl, HY, HBY⟩ := hcut
      have HDX := Lib.hid (HX.out.below HBY.out)
      have HM1 := Lib.hid (HD.out.below (below_up HBX.out HBY.out))
      have HK1 := Lib.hid (HK.out.below (below_up HBX.out HBY.out))
      have HBZ := Lib.hid (below_up HB3.out (below_up HBX.out HBY.out))
      have hni := HNH.out.nice
      have hn2 := HNH.out.twice
      have R1 := Lib.hid (fun v (hb : Below wc.heap.size wc v) => qroom_any (HM1.out.below hb) hni (HK1.out.below hb))
      have R2 := Lib.hid (fun v (hb : Below wc.heap.size wc v) => qroom_any (HDX.out.below hb) hn2 (HY.out.below hb))
      have M1 := Lib.hid (fun v (hb : Below wc.heap.size wc v) => qmiss_any (HM1.out.below hb) hni (HK1.out.below hb))
      have M2 := Lib.hid (fun v (hb : Below wc.heap.size wc v) => qmiss_any (HDX.out.below hb) hn2 (HY.out.below hb))
      have T1 := Lib.hid (fun v (hb : Below wc.heap.size wc v) => qtest_any (HM1.out.below hb) hni (HK1.out.below hb))
      have T2 := Lib.hid (fun v (hb : Below wc.heap.size wc v) => qtest_any (HDX.out.below hb) hn2 (HY.out.below hb))
      rw [rm_dbl HNH.out] at R2
      rw [ms_dbl HNH.out] at M2
      rw [ts_dbl HNH.out] at T2
      have g1 : 0 ≤ (rmS M K).getD 0 ∧ (rmS M K).getD 0 ≤ 240 := by
        cases e : rmS M K with
        | none => exact ⟨Int.le_refl _, by decide⟩
        | some q => obtain ⟨z1, z2, _⟩ := room_fits hni (fun x hx => (HH.out x hx).d2) (rm_at e); exact ⟨z1, z2⟩
      have g2 : 0 ≤ (msS M K).getD 0 ∧ (msS M K).getD 0 ≤ 240 := by
        cases e : msS M K with
        | none => exact ⟨Int.le_refl _, by decide⟩
        | some q =>
          have z := (ms_at e).1
          have z1 := dl_pos' hni.ok z.1
          have z2 := end_small HG.out HN6.out HH.out
          have z3 := z.2.1
          exact ⟨by show 0 ≤ q; omega, by show q ≤ 240; omega⟩
      have dm : ∀ o : Option Int, (o.map (2 * ·)).getD 0 = 2 * o.getD 0 := fun o => by cases o <;> rfl
      have ds : ∀ o : Option Int, (o.map (2 * ·)).isSome = o.isSome := fun o => by cases o <;> rfl
      rw [dm, ds] at R2 M2
      obtain ⟨r, hr⟩ : ∃ r, (rmS M K).getD 0 = r := ⟨_, rfl⟩
      obtain ⟨y, hy⟩ : ∃ y, (msS M K).getD 0 = y := ⟨_, rfl⟩
      obtain ⟨rb, hrb⟩ : ∃ rb, (rmS M K).isSome = rb := ⟨_, rfl⟩
      obtain ⟨yb, hyb⟩ : ∃ yb, (msS M K).isSome = yb := ⟨_, rfl⟩
      rw [hr, hrb] at R1 R2
      rw [hy, hyb] at M1 M2
      rw [hr] at g1
      rw [hy] at g2
      have e1 : IntKind.i64.wrap (2 * r) = 2 * r := IntWalk.i64_in _ (by omega)
      have e2 : IntKind.i64.wrap (2 * y) = 2 * y := IntWalk.i64_in _ (by omega)
      generalize tsS M K = ts at *
      obtain ⟨r2, hr2⟩ : ∃ r2, 2 * r = r2 := ⟨_, rfl⟩
      obtain ⟨y2, hy2⟩ : ∃ y2, 2 * y = y2 := ⟨_, rfl⟩
      rw [hr2] at e1 R2
      rw [hy2] at e2 M2
      have e1' : IntKind.i64.wrap (2 * r) = r2 := by rw [hr2]; exact e1
      have e2' : IntKind.i64.wrap (2 * y) = y2 := by rw [hy2]; exact e2
      clear g1 g2 dm ds hr hy hrb hyb hr2 hy2 e1 e2 hni hn2 HX HBX HBY hn6 hk6
      go_upto_region 15 with (go_at_call 18; (with_reducible refine (R1.out _ (Below.refl _ _)).mono ?_); rintro e w5 ⟨rfl, b5⟩; have HB5 := Lib.hid b5; clear b5)
      go_upto_region 16 with (go_at_call 18; (with_reducible refine (R2.out _ HB5.out).mono ?_); rintro e w6 ⟨rfl, b6⟩; have HB6 := Lib.hid (below_up HB5.out b6); clear b6)
      go_upto_region 17 with (go_at_call 14; (with_reducible refine (M1.out _ HB6.out).mono ?_); rintro e w7 ⟨rfl, b7⟩; have HB7 := Lib.hid (below_up HB6.out b7); clear b7)
      go_upto_region 18 with (go_at_call 14; (with_reducible refine (M2.out _ HB7.out).mono ?_); rintro e w8 ⟨rfl, b8⟩; have HB8 := Lib.hid (below_up HB7.out b8); clear b8)
      go_wp2_with (go_at_call 11; first
        | ((with_reducible refine (T1.out _ HB8.out).mono ?_); rintro e w9 ⟨rfl, b9⟩; have HB9 := Lib.hid (below_up HB8.out b9); clear b9)
        | ((with_reducible refine (T2.out _ HB9.out).mono ?_); rintro e w10 ⟨rfl, b10⟩; have HB10 := Lib.hid (below_up HB9.out b10); clear b10))
      go_ret
      exact ⟨by first | rfl | (simp; done), below_up HBZ.out HB10.out⟩
end Go.Proofs.Ytljigfedmjlfgaa

/-
  The arguments of the statements of qpa, opened; the rows.
-/
namespace Go.Proofs.Ytljigfedmjlfgaa
open Go.ChangeShapes Go.WideShapes Go.ChangeAt Go.RowKit
section
variable {H : Type} {enc : TypeId × Value → H} {W : World} {base : Nat} {spare : Nat → Bool} {held : Bool}
set_option maxRecDepth 100000 in
theorem open_trips {r : Reach} {b0 : Nat} {v : Value} {d : DataW H} {p : List MemPlace} (hv : Value.okWide Try.prog W r b0 22 v) (h : DataW.Trod enc Try.prog W base spare held 22 v d p) :
    ∃ (a : Option Addr) (n c : Nat) (l : Nat → Int × Int × Int), v = .slice a n c ∧ Trips W a n l := by
  obtain ⟨a0, len, cap, rfl⟩ := okWide_slice Try.underlying22 hv
  refine ⟨a0, len, cap, ?_⟩
  obtain ⟨fuel, hf⟩ := h
  have k1 : Try.prog.cellsOf 3 = 1 := by kernel_rfl
  have k2 : Try.prog.cellsOf 35 = 3 := by kernel_rfl
  have hf : DataW.trod enc Try.prog W base spare held fuel 22 [.slice a0 len cap] = some (d, p) := by simpa [Value.cells] using hf
  rcases Go.Deep.open_slice Try.underlying22 hf with ⟨hcs, _⟩ | ⟨a, len', cap', m, n, D, Pl, hcs, hb, hl, hm, hmm, hx, hi⟩
  · simp at hcs
    obtain ⟨rfl, rfl, rfl⟩ := hcs
    exact ⟨fun _ => (0, 0, 0), rfl, by omega, fun k hk => absurd hk (Nat.not_lt_zero _)⟩
  · simp at hcs
    obtain ⟨rfl, rfl, rfl⟩ := hcs
    have hlm : len ≤ m := by rw [hmm]; split <;> omega
    obtain ⟨O, hO⟩ := Go.Deep.choose_lt (n := len) (p := fun i (o : Int × Int × Int) => W.cell? (a.add (i * 3)) = some (.int .i64 o.1) ∧ W.cell? (a.add (i * 3 + 1)) = some (.int .i64 o.2.1) ∧ W.cell? (a.add (i * 3 + 2)) = some (.int .i64 o.2.2)) (fun i hil => by
      obtain ⟨cs, hc, htr⟩ := hi i (by omega)
      rw [k2] at hc
      obtain ⟨_, hcl, hat⟩ := World.cells?_some hc
      obtain ⟨ys, m', _, _, hlen, hyl, hall⟩ := DataW.trod_array Try.underlying35 htr
      rw [k1] at hall
      match cs, hcl, ys, hyl with
      | [v0, v1, v2], _, [y0, y1, y2], _ =>
        have t0 : DataW.trod enc Try.prog W base spare held m' 3 [v0] = some y0 := by have q := hall 0 (by omega); simpa using q
        have t1 : DataW.trod enc Try.prog W base spare held m' 3 [v1] = some y1 := by have q := hall 1 (by omega); simpa using q
        have t2 : DataW.trod enc Try.prog W base spare held m' 3 [v2] = some y2 := by have q := hall 2 (by omega); simpa using q
        obtain ⟨n0, e0, _, w0⟩ := DataW.trod_int Try.underlying3 t0
        obtain ⟨n1, e1, _, w1⟩ := DataW.trod_int Try.underlying3 t1
        obtain ⟨n2, e2, _, w2⟩ := DataW.trod_int Try.underlying3 t2
        simp at e0 e1 e2
        subst e0 e1 e2
        have c0 := hat 0 (by omega)
        have c1 := hat 1 (by omega)
        have c2 := hat 2 (by omega)
        rw [Go.Deep.add_add] at c0 c1 c2
        exact ⟨(n0, n1, n2), c0, c1, c2⟩)
    refine ⟨O, rfl, by unfold maxLen at hm; omega, fun k hk => ?_⟩
    obtain ⟨c0, c1, c2⟩ := hO k hk
    have z0 := (hO 0 (by omega)).1
    rcases a with ⟨b, off, spot⟩
    have hs : spot = none := by
      cases spot with
      | none => rfl
      | some s => simp [World.cell?, Addr.add] at z0; split at z0 <;> simp at z0
    subst hs
    rw [addr_at] at c0 c1 c2
    exact ⟨b, off, rfl, c0, c1, c2⟩
set_option maxRecDepth 100000 in
theorem open_pairs {r : Reach} {b0 : Nat} {v : Value} {d : DataW H} {p : List MemPlace} (hv : Value.okWide Try.prog W r b0 23 v) (h : DataW.Trod enc Try.prog W base spare held 23 v d p) :
    ∃ (a : Option Addr) (n c : Nat) (l : Nat → Int × Int), v = .slice a n c ∧ Pairs W a n l := by
  obtain ⟨a0, len, cap, rfl⟩ := okWide_slice Try.underlying23 hv
  refine ⟨a0, len, cap, ?_⟩
  obtain ⟨fuel, hf⟩ := h
  have k1 : Try.prog.cellsOf 3 = 1 := by kernel_rfl
  have k2 : Try.prog.cellsOf 36 = 2 := by kernel_rfl
  have hf : DataW.trod enc Try.prog W base spare held fuel 23 [.slice a0 len cap] = some (d, p) := by simpa [Value.cells] using hf
  rcases Go.Deep.open_slice Try.underlying23 hf with ⟨hcs, _⟩ | ⟨a, len', cap', m, n, D, Pl, hcs, hb, hl, hm, hmm, hx, hi⟩
  · simp at hcs
    obtain ⟨rfl, rfl, rfl⟩ := hcs
    exact ⟨fun _ => (0, 0), rfl, by omega, fun k hk => absurd hk (Nat.not_lt_zero _)⟩
  · simp at hcs
    obtain ⟨rfl, rfl, rfl⟩ := hcs
    have hlm : len ≤ m := by rw [hmm]; split <;> omega
    obtain ⟨O, hO⟩ := Go.Deep.choose_lt (n := len) (p := fun i (o : Int × Int) => W.cell? (a.add (i * 2)) = some (.int .i64 o.1) ∧ W.cell? (a.add (i * 2 + 1)) = some (.int .i64 o.2)) (fun i hil => by
      obtain ⟨cs, hc, htr⟩ := hi i (by omega)
      rw [k2] at hc
      obtain ⟨_, hcl, hat⟩ := World.cells?_some hc
      obtain ⟨ys, m', _, _, hlen, hyl, hall⟩ := DataW.trod_array Try.underlying36 htr
      rw [k1] at hall
      match cs, hcl, ys, hyl with
      | [v0, v1], _, [y0, y1], _ =>
        have t0 : DataW.trod enc Try.prog W base spare held m' 3 [v0] = some y0 := by have q := hall 0 (by omega); simpa using q
        have t1 : DataW.trod enc Try.prog W base spare held m' 3 [v1] = some y1 := by have q := hall 1 (by omega); simpa using q
        obtain ⟨n0, e0, _, w0⟩ := DataW.trod_int Try.underlying3 t0
        obtain ⟨n1, e1, _, w1⟩ := DataW.trod_int Try.underlying3 t1
        simp at e0 e1
        subst e0 e1
        have c0 := hat 0 (by omega)
        have c1 := hat 1 (by omega)
        rw [Go.Deep.add_add] at c0 c1
        exact ⟨(n0, n1), c0, c1⟩)
    refine ⟨O, rfl, by unfold maxLen at hm; omega, fun k hk => ?_⟩
    obtain ⟨c0, c1⟩ := hO k hk
    have z0 := (hO 0 (by omega)).1
    rcases a with ⟨b, off, spot⟩
    have hs : spot = none := by
      cases spot with
      | none => rfl
      | some s => simp [World.cell?, Addr.add] at z0; split at z0 <;> simp at z0
    subst hs
    rw [addr_at] at c0 c1
    exact ⟨b, off, rfl, c0, c1⟩
set_option maxRecDepth 100000 in
theorem open_more {r : Reach} {b0 : Nat} {v : Value} {d : DataW H} {p : List MemPlace} (hv : Value.okWide Try.prog W r b0 38 v) (h : DataW.Trod enc Try.prog W base spare held 38 v d p) :
    ∃ d0 d1 d2 e0 e1 : Int, v = .agg #[.int .i64 d0, .int .i64 d1, .int .i64 d2, .int .i64 e0, .int .i64 e1] := by
  simp only [Value.okWide, Try.underlying38] at hv
  obtain ⟨cs, rfl, _⟩ := hv
  obtain ⟨fuel, hf⟩ := h
  obtain ⟨cs⟩ := cs
  have hf : DataW.trod enc Try.prog W base spare held fuel 38 cs = some (d, p) := by simpa [Value.cells] using hf
  obtain ⟨xs, n, _, _, hl, hlen, hall⟩ := DataW.trod_struct Try.underlying38 hf
  have hl5 : cs.length = 5 := hl.trans (by kernel_rfl)
  have hx2 : xs.length = 2 := hlen
  have k1 : Try.prog.cellsOf 3 = 1 := by kernel_rfl
  have k2 : Try.prog.cellsOf 36 = 2 := by kernel_rfl
  have k3 : Try.prog.cellsOf 35 = 3 := by kernel_rfl
  match cs, hl5, xs, hx2 with
  | [v0, v1, v2, v3, v4], _, [x0, x1], _ =>
    have t0 : DataW.trod enc Try.prog W base spare held n 35 [v0, v1, v2] = some x0 := by have q := hall 0 _ rfl; simpa [k2, k3] using q
    have t1 : DataW.trod enc Try.prog W base spare held n 36 [v3, v4] = some x1 := by have q := hall 1 _ rfl; simpa [k2, k3] using q
    obtain ⟨ys, m', _, _, hlen, hyl, hall3⟩ := DataW.trod_array Try.underlying35 t0
    obtain ⟨zs, m2, _, _, hlen2, hzl, hall2⟩ := DataW.trod_array Try.underlying36 t1
    rw [k1] at hall3 hall2
    match ys, hyl, zs, hzl with
    | [y0, y1, y2], _, [z0, z1], _ =>
      have s0 : DataW.trod enc Try.prog W base spare held m' 3 [v0] = some y0 := by have q := hall3 0 (by omega); simpa using q
      have s1 : DataW.trod enc Try.prog W base spare held m' 3 [v1] = some y1 := by have q := hall3 1 (by omega); simpa using q
      have s2 : DataW.trod enc Try.prog W base spare held m' 3 [v2] = some y2 := by have q := hall3 2 (by omega); simpa using q
      have s3 : DataW.trod enc Try.prog W base spare held m2 3 [v3] = some z0 := by have q := hall2 0 (by omega); simpa using q
      have s4 : DataW.trod enc Try.prog W base spare held m2 3 [v4] = some z1 := by have q := hall2 1 (by omega); simpa using q
      obtain ⟨n0, f0, _, _⟩ := DataW.trod_int Try.underlying3 s0
      obtain ⟨n1, f1, _, _⟩ := DataW.trod_int Try.underlying3 s1
      obtain ⟨n2, f2, _, _⟩ := DataW.trod_int Try.underlying3 s2
      obtain ⟨n3, f3, _, _⟩ := DataW.trod_int Try.underlying3 s3
      obtain ⟨n4, f4, _, _⟩ := DataW.trod_int Try.underlying3 s4
      simp at f0 f1 f2 f3 f4
      subst f0 f1 f2 f3 f4
      exact ⟨n0, n1, n2, n3, n4, rfl⟩
end
theorem row_sound (W : World) (a : Option Addr) (n cap : Nat) (l : Nat → Int × Int × Int) (hn : Trips W a n l) (ab : Option Addr) (nb capb : Nat) (lb : Nat → Int × Int) (hnb : Pairs W ab nb lb) :
    Calls Try.prog 3 #[.slice a n cap, .slice ab nb capb] W fun e w' => e = .returned (.bool true) ∧ Below W.heap.size W w' := law_sound W a n cap l hn ab nb capb lb hnb
theorem row_more (W : World) (a : Option Addr) (n cap : Nat) (l : Nat → Int × Int × Int) (hn : Trips W a n l) (ab : Option Addr) (nb capb : Nat) (lb : Nat → Int × Int) (hnb : Pairs W ab nb lb) (d0 d1 d2 e0 e1 : Int) :
    Calls Try.prog 4 #[.slice a n cap, .slice ab nb capb, .agg #[.int .i64 d0, .int .i64 d1, .int .i64 d2, .int .i64 e0, .int .i64 e1]] W fun e w' => e = .returned (.bool true) ∧ Below W.heap.size W w' := law_more W a n cap l hn ab nb capb lb hnb d0 d1 d2 e0 e1
theorem row_miss (W : World) (a : Option Addr) (n cap : Nat) (l : Nat → Int × Int × Int) (hn : Trips W a n l) (ab : Option Addr) (nb capb : Nat) (lb : Nat → Int × Int) (hnb : Pairs W ab nb lb) :
    Calls Try.prog 5 #[.slice a n cap, .slice ab nb capb] W fun e w' => e = .returned (.bool true) ∧ Below W.heap.size W w' := law_miss W a n cap l hn ab nb capb lb hnb
theorem row_room (W : World) (a : Option Addr) (n cap : Nat) (l : Nat → Int × Int × Int) (hn : Trips W a n l) (ab : Option Addr) (nb capb : Nat) (lb : Nat → Int × Int) (hnb : Pairs W ab nb lb) :
    Calls Try.prog 6 #[.slice a n cap, .slice ab nb capb] W fun e w' => e = .returned (.bool true) ∧ Below W.heap.size W w' := law_room W a n cap l hn ab nb capb lb hnb
theorem row_double (W : World) (a : Option Addr) (n cap : Nat) (l : Nat → Int × Int × Int) (hn : Trips W a n l) (ab : Option Addr) (nb capb : Nat) (lb : Nat → Int × Int) (hnb : Pairs W ab nb lb) :
    Calls Try.prog 7 #[.slice a n cap, .slice ab nb capb] W fun e w' => e = .returned (.bool true) ∧ Below W.heap.size W w' := law_double W a n cap l hn ab nb capb lb hnb
end Go.Proofs.Ytljigfedmjlfgaa
