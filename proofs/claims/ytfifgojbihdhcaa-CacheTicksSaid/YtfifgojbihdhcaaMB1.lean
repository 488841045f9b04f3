/- Texts of this claim, put together: CLaw2, CRow2. -/
import Derived.Test.YtfifgojbihdhcaaMA1
import Derived.Deep.RegionHeld3
import Derived.Deep.CutBlock
import Derived.Deep.CutRange
import Derived.Deep.DeepCutAuto
set_option linter.unusedVariables false
set_option linter.unusedSimpArgs false

/-
  The walk over the statement that a tick is a reload, or a piece of work.
-/
namespace Go.Proofs.Ytfifgojbihdhcaa
open Go.RowKit Go.Maps

set_option maxRecDepth 100000 in
set_option maxHeartbeats 16000000 in
theorem law_ticks (W : World) (S R : Int) (a : Option Addr) (n cap : Nat) (L : List NV) (hn : Nums W a n cap L) (x : Nat) (hx : x < 18446744073709551616) :
    Calls Try.prog 6 #[.agg #[.int .i64 S, .int .i64 R, .slice a n cap], .int .u64 x] W fun e w' => e = .returned (.bool true) ∧ Below W.heap.size W w' := by
  have HN := Lib.hid hn
  have hz2 := zeroSys
  clear hn
  go_enter Try.func6, Try.ntmps6
  go_upto_region 1 with fail
  refine gen_world (fun v => Below W.heap.size W v ∧ v.cell? ⟨W.heap.size, 0, none⟩ = some (.int .i64 S) ∧ v.cell? ⟨W.heap.size, 1, none⟩ = some (.int .i64 R) ∧ v.cell? ⟨W.heap.size, 2, none⟩ = some (.slice a n cap)) ⟨(by repeat (first | exact Below.refl _ _ | (with_reducible assumption) | refine bw_alloc ?_ _ | refine bw_drew ?_)), by rw [World.cell?_alloc_new]; rfl, by rw [World.cell?_alloc_new]; rfl, by rw [World.cell?_alloc_new]; rfl⟩ ?_
  intro W1 ⟨hl1, e0, e1, e2⟩
  have HL1 := Lib.hid hl1
  clear hl1
  go_upto_region 2 with (go_at_call 8; (with_reducible refine (cawake_any _).mono ?_); rintro e w1 ⟨rfl, b1⟩; have HL2 := Lib.hid (below_up HL1.out b1); have d0 := kept_cell b1 e0; have d1 := kept_cell b1 e1; have d2 := kept_cell b1 e2; clear b1 e0 e1 e2)
  have C := Lib.hid (made5_any S R (HN.out.below HL2.out))
  go_upto_region 3 with (go_at_call 9; (with_reducible refine (C.out).mono ?_); rintro e w5 ⟨s, r, a5, N, c5, M, rfl, ho5, hok5, hi5, hm5, b5⟩; have HT5 := Lib.hid (ho5.tasks hok5); have HM := Lib.hid hm5; have HL5 := Lib.hid (below_up HL2.out b5); clear ho5 hok5 hi5 hm5 b5)
  have hN1 : 0 < N := by have := HM.out.pos; have := HT5.out.len; omega
  have hN6 : N ≤ 6 := by have := HM.out.six; have := HT5.out.len; omega
  obtain ⟨ns, rfl⟩ : ∃ ns : Nat, s = (ns : Int) := ⟨s.toNat, by have := HM.out.s1; omega⟩
  have hns : ns ≤ 8 := by have := HM.out.s8; omega
  have hr0 := HM.out.r0
  have hr3 := HM.out.r3
  obtain ⟨g5, o5, rfl⟩ : ∃ g o, a5 = some ⟨g, o, none⟩ := by
    obtain ⟨t0, ht0⟩ := nth_of HT5.out.len hN1
    obtain ⟨g, o, e, _⟩ := HT5.out.view.at_ ht0
    exact ⟨g, o, e⟩
  have hS : (w5.alloc (.cells #[.int .i64 (ns : Int), .int .i64 r, .slice (some ⟨g5, o5, none⟩) N c5] 29)).heap[w5.heap.size]? = some (.cells #[.int .i64 (ns : Int), .int .i64 r, .slice (some ⟨g5, o5, none⟩) N c5] 29 (0, 0)) := heap_alloc_new w5 _
  refine gen_world (fun v => Below w5.heap.size w5 v ∧ v.heap[w5.heap.size]? = some (.cells #[.int .i64 (ns : Int), .int .i64 r, .slice (some ⟨g5, o5, none⟩) N c5] 29 (0, 0))) ⟨(by repeat (first | exact Below.refl _ _ | (with_reducible assumption) | refine bw_alloc ?_ _ | refine bw_drew ?_)), hS⟩ ?_
  intro W6 ⟨hl6, hs6⟩
  have HL6 := Lib.hid hl6
  have HS6 := Lib.hid hs6
  have z0 : W6.cell? ⟨w5.heap.size, 0, none⟩ = some (.int .i64 (ns : Int)) := by rw [blk_cell hs6]; rfl
  have CN := Lib.hid (cnew_some ns (by omega) W6)
  clear hs6 hl6 hS C d0 d1 d2 HL1 HL2
  go_upto_region 6 with (go_at_call 10; (refine (CN.out).mono ?_); rintro e w6 ⟨b, rr, rfl, hc, hb, hrr, b6⟩; have HC := Lib.hid hc; have HLB := Lib.hid (Nat.lt_of_lt_of_le (lt_of_block HS6.out) hb); have HLR := Lib.hid (Nat.lt_of_lt_of_le (lt_of_block HS6.out) hrr); have HS7 := Lib.hid (kept_obj b6 HS6.out); have HL7 := Lib.hid (below_up HL6.out b6); clear hc hb hrr b6)
  clear CN z0 HL6 HS6
  go_upto_region 7 with fail
  refine gen_world (TickAt 63 2 w5 (ns : Int) r (some ⟨g5, o5, none⟩) N c5 b rr ns (fun _ => 0) w6.heap.size (fun _ => noWork)) (TickAt.new HL7.out HS7.out HC.out HLB.out HLR.out ((Below.refl _ _).alloc (Nat.le_refl _) _) (arr_new2 _ _)) ?_
  intro W8 hw8
  have H8 := Lib.hid hw8
  clear hw8 HL7 HS7
  go_wp2
  go_loopw [9, 10] (fun u v wr => ∃ (i : Nat) (Lc : Nat → Int) (ff : Nat → WK), i ≤ 60 ∧ u = .int .i64 i ∧ Hid (TickAt 63 2 w5 (ns : Int) r (some ⟨g5, o5, none⟩) N c5 b rr ns Lc w6.heap.size ff wr) ∧ Hid (∀ k, k < 2 → Inv r i (ff k))) (fun u _ _ => (60 - intOf u).toNat)
  case atStart => exact ⟨0, _, _, by omega, rfl, H8, fun k hk => inv_none r 0⟩
  case round =>
    obtain ⟨i, Lc, ff, hi, rfl, HP, HI⟩ := hrel
    clear H8
    by_cases hlt : i < 60
    · obtain ⟨kb, hkb, hkb2⟩ : ∃ kb, x / 2 ^ i % 2 = kb ∧ kb < 2 := ⟨_, rfl, Nat.mod_lt _ (by omega)⟩
      have hband := bit_and x i hx
      rw [hkb] at hband
      have hi1 : (i : Int) < 60 := by omega
      have hi2 : IntKind.u64.wrap (i : Int) = i := IntWalk.u64_in _ (by omega)
      have hi3 : IntKind.i64.wrap ((kb : Nat) : Int) = (kb : Int) := IntWalk.i64_in _ (by omega)
      have hi4 : IntKind.i64.wrap ((i : Int) + 1) = (i : Int) + 1 := IntWalk.i64_in _ (by omega)
      clear hkb
      have s2 : wr.cell? ⟨w5.heap.size, 2, none⟩ = some (.slice (some ⟨g5, o5, none⟩) N c5) := by rw [blk_cell HP.out.sb]; rfl
      go_upto_if 37 with fail
      go_cut [10] from 37 to 37 (fun u wx => (∃ k : Nat, k < 2 ∧ k < N ∧ u = .int .i64 k) ∧ Hid (TickAt 63 2 w5 (ns : Int) r (some ⟨g5, o5, none⟩) N c5 b rr ns Lc w6.heap.size ff wx))
      case first =>
        by_cases hge : (N : Int) ≤ (kb : Int)
        · go_wp2_with fail
          go_meet
          exact ⟨⟨0, by omega, hN1, rfl⟩, HP⟩
        · go_wp2_with fail
          go_meet
          exact ⟨⟨kb, hkb2, by omega, rfl⟩, HP⟩
      case rest =>
        obtain ⟨⟨k, hk2, hkN, rfl⟩, HP1⟩ := hcut
        clear HP s2 hkb2 hband hi2 hi3
        have HIK := Lib.hid (HI.out k hk2)
        obtain ⟨T, hT⟩ := nth_of HT5.out.len hkN
        have HG := Lib.hid (HM.out.good k T hT)
        have HTO := Lib.hid (HT5.out.ok.at_ hT)
        have HVW : Hid (At w5 g5 (o5 + k * 7) T) := by
          obtain ⟨g, o, e, h⟩ := HT5.out.view.at_ hT
          cases e
          exact h
        have hk0 : (0 : Int) ≤ (k : Int) := by omega
        have hk2' : (k : Int) < 2 := by omega
        have hkN' : (k : Int) < (N : Int) := by omega
        obtain ⟨wk, hwk⟩ : ∃ wk, ff k = wk := ⟨_, rfl⟩
        rw [hwk] at HIK
        go_upto_region 13 with fail
        refine gen_world (TickAt 63 2 w5 (ns : Int) r (some ⟨g5, o5, none⟩) N c5 b rr ns Lc w6.heap.size ff) HP1.out ?_
        intro W2 hw2
        have H2 := Lib.hid hw2
        obtain ⟨a0, a1, a2, a3, a4, a5x, a6, a7⟩ := hw2.ar.cells hk2
        rw [hwk] at a0 a1
        clear hw2 HP1 a2 a3 a4 a5x a6 a7
        obtain ⟨q, hq⟩ : ∃ q, decide (wk.dm ≤ wk.dn) = q := ⟨_, rfl⟩
        have HQ := Lib.hid hq
        go_cut [46] from 38 to 46 (fun u wx => u = .bool q ∧ Hid (TickAt 63 2 w5 (ns : Int) r (some ⟨g5, o5, none⟩) N c5 b rr ns Lc w6.heap.size ff wx))
        case first =>
          go_quiet (fail)
          go_wp2_with fail
          go_meet
          exact ⟨rfl, H2.out.below ⟨rfl, rfl, rfl, Nat.le_refl _, fun _ _ => rfl⟩⟩
        case rest =>
          obtain ⟨rfl, H3⟩ := hcut
          clear a0 a1 hq
          have s2 : wc.cell? ⟨w5.heap.size, 2, none⟩ = some (.slice (some ⟨g5, o5, none⟩) N c5) := by rw [blk_cell H3.out.sb]; rfl
          have t1 : wc.cell? ⟨g5, o5 + k * 7 + 1, none⟩ = some (.int .i64 T.c) := kept_cellB H3.out.low (block_of_cell HVW.out.c1) HVW.out.c1
          obtain ⟨a0, a1, a2, a3, a4, a5', a6, a7⟩ := H3.out.ar.cells hk2
          have f0 := H3.out.ar.free (k * 8)
          have f1 := H3.out.ar.free (k * 8 + 1)
          have f2 := H3.out.ar.free (k * 8 + 2)
          have f3 := H3.out.ar.free (k * 8 + 3)
          have f4 := H3.out.ar.free (k * 8 + 4)
          have f5 := H3.out.ar.free (k * 8 + 5)
          have f6 := H3.out.ar.free (k * 8 + 6)
          have f7 := H3.out.ar.free (k * 8 + 7)
          go_upto_if 46 with fail
          go_cut [] from 47 to 55 (fun wx => ∃ f' : Nat → WK, Hid (TickAt 63 2 w5 (ns : Int) r (some ⟨g5, o5, none⟩) N c5 b rr ns Lc w6.heap.size f' wx) ∧ Hid (∀ j, j < 2 → Inv r i (f' j)) ∧ Hid ((f' k).dn < (f' k).dm))
          case first =>
            cases q with
            | false =>
              go_wp2_with fail
              go_meet
              exact ⟨ff, H3, HI, by have := of_decide_eq_false HQ.out; show (ff k).dn < (ff k).dm; rw [hwk]; omega⟩
            | true =>
              go_wp2_with fail
              go_meet
              refine ⟨setW ff k (freshW T.c), ?_, ?_, ?_⟩
              · have := H3.out.set hk2 (freshW T.c)
                unfold freshW at this
                dsimp only at this
                rw [wd_false, wd_false, wd_false, wd_false] at this
                exact this
              · intro j hj
                unfold setW
                split
                · exact inv_fresh r i (by have := HG.out.c1; omega) (by have := HG.out.cd; have := HG.out.dt; have := HG.out.t24; omega)
                · exact HI.out j hj
              · show (setW ff k (freshW T.c) k).dn < (setW ff k (freshW T.c) k).dm
                rw [setW_at]
                show (0 : Int) < T.c
                have := HG.out.c1; omega
          case rest =>
            obtain ⟨f', H4, HI4, HL4⟩ := hcut
            have HIK4 := Lib.hid (HI4.out k hk2)
            obtain ⟨⟨dn, dm, db, rl, p⟩, hw4⟩ : ∃ w4, f' k = w4 := ⟨_, rfl⟩
            have HW4 := Lib.hid hw4
            have hfit : Fits T.id r ⟨dn, dm, db, rl, p⟩ := ⟨⟨by have := HG.out.id; omega, by have := HG.out.id; omega⟩, by omega, by omega, by have := HIK4.out.d0; rw [hw4] at this; exact this, by have := HL4.out; rw [hw4] at this; exact this, by have := HIK4.out.b0; rw [hw4] at this; exact this⟩
            obtain ⟨hv0, hv1, hv2, hv3, hv4, hv5, hv6⟩ : Inv r i ⟨dn, dm, db, rl, p⟩ := by have := HIK4.out; rw [hw4] at this; exact this
            dsimp only at hv0 hv1 hv2 hv3 hv4 hv5 hv6
            obtain ⟨dn', db', rl', p', q', hst, hfa⟩ := tick_facts (n := ns) (L := Lc) (s := (accOf T dn).1) (u := (accOf T dn).2) hfit hv5 (by show rl ≤ _; omega)
            have ST := Lib.hid (fun w (hw : Below wc.heap.size wc w) => cstep_any T r dn dm db rl p w (H4.out.ch.below hw) (HTO.out.below (H4.out.low.trans (hw.mono H4.out.low.size))) (by omega) (by omega))
            rw [hst] at ST
            unfold StepBack at ST
            dsimp only at ST hfa
            generalize stepL ns Lc T.id (accOf T dn).1 (accOf T dn).2 r ⟨dn, dm, db, rl, p⟩ = Lc' at ST
            have HFA := Lib.hid hfa
            have MK : Hid (∀ w', Turn (fun k => k = rr) wc w' → (w'.cell? ⟨w5.heap.size, 1, none⟩ = some (.int .i64 r) ∧ w'.cell? ⟨w5.heap.size, 2, none⟩ = some (.slice (some ⟨g5, o5, none⟩) N c5) ∧ w'.cell? ⟨g5, o5 + k * 7, none⟩ = some (.int .i64 T.id) ∧ w'.cell? ⟨g5, o5 + k * 7 + 1, none⟩ = some (.int .i64 T.c) ∧ w'.cell? ⟨g5, o5 + k * 7 + 2, none⟩ = some (.int .i64 T.d) ∧ w'.cell? ⟨g5, o5 + k * 7 + 3, none⟩ = some (.int .i64 T.t) ∧ w'.cell? ⟨g5, o5 + k * 7 + 4, none⟩ = some (.int .i64 T.p) ∧ w'.cell? ⟨g5, o5 + k * 7 + 5, none⟩ = some (.slice T.a1 T.ch.length T.c1) ∧ w'.cell? ⟨g5, o5 + k * 7 + 6, none⟩ = some (.slice T.a2 T.us.length T.c2) ∧ w'.cell? ⟨w6.heap.size, k * 8, none⟩ = some (.int .i64 dn) ∧ w'.cell? ⟨w6.heap.size, k * 8 + 1, none⟩ = some (.int .i64 dm) ∧ w'.cell? ⟨w6.heap.size, k * 8 + 2, none⟩ = some (.int .i64 db) ∧ w'.cell? ⟨w6.heap.size, k * 8 + 3, none⟩ = some (.int .i64 rl) ∧ w'.cell? ⟨w6.heap.size, k * 8 + 4, none⟩ = some (.int .u64 (wd p 0)) ∧ w'.cell? ⟨w6.heap.size, k * 8 + 5, none⟩ = some (.int .u64 (wd p 1)) ∧ w'.cell? ⟨w6.heap.size, k * 8 + 6, none⟩ = some (.int .u64 (wd p 2)) ∧ w'.cell? ⟨w6.heap.size, k * 8 + 7, none⟩ = some (.int .u64 (wd p 3)))) := fun w' ht => by
              have hsb := ht.obj H4.out.sb (Nat.ne_of_lt H4.out.lr)
              have hlow := H4.out.low.trans (ht.below (B := w5.heap.size) H4.out.low.size (fun i q => by subst q; exact Nat.le_of_lt H4.out.lr))
              obtain ⟨x0, x1, x2, x3, x4, x5, x6⟩ := HVW.out
              obtain ⟨y0, y1, y2, y3, y4, y5, y6, y7⟩ := (H4.out.ar.turn ht H4.out.gr).cells hk2
              rw [hw4] at y0 y1 y2 y3 y4 y5 y6 y7
              exact ⟨by rw [blk_cell hsb]; rfl, by rw [blk_cell hsb]; rfl, kept_cellB hlow (block_of_cell x0) x0, kept_cellB hlow (block_of_cell x1) x1, kept_cellB hlow (block_of_cell x2) x2, kept_cellB hlow (block_of_cell x3) x3, kept_cellB hlow (block_of_cell x4) x4, kept_cellB hlow (block_of_cell x5) x5, kept_cellB hlow (block_of_cell x6) x6, y0, y1, y2, y3, y4, y5, y6, y7⟩
            clear hst hfa a0 a1 a2 a3 a4 a5' a6 a7 f0 f1 f2 f3 f4 f5 f6 f7 s2 t1 H3 HIK4 HI
            have tb := Turn.refl (fun k => k = rr) wc
            have bb := Below.refl wc.heap.size wc
            have HNE : Hid (wc.heap.size ≠ rr) := by have := H4.out.ch.lt.2; show _ ≠ _; omega
            go_upto_region 15 with fail
            go_cut [11, 12] from 56 to 70 (fun u v wx => ∃ gx : Nat, u = .pointer (some ⟨gx, 0, none⟩) ∧ v = .bool q' ∧ Hid (TickAt 63 2 w5 (ns : Int) r (some ⟨g5, o5, none⟩) N c5 b rr ns Lc' w6.heap.size f' wx) ∧ Hid (wx.heap[gx]? = some (.cells #[.int .i64 dn', .int .i64 dm, .int .i64 db', .int .i64 rl', .int .u64 (wd p' 0), .int .u64 (wd p' 1), .int .u64 (wd p' 2), .int .u64 (wd p' 3)] WT (0, 0))))
            case first =>
              go_region_held3 (fun w' => w'.cell? ⟨w5.heap.size, 1, none⟩ = some (.int .i64 r) ∧ w'.cell? ⟨w5.heap.size, 2, none⟩ = some (.slice (some ⟨g5, o5, none⟩) N c5) ∧ w'.cell? ⟨g5, o5 + k * 7, none⟩ = some (.int .i64 T.id) ∧ w'.cell? ⟨g5, o5 + k * 7 + 1, none⟩ = some (.int .i64 T.c) ∧ w'.cell? ⟨g5, o5 + k * 7 + 2, none⟩ = some (.int .i64 T.d) ∧ w'.cell? ⟨g5, o5 + k * 7 + 3, none⟩ = some (.int .i64 T.t) ∧ w'.cell? ⟨g5, o5 + k * 7 + 4, none⟩ = some (.int .i64 T.p) ∧ w'.cell? ⟨g5, o5 + k * 7 + 5, none⟩ = some (.slice T.a1 T.ch.length T.c1) ∧ w'.cell? ⟨g5, o5 + k * 7 + 6, none⟩ = some (.slice T.a2 T.us.length T.c2) ∧ w'.cell? ⟨w6.heap.size, k * 8, none⟩ = some (.int .i64 dn) ∧ w'.cell? ⟨w6.heap.size, k * 8 + 1, none⟩ = some (.int .i64 dm) ∧ w'.cell? ⟨w6.heap.size, k * 8 + 2, none⟩ = some (.int .i64 db) ∧ w'.cell? ⟨w6.heap.size, k * 8 + 3, none⟩ = some (.int .i64 rl) ∧ w'.cell? ⟨w6.heap.size, k * 8 + 4, none⟩ = some (.int .u64 (wd p 0)) ∧ w'.cell? ⟨w6.heap.size, k * 8 + 5, none⟩ = some (.int .u64 (wd p 1)) ∧ w'.cell? ⟨w6.heap.size, k * 8 + 6, none⟩ = some (.int .u64 (wd p 2)) ∧ w'.cell? ⟨w6.heap.size, k * 8 + 7, none⟩ = some (.int .u64 (wd p 3))) (exact MK.out _ (by repeat (first | (with_reducible assumption) | (with_reducible refine Turn.drew ?_) | (with_reducible refine Turn.alloc ?_ _) | with_reducible refine Turn.setCell ?_ (fun q => absurd q (Nat.lt_irrefl _)) _))) (first | (go_at_call 16; (with_reducible refine (ST.out _ (by repeat (first | (with_reducible assumption) | refine Below.drew ?_ | refine Below.alloc ?_ (by first | omega | (simp; omega)) _))).mono ?_); rintro e wx ⟨rfl, hcx, htx⟩; have tx := Turn.then ((by repeat (first | (with_reducible assumption) | (with_reducible refine Turn.drew ?_) | (with_reducible refine Turn.alloc ?_ _) | with_reducible refine Turn.setCell ?_ (fun q => absurd q (Nat.lt_irrefl _)) _)) : Turn (fun k => k = rr) wc _) htx; have HCX := Lib.hid hcx; (try (have hq : wx.heap[wc.heap.size]? = _ := htx.obj (heap_alloc_new wc.drew _) HNE.out; have FB := Lib.hid (H4.out.put tx hcx hq (.int .i64 dn') (.int .i64 dm) (.int .i64 db') (.int .i64 rl') (.int .u64 (wd p' 0)) (.int .u64 (wd p' 1)) (.int .u64 (wd p' 2)) (.int .u64 (wd p' 3))); have p0 : wx.cell? ⟨wc.heap.size, 0, none⟩ = some (.int .i64 0) := (by rw [blk_cell hq]; rfl); have p1 : wx.cell? ⟨wc.heap.size, 1, none⟩ = some (.int .i64 0) := (by rw [blk_cell hq]; rfl); have p2 : wx.cell? ⟨wc.heap.size, 2, none⟩ = some (.int .i64 0) := (by rw [blk_cell hq]; rfl); have p3 : wx.cell? ⟨wc.heap.size, 3, none⟩ = some (.int .i64 0) := (by rw [blk_cell hq]; rfl); have p4 : wx.cell? ⟨wc.heap.size, 4, none⟩ = some (.int .u64 0) := (by rw [blk_cell hq]; rfl); have p5 : wx.cell? ⟨wc.heap.size, 5, none⟩ = some (.int .u64 0) := (by rw [blk_cell hq]; rfl); have p6 : wx.cell? ⟨wc.heap.size, 6, none⟩ = some (.int .u64 0) := (by rw [blk_cell hq]; rfl); have p7 : wx.cell? ⟨wc.heap.size, 7, none⟩ = some (.int .u64 0) := (by rw [blk_cell hq]; rfl); have fp0 : wx.frozen? ⟨wc.heap.size, 0, none⟩ = false := blk_free hq 0; have fp1 : wx.frozen? ⟨wc.heap.size, 1, none⟩ = false := blk_free hq 1; have fp2 : wx.frozen? ⟨wc.heap.size, 2, none⟩ = false := blk_free hq 2; have fp3 : wx.frozen? ⟨wc.heap.size, 3, none⟩ = false := blk_free hq 3; have fp4 : wx.frozen? ⟨wc.heap.size, 4, none⟩ = false := blk_free hq 4; have fp5 : wx.frozen? ⟨wc.heap.size, 5, none⟩ = false := blk_free hq 5; have fp6 : wx.frozen? ⟨wc.heap.size, 6, none⟩ = false := blk_free hq 6; have fp7 : wx.frozen? ⟨wc.heap.size, 7, none⟩ = false := blk_free hq 7; clear hq)); clear hcx htx))
              all_goals
                go_wp2_with fail
                go_meet
                first
                  | (have FB2 := FB
                     refine ⟨wc.heap.size, rfl, rfl, ?_, ?_⟩
                     · with_reducible exact Lib.hid FB2.out.1
                     · with_reducible exact Lib.hid FB2.out.2)
                  | (refine ⟨wx.heap.size, rfl, rfl, ?_, ?_⟩
                     · with_reducible exact Lib.hid (TickAt.below (H4.out.turn tx HCX.out) (bw_alloc (Below.refl _ _) _))
                     · with_reducible exact Lib.hid (heap_alloc_new wx _))
            case rest =>
              obtain ⟨gx, rfl, rfl, H5, HX⟩ := hcut
              clear MK ST tb bb HNE H4
              have e9 : IntKind.i64.wrap 1 = 1 := rfl
              have e2 : IntKind.i64.wrap (dn + 1 - dn) = 1 := by rw [show dn + 1 - dn = 1 by omega]; rfl
              rcases HFA.out with ⟨rfl, h1, h2, h3, h4⟩ | ⟨rfl, h1, h2, h3, h4⟩ | ⟨rfl, h1, h2, h3, h4, h5⟩
              · have HINV : Hid (Inv r (i + 1) ⟨dn', dm, db', rl', p'⟩) := ⟨by show 0 ≤ dn'; omega, by show dn' ≤ dm; have := hfit.2.2.2.2.1; dsimp only at this; omega, hv2, by show 0 ≤ db'; omega, .inl h2, by show 0 ≤ rl'; omega, by show rl' ≤ ((i + 1 : Nat) : Int); omega⟩
                have d1 : IntKind.i64.wrap (dn' - dn) = 1 := by rw [show dn' - dn = 1 by omega]; rfl
                have d2 : IntKind.i64.wrap (rl' - rl) = 0 := by rw [show rl' - rl = 0 by omega]; rfl
                have d3 : (db' != 0) = false := by rw [h2]; rfl
                have d4 : ¬ r < db' := by omega
                clear h1 h2 h3 h4 hfit HFA e2
                go_upto_region 16 with fail
                have x0 : wc.cell? ⟨gx, 0, none⟩ = some (.int .i64 dn') := by rw [blk_cell HX.out]; rfl
                have x1 : wc.cell? ⟨gx, 1, none⟩ = some (.int .i64 dm) := by rw [blk_cell HX.out]; rfl
                have x2 : wc.cell? ⟨gx, 2, none⟩ = some (.int .i64 db') := by rw [blk_cell HX.out]; rfl
                have x3 : wc.cell? ⟨gx, 3, none⟩ = some (.int .i64 rl') := by rw [blk_cell HX.out]; rfl
                have x4 : wc.cell? ⟨gx, 4, none⟩ = some (.int .u64 (wd p' 0)) := by rw [blk_cell HX.out]; rfl
                have x5 : wc.cell? ⟨gx, 5, none⟩ = some (.int .u64 (wd p' 1)) := by rw [blk_cell HX.out]; rfl
                have x6 : wc.cell? ⟨gx, 6, none⟩ = some (.int .u64 (wd p' 2)) := by rw [blk_cell HX.out]; rfl
                have x7 : wc.cell? ⟨gx, 7, none⟩ = some (.int .u64 (wd p' 3)) := by rw [blk_cell HX.out]; rfl
                obtain ⟨a0, a1, a2, a3, a4, a5', a6, a7⟩ := H5.out.ar.cells hk2
                rw [hw4] at a0 a1 a2 a3 a4 a5' a6 a7
                have s1 : wc.cell? ⟨w5.heap.size, 1, none⟩ = some (.int .i64 r) := by rw [blk_cell H5.out.sb]; rfl
                go_quiet (fail)
                go_upto_region 17 with fail
                refine gen_world (fun w => TickAt 63 2 w5 (ns : Int) r (some ⟨g5, o5, none⟩) N c5 b rr ns Lc' w6.heap.size f' w ∧ w.heap[gx]? = some (.cells #[.int .i64 dn', .int .i64 dm, .int .i64 db', .int .i64 rl', .int .u64 (wd p' 0), .int .u64 (wd p' 1), .int .u64 (wd p' 2), .int .u64 (wd p' 3)] WT (0, 0))) ⟨H5.out.below ⟨rfl, rfl, rfl, Nat.le_refl _, fun _ _ => rfl⟩, kept_obj (w := _) ⟨rfl, rfl, rfl, Nat.le_refl _, fun _ _ => rfl⟩ HX.out⟩ ?_
                intro V1 ⟨h9, hx9⟩
                have H6 := Lib.hid h9
                have HX6 := Lib.hid hx9
                clear h9 hx9
                have x0 : V1.cell? ⟨gx, 0, none⟩ = some (.int .i64 dn') := by rw [blk_cell HX6.out]; rfl
                have x1 : V1.cell? ⟨gx, 1, none⟩ = some (.int .i64 dm) := by rw [blk_cell HX6.out]; rfl
                have x2 : V1.cell? ⟨gx, 2, none⟩ = some (.int .i64 db') := by rw [blk_cell HX6.out]; rfl
                have x3 : V1.cell? ⟨gx, 3, none⟩ = some (.int .i64 rl') := by rw [blk_cell HX6.out]; rfl
                have x4 : V1.cell? ⟨gx, 4, none⟩ = some (.int .u64 (wd p' 0)) := by rw [blk_cell HX6.out]; rfl
                have x5 : V1.cell? ⟨gx, 5, none⟩ = some (.int .u64 (wd p' 1)) := by rw [blk_cell HX6.out]; rfl
                have x6 : V1.cell? ⟨gx, 6, none⟩ = some (.int .u64 (wd p' 2)) := by rw [blk_cell HX6.out]; rfl
                have x7 : V1.cell? ⟨gx, 7, none⟩ = some (.int .u64 (wd p' 3)) := by rw [blk_cell HX6.out]; rfl
                obtain ⟨a0, a1, a2, a3, a4, a5', a6, a7⟩ := H6.out.ar.cells hk2
                rw [hw4] at a0 a1 a2 a3 a4 a5' a6 a7
                have s1 : V1.cell? ⟨w5.heap.size, 1, none⟩ = some (.int .i64 r) := by rw [blk_cell H6.out.sb]; rfl
                go_quiet (fail)
                go_upto_region 18 with fail
                refine gen_world (fun w => TickAt 63 2 w5 (ns : Int) r (some ⟨g5, o5, none⟩) N c5 b rr ns Lc' w6.heap.size f' w ∧ w.heap[gx]? = some (.cells #[.int .i64 dn', .int .i64 dm, .int .i64 db', .int .i64 rl', .int .u64 (wd p' 0), .int .u64 (wd p' 1), .int .u64 (wd p' 2), .int .u64 (wd p' 3)] WT (0, 0))) ⟨H6.out.below ⟨rfl, rfl, rfl, Nat.le_refl _, fun _ _ => rfl⟩, kept_obj (w := _) ⟨rfl, rfl, rfl, Nat.le_refl _, fun _ _ => rfl⟩ HX6.out⟩ ?_
                intro V2 ⟨h9, hx9⟩
                have H7 := Lib.hid h9
                have HX7 := Lib.hid hx9
                clear h9 hx9
                have x0 : V2.cell? ⟨gx, 0, none⟩ = some (.int .i64 dn') := by rw [blk_cell HX7.out]; rfl
                have x1 : V2.cell? ⟨gx, 1, none⟩ = some (.int .i64 dm) := by rw [blk_cell HX7.out]; rfl
                have x2 : V2.cell? ⟨gx, 2, none⟩ = some (.int .i64 db') := by rw [blk_cell HX7.out]; rfl
                have x3 : V2.cell? ⟨gx, 3, none⟩ = some (.int .i64 rl') := by rw [blk_cell HX7.out]; rfl
                have x4 : V2.cell? ⟨gx, 4, none⟩ = some (.int .u64 (wd p' 0)) := by rw [blk_cell HX7.out]; rfl
                have x5 : V2.cell? ⟨gx, 5, none⟩ = some (.int .u64 (wd p' 1)) := by rw [blk_cell HX7.out]; rfl
                have x6 : V2.cell? ⟨gx, 6, none⟩ = some (.int .u64 (wd p' 2)) := by rw [blk_cell HX7.out]; rfl
                have x7 : V2.cell? ⟨gx, 7, none⟩ = some (.int .u64 (wd p' 3)) := by rw [blk_cell HX7.out]; rfl
                obtain ⟨a0, a1, a2, a3, a4, a5', a6, a7⟩ := H7.out.ar.cells hk2
                rw [hw4] at a0 a1 a2 a3 a4 a5' a6 a7
                have s1 : V2.cell? ⟨w5.heap.size, 1, none⟩ = some (.int .i64 r) := by rw [blk_cell H7.out.sb]; rfl
                clear x0 x3 x4 x5 x6 x7 a0 a3 a4 a5' a6 a7
                simp only [List.append]
                refine wp_region_still_tail 70 (by kernel_rfl) (by kernel_rfl) ?_
                simp only [List.take_succ_cons, List.take_zero, List.drop_succ_cons, List.drop_zero]
                iterate 70 ((with_reducible refine wpStill_step (fun K hK => ?_)); go_simp; (with_reducible refine hK _ ?_); clear hK K)
                with_reducible refine wpStill_nil ?_
                go_upto_region 20 with fail
                refine gen_world (fun w => TickAt 63 2 w5 (ns : Int) r (some ⟨g5, o5, none⟩) N c5 b rr ns Lc' w6.heap.size f' w ∧ w.heap[gx]? = some (.cells #[.int .i64 dn', .int .i64 dm, .int .i64 db', .int .i64 rl', .int .u64 (wd p' 0), .int .u64 (wd p' 1), .int .u64 (wd p' 2), .int .u64 (wd p' 3)] WT (0, 0))) ⟨H7.out.below ⟨rfl, rfl, rfl, Nat.le_refl _, fun _ _ => rfl⟩, kept_obj (w := _) ⟨rfl, rfl, rfl, Nat.le_refl _, fun _ _ => rfl⟩ HX7.out⟩ ?_
                intro V3 ⟨h9, hx9⟩
                have H8 := Lib.hid h9
                have HX8 := Lib.hid hx9
                clear h9 hx9
                have x0 : V3.cell? ⟨gx, 0, none⟩ = some (.int .i64 dn') := by rw [blk_cell HX8.out]; rfl
                have x1 : V3.cell? ⟨gx, 1, none⟩ = some (.int .i64 dm) := by rw [blk_cell HX8.out]; rfl
                have x2 : V3.cell? ⟨gx, 2, none⟩ = some (.int .i64 db') := by rw [blk_cell HX8.out]; rfl
                have x3 : V3.cell? ⟨gx, 3, none⟩ = some (.int .i64 rl') := by rw [blk_cell HX8.out]; rfl
                have x4 : V3.cell? ⟨gx, 4, none⟩ = some (.int .u64 (wd p' 0)) := by rw [blk_cell HX8.out]; rfl
                have x5 : V3.cell? ⟨gx, 5, none⟩ = some (.int .u64 (wd p' 1)) := by rw [blk_cell HX8.out]; rfl
                have x6 : V3.cell? ⟨gx, 6, none⟩ = some (.int .u64 (wd p' 2)) := by rw [blk_cell HX8.out]; rfl
                have x7 : V3.cell? ⟨gx, 7, none⟩ = some (.int .u64 (wd p' 3)) := by rw [blk_cell HX8.out]; rfl
                obtain ⟨a0, a1, a2, a3, a4, a5', a6, a7⟩ := H8.out.ar.cells hk2
                rw [hw4] at a0 a1 a2 a3 a4 a5' a6 a7
                have s1 : V3.cell? ⟨w5.heap.size, 1, none⟩ = some (.int .i64 r) := by rw [blk_cell H8.out.sb]; rfl
                have g0 := H8.out.ar.free (k * 8)
                have g1 := H8.out.ar.free (k * 8 + 1)
                have g2 := H8.out.ar.free (k * 8 + 2)
                have g3 := H8.out.ar.free (k * 8 + 3)
                have g4 := H8.out.ar.free (k * 8 + 4)
                have g5 := H8.out.ar.free (k * 8 + 5)
                have g6 := H8.out.ar.free (k * 8 + 6)
                have g7 := H8.out.ar.free (k * 8 + 7)
                have HSET := Lib.hid (H8.out.set hk2 ⟨dn', dm, db', rl', p'⟩)
                go_wp2_with fail
                go_roundw
                case rel =>
                  refine ⟨i + 1, Lc', setW f' k ⟨dn', dm, db', rl', p'⟩, by omega, by go_num, HSET, fun j hj => ?_⟩
                  unfold setW
                  split
                  · exact HINV.out
                  · exact (HI4.out j hj).up
                case measure => simp [intOf]; omega
              · have HINV : Hid (Inv r (i + 1) ⟨dn', dm, db', rl', p'⟩) := ⟨by show 0 ≤ dn'; omega, by show dn' ≤ dm; omega, hv2, by show 0 ≤ db'; omega, .inr (by show db' < r; rcases hv4 with q | q <;> omega), by show 0 ≤ rl'; omega, by show rl' ≤ ((i + 1 : Nat) : Int); omega⟩
                have d1 : IntKind.i64.wrap (dn' - dn) = 0 := by rw [show dn' - dn = 0 by omega]; rfl
                have d2 : IntKind.i64.wrap (rl' - rl) = 1 := by rw [show rl' - rl = 1 by omega]; rfl
                have d3 : IntKind.i64.wrap (db - 1) = db' := by rw [h4]; exact IntWalk.i64_in _ (by omega)
                have d4 : ¬ r < db' := by rcases hv4 with q | q <;> omega
                have d5 : (r == 0) = false := by rw [beq_eq_false_iff_ne]; rcases hv4 with q | q <;> omega
                clear h1 h2 h4 hfit HFA e2
                go_upto_region 16 with fail
                have x0 : wc.cell? ⟨gx, 0, none⟩ = some (.int .i64 dn') := by rw [blk_cell HX.out]; rfl
                have x1 : wc.cell? ⟨gx, 1, none⟩ = some (.int .i64 dm) := by rw [blk_cell HX.out]; rfl
                have x2 : wc.cell? ⟨gx, 2, none⟩ = some (.int .i64 db') := by rw [blk_cell HX.out]; rfl
                have x3 : wc.cell? ⟨gx, 3, none⟩ = some (.int .i64 rl') := by rw [blk_cell HX.out]; rfl
                have x4 : wc.cell? ⟨gx, 4, none⟩ = some (.int .u64 (wd p' 0)) := by rw [blk_cell HX.out]; rfl
                have x5 : wc.cell? ⟨gx, 5, none⟩ = some (.int .u64 (wd p' 1)) := by rw [blk_cell HX.out]; rfl
                have x6 : wc.cell? ⟨gx, 6, none⟩ = some (.int .u64 (wd p' 2)) := by rw [blk_cell HX.out]; rfl
                have x7 : wc.cell? ⟨gx, 7, none⟩ = some (.int .u64 (wd p' 3)) := by rw [blk_cell HX.out]; rfl
                obtain ⟨a0, a1, a2, a3, a4, a5', a6, a7⟩ := H5.out.ar.cells hk2
                rw [hw4] at a0 a1 a2 a3 a4 a5' a6 a7
                have s1 : wc.cell? ⟨w5.heap.size, 1, none⟩ = some (.int .i64 r) := by rw [blk_cell H5.out.sb]; rfl
                go_quiet (fail)
                go_upto_region 17 with fail
                refine gen_world (fun w => TickAt 63 2 w5 (ns : Int) r (some ⟨g5, o5, none⟩) N c5 b rr ns Lc' w6.heap.size f' w ∧ w.heap[gx]? = some (.cells #[.int .i64 dn', .int .i64 dm, .int .i64 db', .int .i64 rl', .int .u64 (wd p' 0), .int .u64 (wd p' 1), .int .u64 (wd p' 2), .int .u64 (wd p' 3)] WT (0, 0))) ⟨H5.out.below ⟨rfl, rfl, rfl, Nat.le_refl _, fun _ _ => rfl⟩, kept_obj (w := _) ⟨rfl, rfl, rfl, Nat.le_refl _, fun _ _ => rfl⟩ HX.out⟩ ?_
                intro V1 ⟨h9, hx9⟩
                have H6 := Lib.hid h9
                have HX6 := Lib.hid hx9
                clear h9 hx9
                have x0 : V1.cell? ⟨gx, 0, none⟩ = some (.int .i64 dn') := by rw [blk_cell HX6.out]; rfl
                have x1 : V1.cell? ⟨gx, 1, none⟩ = some (.int .i64 dm) := by rw [blk_cell HX6.out]; rfl
                have x2 : V1.cell? ⟨gx, 2, none⟩ = some (.int .i64 db') := by rw [blk_cell HX6.out]; rfl
                have x3 : V1.cell? ⟨gx, 3, none⟩ = some (.int .i64 rl') := by rw [blk_cell HX6.out]; rfl
                have x4 : V1.cell? ⟨gx, 4, none⟩ = some (.int .u64 (wd p' 0)) := by rw [blk_cell HX6.out]; rfl
                have x5 : V1.cell? ⟨gx, 5, none⟩ = some (.int .u64 (wd p' 1)) := by rw [blk_cell HX6.out]; rfl
                have x6 : V1.cell? ⟨gx, 6, none⟩ = some (.int .u64 (wd p' 2)) := by rw [blk_cell HX6.out]; rfl
                have x7 : V1.cell? ⟨gx, 7, none⟩ = some (.int .u64 (wd p' 3)) := by rw [blk_cell HX6.out]; rfl
                obtain ⟨a0, a1, a2, a3, a4, a5', a6, a7⟩ := H6.out.ar.cells hk2
                rw [hw4] at a0 a1 a2 a3 a4 a5' a6 a7
                have s1 : V1.cell? ⟨w5.heap.size, 1, none⟩ = some (.int .i64 r) := by rw [blk_cell H6.out.sb]; rfl
                go_quiet (fail)
                go_upto_region 18 with fail
                refine gen_world (fun w => TickAt 63 2 w5 (ns : Int) r (some ⟨g5, o5, none⟩) N c5 b rr ns Lc' w6.heap.size f' w ∧ w.heap[gx]? = some (.cells #[.int .i64 dn', .int .i64 dm, .int .i64 db', .int .i64 rl', .int .u64 (wd p' 0), .int .u64 (wd p' 1), .int .u64 (wd p' 2), .int .u64 (wd p' 3)] WT (0, 0))) ⟨H6.out.below ⟨rfl, rfl, rfl, Nat.le_refl _, fun _ _ => rfl⟩, kept_obj (w := _) ⟨rfl, rfl, rfl, Nat.le_refl _, fun _ _ => rfl⟩ HX6.out⟩ ?_
                intro V2 ⟨h9, hx9⟩
                have H7 := Lib.hid h9
                have HX7 := Lib.hid hx9
                clear h9 hx9
                have x0 : V2.cell? ⟨gx, 0, none⟩ = some (.int .i64 dn') := by rw [blk_cell HX7.out]; rfl
                have x1 : V2.cell? ⟨gx, 1, none⟩ = some (.int .i64 dm) := by rw [blk_cell HX7.out]; rfl
                have x2 : V2.cell? ⟨gx, 2, none⟩ = some (.int .i64 db') := by rw [blk_cell HX7.out]; rfl
                have x3 : V2.cell? ⟨gx, 3, none⟩ = some (.int .i64 rl') := by rw [blk_cell HX7.out]; rfl
                have x4 : V2.cell? ⟨gx, 4, none⟩ = some (.int .u64 (wd p' 0)) := by rw [blk_cell HX7.out]; rfl
                have x5 : V2.cell? ⟨gx, 5, none⟩ = some (.int .u64 (wd p' 1)) := by rw [blk_cell HX7.out]; rfl
                have x6 : V2.cell? ⟨gx, 6, none⟩ = some (.int .u64 (wd p' 2)) := by rw [blk_cell HX7.out]; rfl
                have x7 : V2.cell? ⟨gx, 7, none⟩ = some (.int .u64 (wd p' 3)) := by rw [blk_cell HX7.out]; rfl
                obtain ⟨a0, a1, a2, a3, a4, a5', a6, a7⟩ := H7.out.ar.cells hk2
                rw [hw4] at a0 a1 a2 a3 a4 a5' a6 a7
                have s1 : V2.cell? ⟨w5.heap.size, 1, none⟩ = some (.int .i64 r) := by rw [blk_cell H7.out.sb]; rfl
                clear x0 x3 x4 x5 x6 x7 a0 a3 a4 a5' a6 a7
                simp only [List.append]
                refine wp_region_still_tail 70 (by kernel_rfl) (by kernel_rfl) ?_
                simp only [List.take_succ_cons, List.take_zero, List.drop_succ_cons, List.drop_zero]
                iterate 70 ((with_reducible refine wpStill_step (fun K hK => ?_)); go_simp; (with_reducible refine hK _ ?_); clear hK K)
                with_reducible refine wpStill_nil ?_
                go_upto_region 20 with fail
                refine gen_world (fun w => TickAt 63 2 w5 (ns : Int) r (some ⟨g5, o5, none⟩) N c5 b rr ns Lc' w6.heap.size f' w ∧ w.heap[gx]? = some (.cells #[.int .i64 dn', .int .i64 dm, .int .i64 db', .int .i64 rl', .int .u64 (wd p' 0), .int .u64 (wd p' 1), .int .u64 (wd p' 2), .int .u64 (wd p' 3)] WT (0, 0))) ⟨H7.out.below ⟨rfl, rfl, rfl, Nat.le_refl _, fun _ _ => rfl⟩, kept_obj (w := _) ⟨rfl, rfl, rfl, Nat.le_refl _, fun _ _ => rfl⟩ HX7.out⟩ ?_
                intro V3 ⟨h9, hx9⟩
                have H8 := Lib.hid h9
                have HX8 := Lib.hid hx9
                clear h9 hx9
                have x0 : V3.cell? ⟨gx, 0, none⟩ = some (.int .i64 dn') := by rw [blk_cell HX8.out]; rfl
                have x1 : V3.cell? ⟨gx, 1, none⟩ = some (.int .i64 dm) := by rw [blk_cell HX8.out]; rfl
                have x2 : V3.cell? ⟨gx, 2, none⟩ = some (.int .i64 db') := by rw [blk_cell HX8.out]; rfl
                have x3 : V3.cell? ⟨gx, 3, none⟩ = some (.int .i64 rl') := by rw [blk_cell HX8.out]; rfl
                have x4 : V3.cell? ⟨gx, 4, none⟩ = some (.int .u64 (wd p' 0)) := by rw [blk_cell HX8.out]; rfl
                have x5 : V3.cell? ⟨gx, 5, none⟩ = some (.int .u64 (wd p' 1)) := by rw [blk_cell HX8.out]; rfl
                have x6 : V3.cell? ⟨gx, 6, none⟩ = some (.int .u64 (wd p' 2)) := by rw [blk_cell HX8.out]; rfl
                have x7 : V3.cell? ⟨gx, 7, none⟩ = some (.int .u64 (wd p' 3)) := by rw [blk_cell HX8.out]; rfl
                obtain ⟨a0, a1, a2, a3, a4, a5', a6, a7⟩ := H8.out.ar.cells hk2
                rw [hw4] at a0 a1 a2 a3 a4 a5' a6 a7
                have s1 : V3.cell? ⟨w5.heap.size, 1, none⟩ = some (.int .i64 r) := by rw [blk_cell H8.out.sb]; rfl
                have g0 := H8.out.ar.free (k * 8)
                have g1 := H8.out.ar.free (k * 8 + 1)
                have g2 := H8.out.ar.free (k * 8 + 2)
                have g3 := H8.out.ar.free (k * 8 + 3)
                have g4 := H8.out.ar.free (k * 8 + 4)
                have g5 := H8.out.ar.free (k * 8 + 5)
                have g6 := H8.out.ar.free (k * 8 + 6)
                have g7 := H8.out.ar.free (k * 8 + 7)
                have HSET := Lib.hid (H8.out.set hk2 ⟨dn', dm, db', rl', p'⟩)
                go_wp2_with fail
                go_roundw
                case rel =>
                  refine ⟨i + 1, Lc', setW f' k ⟨dn', dm, db', rl', p'⟩, by omega, by go_num, HSET, fun j hj => ?_⟩
                  unfold setW
                  split
                  · exact HINV.out
                  · exact (HI4.out j hj).up
                case measure => simp [intOf]; omega
              · have HINV : Hid (Inv r (i + 1) ⟨dn', dm, db', rl', p'⟩) := ⟨by show 0 ≤ dn'; omega, by show dn' ≤ dm; omega, hv2, by show 0 ≤ db'; omega, .inr (by show db' < r; omega), by show 0 ≤ rl'; omega, by show rl' ≤ ((i + 1 : Nat) : Int); omega⟩
                have d1 : IntKind.i64.wrap (dn' - dn) = 0 := by rw [show dn' - dn = 0 by omega]; rfl
                have d2 : IntKind.i64.wrap (rl' - rl) = 1 := by rw [show rl' - rl = 1 by omega]; rfl
                have d3 : ¬ 0 < db := by omega
                have d4 : ¬ r < db' := by omega
                have d5 : (r == 0) = false := by rw [beq_eq_false_iff_ne]; omega
                clear h1 h2 h3 h4 h5 hfit HFA e2
                go_upto_region 16 with fail
                have x0 : wc.cell? ⟨gx, 0, none⟩ = some (.int .i64 dn') := by rw [blk_cell HX.out]; rfl
                have x1 : wc.cell? ⟨gx, 1, none⟩ = some (.int .i64 dm) := by rw [blk_cell HX.out]; rfl
                have x2 : wc.cell? ⟨gx, 2, none⟩ = some (.int .i64 db') := by rw [blk_cell HX.out]; rfl
                have x3 : wc.cell? ⟨gx, 3, none⟩ = some (.int .i64 rl') := by rw [blk_cell HX.out]; rfl
                have x4 : wc.cell? ⟨gx, 4, none⟩ = some (.int .u64 (wd p' 0)) := by rw [blk_cell HX.out]; rfl
                have x5 : wc.cell? ⟨gx, 5, none⟩ = some (.int .u64 (wd p' 1)) := by rw [blk_cell HX.out]; rfl
                have x6 : wc.cell? ⟨gx, 6, none⟩ = some (.int .u64 (wd p' 2)) := by rw [blk_cell HX.out]; rfl
                have x7 : wc.cell? ⟨gx, 7, none⟩ = some (.int .u64 (wd p' 3)) := by rw [blk_cell HX.out]; rfl
                obtain ⟨a0, a1, a2, a3, a4, a5', a6, a7⟩ := H5.out.ar.cells hk2
                rw [hw4] at a0 a1 a2 a3 a4 a5' a6 a7
                have s1 : wc.cell? ⟨w5.heap.size, 1, none⟩ = some (.int .i64 r) := by rw [blk_cell H5.out.sb]; rfl
                go_quiet (fail)
                go_upto_region 17 with fail
                refine gen_world (fun w => TickAt 63 2 w5 (ns : Int) r (some ⟨g5, o5, none⟩) N c5 b rr ns Lc' w6.heap.size f' w ∧ w.heap[gx]? = some (.cells #[.int .i64 dn', .int .i64 dm, .int .i64 db', .int .i64 rl', .int .u64 (wd p' 0), .int .u64 (wd p' 1), .int .u64 (wd p' 2), .int .u64 (wd p' 3)] WT (0, 0))) ⟨H5.out.below ⟨rfl, rfl, rfl, Nat.le_refl _, fun _ _ => rfl⟩, kept_obj (w := _) ⟨rfl, rfl, rfl, Nat.le_refl _, fun _ _ => rfl⟩ HX.out⟩ ?_
                intro V1 ⟨h9, hx9⟩
                have H6 := Lib.hid h9
                have HX6 := Lib.hid hx9
                clear h9 hx9
                have x0 : V1.cell? ⟨gx, 0, none⟩ = some (.int .i64 dn') := by rw [blk_cell HX6.out]; rfl
                have x1 : V1.cell? ⟨gx, 1, none⟩ = some (.int .i64 dm) := by rw [blk_cell HX6.out]; rfl
                have x2 : V1.cell? ⟨gx, 2, none⟩ = some (.int .i64 db') := by rw [blk_cell HX6.out]; rfl
                have x3 : V1.cell? ⟨gx, 3, none⟩ = some (.int .i64 rl') := by rw [blk_cell HX6.out]; rfl
                have x4 : V1.cell? ⟨gx, 4, none⟩ = some (.int .u64 (wd p' 0)) := by rw [blk_cell HX6.out]; rfl
                have x5 : V1.cell? ⟨gx, 5, none⟩ = some (.int .u64 (wd p' 1)) := by rw [blk_cell HX6.out]; rfl
                have x6 : V1.cell? ⟨gx, 6, none⟩ = some (.int .u64 (wd p' 2)) := by rw [blk_cell HX6.out]; rfl
                have x7 : V1.cell? ⟨gx, 7, none⟩ = some (.int .u64 (wd p' 3)) := by rw [blk_cell HX6.out]; rfl
                obtain ⟨a0, a1, a2, a3, a4, a5', a6, a7⟩ := H6.out.ar.cells hk2
                rw [hw4] at a0 a1 a2 a3 a4 a5' a6 a7
                have s1 : V1.cell? ⟨w5.heap.size, 1, none⟩ = some (.int .i64 r) := by rw [blk_cell H6.out.sb]; rfl
                go_quiet (fail)
                go_upto_region 18 with fail
                refine gen_world (fun w => TickAt 63 2 w5 (ns : Int) r (some ⟨g5, o5, none⟩) N c5 b rr ns Lc' w6.heap.size f' w ∧ w.heap[gx]? = some (.cells #[.int .i64 dn', .int .i64 dm, .int .i64 db', .int .i64 rl', .int .u64 (wd p' 0), .int .u64 (wd p' 1), .int .u64 (wd p' 2), .int .u64 (wd p' 3)] WT (0, 0))) ⟨H6.out.below ⟨rfl, rfl, rfl, Nat.le_refl _, fun _ _ => rfl⟩, kept_obj (w := _) ⟨rfl, rfl, rfl, Nat.le_refl _, fun _ _ => rfl⟩ HX6.out⟩ ?_
                intro V2 ⟨h9, hx9⟩
                have H7 := Lib.hid h9
                have HX7 := Lib.hid hx9
                clear h9 hx9
                have x0 : V2.cell? ⟨gx, 0, none⟩ = some (.int .i64 dn') := by rw [blk_cell HX7.out]; rfl
                have x1 : V2.cell? ⟨gx, 1, none⟩ = some (.int .i64 dm) := by rw [blk_cell HX7.out]; rfl
                have x2 : V2.cell? ⟨gx, 2, none⟩ = some (.int .i64 db') := by rw [blk_cell HX7.out]; rfl
                have x3 : V2.cell? ⟨gx, 3, none⟩ = some (.int .i64 rl') := by rw [blk_cell HX7.out]; rfl
                have x4 : V2.cell? ⟨gx, 4, none⟩ = some (.int .u64 (wd p' 0)) := by rw [blk_cell HX7.out]; rfl
                have x5 : V2.cell? ⟨gx, 5, none⟩ = some (.int .u64 (wd p' 1)) := by rw [blk_cell HX7.out]; rfl
                have x6 : V2.cell? ⟨gx, 6, none⟩ = some (.int .u64 (wd p' 2)) := by rw [blk_cell HX7.out]; rfl
                have x7 : V2.cell? ⟨gx, 7, none⟩ = some (.int .u64 (wd p' 3)) := by rw [blk_cell HX7.out]; rfl
                obtain ⟨a0, a1, a2, a3, a4, a5', a6, a7⟩ := H7.out.ar.cells hk2
                rw [hw4] at a0 a1 a2 a3 a4 a5' a6 a7
                have s1 : V2.cell? ⟨w5.heap.size, 1, none⟩ = some (.int .i64 r) := by rw [blk_cell H7.out.sb]; rfl
                clear x0 x3 x4 x5 x6 x7 a0 a3 a4 a5' a6 a7
                simp only [List.append]
                refine wp_region_still_tail 70 (by kernel_rfl) (by kernel_rfl) ?_
                simp only [List.take_succ_cons, List.take_zero, List.drop_succ_cons, List.drop_zero]
                iterate 70 ((with_reducible refine wpStill_step (fun K hK => ?_)); go_simp; (with_reducible refine hK _ ?_); clear hK K)
                with_reducible refine wpStill_nil ?_
                go_upto_region 20 with fail
                refine gen_world (fun w => TickAt 63 2 w5 (ns : Int) r (some ⟨g5, o5, none⟩) N c5 b rr ns Lc' w6.heap.size f' w ∧ w.heap[gx]? = some (.cells #[.int .i64 dn', .int .i64 dm, .int .i64 db', .int .i64 rl', .int .u64 (wd p' 0), .int .u64 (wd p' 1), .int .u64 (wd p' 2), .int .u64 (wd p' 3)] WT (0, 0))) ⟨H7.out.below ⟨rfl, rfl, rfl, Nat.le_refl _, fun _ _ => rfl⟩, kept_obj (w := _) ⟨rfl, rfl, rfl, Nat.le_refl _, fun _ _ => rfl⟩ HX7.out⟩ ?_
                intro V3 ⟨h9, hx9⟩
                have H8 := Lib.hid h9
                have HX8 := Lib.hid hx9
                clear h9 hx9
                have x0 : V3.cell? ⟨gx, 0, none⟩ = some (.int .i64 dn') := by rw [blk_cell HX8.out]; rfl
                have x1 : V3.cell? ⟨gx, 1, none⟩ = some (.int .i64 dm) := by rw [blk_cell HX8.out]; rfl
                have x2 : V3.cell? ⟨gx, 2, none⟩ = some (.int .i64 db') := by rw [blk_cell HX8.out]; rfl
                have x3 : V3.cell? ⟨gx, 3, none⟩ = some (.int .i64 rl') := by rw [blk_cell HX8.out]; rfl
                have x4 : V3.cell? ⟨gx, 4, none⟩ = some (.int .u64 (wd p' 0)) := by rw [blk_cell HX8.out]; rfl
                have x5 : V3.cell? ⟨gx, 5, none⟩ = some (.int .u64 (wd p' 1)) := by rw [blk_cell HX8.out]; rfl
                have x6 : V3.cell? ⟨gx, 6, none⟩ = some (.int .u64 (wd p' 2)) := by rw [blk_cell HX8.out]; rfl
                have x7 : V3.cell? ⟨gx, 7, none⟩ = some (.int .u64 (wd p' 3)) := by rw [blk_cell HX8.out]; rfl
                obtain ⟨a0, a1, a2, a3, a4, a5', a6, a7⟩ := H8.out.ar.cells hk2
                rw [hw4] at a0 a1 a2 a3 a4 a5' a6 a7
                have s1 : V3.cell? ⟨w5.heap.size, 1, none⟩ = some (.int .i64 r) := by rw [blk_cell H8.out.sb]; rfl
                have g0 := H8.out.ar.free (k * 8)
                have g1 := H8.out.ar.free (k * 8 + 1)
                have g2 := H8.out.ar.free (k * 8 + 2)
                have g3 := H8.out.ar.free (k * 8 + 3)
                have g4 := H8.out.ar.free (k * 8 + 4)
                have g5 := H8.out.ar.free (k * 8 + 5)
                have g6 := H8.out.ar.free (k * 8 + 6)
                have g7 := H8.out.ar.free (k * 8 + 7)
                have HSET := Lib.hid (H8.out.set hk2 ⟨dn', dm, db', rl', p'⟩)
                go_wp2_with fail
                go_roundw
                case rel =>
                  refine ⟨i + 1, Lc', setW f' k ⟨dn', dm, db', rl', p'⟩, by omega, by go_num, HSET, fun j hj => ?_⟩
                  unfold setW
                  split
                  · exact HINV.out
                  · exact (HI4.out j hj).up
                case measure => simp [intOf]; omega
    · obtain rfl : i = 60 := by omega
      go_wp2
      go_ret
      exact ⟨rfl, below_up HL5.out HP.out.low⟩
end Go.Proofs.Ytfifgojbihdhcaa

/-
  The row of the statement that a tick is a reload, or a piece of work.
-/
namespace Go.Proofs.Ytfifgojbihdhcaa
open Go.RowKit Go.Maps
theorem row_ticks (W : World) (S R : Int) (a : Option Addr) (n cap : Nat) (L : List NV) (hn : Nums W a n cap L) (x : Int) (hx : (Lit.int .u64 x).wf = true) :
    Calls Try.prog 6 #[.agg #[.int .i64 S, .int .i64 R, .slice a n cap], .int .u64 x] W fun e w' => e = .returned (.bool true) ∧ Below W.heap.size W w' := by
  simp [Lit.wf, IntKind.min, IntKind.max, IntKind.signed, IntKind.bits] at hx
  obtain ⟨m, rfl⟩ : ∃ m : Nat, x = (m : Int) := ⟨x.toNat, by omega⟩
  exact law_ticks W S R a n cap L hn m (by omega)
end Go.Proofs.Ytfifgojbihdhcaa
