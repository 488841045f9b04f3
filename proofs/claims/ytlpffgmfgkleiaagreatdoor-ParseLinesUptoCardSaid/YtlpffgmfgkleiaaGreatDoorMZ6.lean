/- Texts of this claim, put together: YLine, YPrg, YAwk, KW17, ZLaw, LTied, LTied5, YTied2. -/
import Derived.Test.YtlpffgmfgkleiaaGreatDoorRows
import Derived.Test.YtlpffgmfgkleiaaGreatDoorMZ5
import Derived.ProofKit
import Derived.LaidMore
import Derived.Lib.LaidTab
import Derived.Stop.Joined
import Derived.Lay
import Derived.OpenShut
import Derived.Lib.SmallJoins
set_option linter.unusedVariables false
set_option linter.unusedSimpArgs false

/-
  The walk over a task as a text, as the program writes it.
-/
namespace Go.Proofs.YtlpffgmfgkleiaaGreatDoor
open Go.RowKit Go.Maps

theorem ownz_six_low {N : Nat} {u w : World} (hb : Below u.heap.size u w) (hN : N ≤ u.heap.size) (x0 x1 x2 x3 x4 x5 : ByteArray) : OwnZ (w.alloc (.cells #[.string x0, .string x1, .string x2, .string x3, .string x4, .string x5] 9)) N (.slice (some ⟨w.heap.size, 0, none⟩) 6 6) [x0, x1, x2, x3, x4, x5] :=
  ⟨rfl, .inr ⟨w.heap.size, 6, #[.string x0, .string x1, .string x2, .string x3, .string x4, .string x5], rfl, Nat.le_trans hN hb.size, heap_alloc_new w _, Nat.le_refl _, by unfold maxLen; omega, rfl, rfl⟩⟩
theorem OwnZ.some_ {w : World} {B n c : Nat} {a : Option Addr} {l : List ByteArray} (h : OwnZ w B (.slice a n c) l) (hl : 0 < l.length) : ∃ g, a = some ⟨g, 0, none⟩ ∧ Strs w (some ⟨g, 0, none⟩) l ∧ l.length = n ∧ n ≤ c := by
  rcases h.2 with ⟨e, h0⟩ | ⟨g, cap, cur, e, _, _, h1, _, _, _⟩
  · omega
  · cases e
    obtain ⟨a', cap', e', hs, _⟩ := h.slice
    cases e'
    exact ⟨g, rfl, hs, rfl, h1⟩

set_option maxRecDepth 100000 in
set_option maxHeartbeats 4000000 in
theorem line_any (x : TV) (w : World) (hx : x.ok w) (hT : PT w) : Calls Tryz.prog 6 #[x.val] w fun e w' => e = .returned (.string (lineText x.tk)) ∧ Below w.heap.size w w' := by
  have CR : Hid (∀ v, Below w.heap.size w v → Calls Tryz.prog 15 #[x.val, .int .i64 256] v fun e w' => e = .returned (.int .i64 (rightOf x 256)) ∧ Below v.heap.size v w') := fun v hb => right_any x 256 v (hx.below hb)
  have HX := Lib.hid hx
  have HPT : Hid (PT w) := hT
  have HLT : Hid (lineText x.tk = if rightOf x 256 = 0 then wholeOf x.tk else ⟨#[]⟩) := rfl
  unfold TV.val at CR ⊢
  by_cases hr : rightOf x 256 = 0
  rotate_left
  · obtain ⟨E, hE⟩ : ∃ E, rightOf x 256 = E := ⟨_, rfl⟩
    rw [hE] at CR hr
    have HL : Hid (lineText x.tk = ⟨#[]⟩) := by show _ = _; rw [HLT.out, if_neg (by rw [hE]; exact hr)]
    have d1 : (E == 0) = false := by rw [beq_eq_false_iff_ne]; exact hr
    have d2 : (E != 0) = true := by rw [bne, d1]; rfl
    clear HLT hE hr hx hT
    go_enter Tryz.func6, Tryz.ntmps6
    go_upto_region 1 with fail
    refine gen_world (fun v => Below w.heap.size w v ∧ AtB v w.heap.size x) ⟨bw_alloc (Below.refl _ _) _, atB_new w x _⟩ ?_
    intro u0 ⟨hb0, ⟨c0, c1, c2, c3, c4, c5, c6⟩⟩
    have B0 := Lib.hid hb0
    clear hb0
    go_wp2_with (go_at_call 15; (with_reducible refine (CR.out _ B0.out).mono ?_); rintro e u1 ⟨rfl, b1⟩; have B1 := Lib.hid (below_up B0.out b1); clear b1)
    go_ret
    exact ⟨by rw [HL.out]; rfl, B1.out⟩
  · have hsm := small_of hr (by omega)
    have HL : Hid (lineText x.tk = wholeOf x.tk) := by show _ = _; rw [HLT.out, if_pos hr]
    rw [hr] at CR
    have hchI : ∀ y ∈ x.ch, I64 y := fun y hy => by have := hsm.ch y hy; have := hsm.c; have := hsm.d; unfold I64; omega
    have husI : ∀ y ∈ x.us, I64 y := fun y hy => by have := hsm.us y hy; unfold I64; omega
    have i1 : I64 x.id := by have := hsm.id; unfold I64; omega
    have i2 : I64 x.c := by have := hsm.c; have := hsm.d; unfold I64; omega
    have i3 : I64 x.d := by have := hsm.c; have := hsm.d; unfold I64; omega
    have i4 : I64 x.t := by have := hsm.c; have := hsm.d; unfold I64; omega
    have i5 : I64 x.p := by have := hsm.p; unfold I64; omega
    obtain ⟨g1, hg1⟩ : ∃ g, digOf x.id = g := ⟨_, rfl⟩
    have z1 : g1.size ≤ 22 := by rw [← hg1]; exact digOf_size _ i1
    have D1 : Hid (∀ v, PT v → Calls Tryz.prog 16 #[.int .i64 x.id] v fun e w' => e = .returned (.string g1) ∧ Below v.heap.size v w') := fun v hT => by have := digits_any x.id i1 v hT; rwa [hg1] at this
    obtain ⟨g2, hg2⟩ : ∃ g, digOf x.c = g := ⟨_, rfl⟩
    have z2 : g2.size ≤ 22 := by rw [← hg2]; exact digOf_size _ i2
    have D2 : Hid (∀ v, PT v → Calls Tryz.prog 16 #[.int .i64 x.c] v fun e w' => e = .returned (.string g2) ∧ Below v.heap.size v w') := fun v hT => by have := digits_any x.c i2 v hT; rwa [hg2] at this
    obtain ⟨h2, hh2⟩ : ∃ h, tC ++ g2 = h := ⟨_, rfl⟩
    have y2 : tC.size = 2 := rfl
    have A2 := Lib.hid (add_str tC g2 h2 hh2 (by omega))
    obtain ⟨g3, hg3⟩ : ∃ g, digOf x.d = g := ⟨_, rfl⟩
    have z3 : g3.size ≤ 22 := by rw [← hg3]; exact digOf_size _ i3
    have D3 : Hid (∀ v, PT v → Calls Tryz.prog 16 #[.int .i64 x.d] v fun e w' => e = .returned (.string g3) ∧ Below v.heap.size v w') := fun v hT => by have := digits_any x.d i3 v hT; rwa [hg3] at this
    obtain ⟨h3, hh3⟩ : ∃ h, tD ++ g3 = h := ⟨_, rfl⟩
    have y3 : tD.size = 2 := rfl
    have A3 := Lib.hid (add_str tD g3 h3 hh3 (by omega))
    obtain ⟨g4, hg4⟩ : ∃ g, digOf x.t = g := ⟨_, rfl⟩
    have z4 : g4.size ≤ 22 := by rw [← hg4]; exact digOf_size _ i4
    have D4 : Hid (∀ v, PT v → Calls Tryz.prog 16 #[.int .i64 x.t] v fun e w' => e = .returned (.string g4) ∧ Below v.heap.size v w') := fun v hT => by have := digits_any x.t i4 v hT; rwa [hg4] at this
    obtain ⟨h4, hh4⟩ : ∃ h, tT ++ g4 = h := ⟨_, rfl⟩
    have y4 : tT.size = 2 := rfl
    have A4 := Lib.hid (add_str tT g4 h4 hh4 (by omega))
    obtain ⟨g5, hg5⟩ : ∃ g, digOf x.p = g := ⟨_, rfl⟩
    have z5 : g5.size ≤ 22 := by rw [← hg5]; exact digOf_size _ i5
    have D5 : Hid (∀ v, PT v → Calls Tryz.prog 16 #[.int .i64 x.p] v fun e w' => e = .returned (.string g5) ∧ Below v.heap.size v w') := fun v hT => by have := digits_any x.p i5 v hT; rwa [hg5] at this
    obtain ⟨h5, hh5⟩ : ∃ h, tP ++ g5 = h := ⟨_, rfl⟩
    have y5 : tP.size = 2 := rfl
    have A5 := Lib.hid (add_str tP g5 h5 hh5 (by omega))
    have HSIX : Hid (sixOf x.tk = [bTask, g1, h2, h3, h4, h5]) := by
      show _ = _
      unfold sixOf TV.tk
      simp only []
      rw [hg1, hg2, hg3, hg4, hg5, hh2, hh3, hh4, hh5]
    have HCH := Lib.hid hchI
    have HUS := Lib.hid husI
    have HSM := Lib.hid hsm
    have HZS : Hid ((joinZ (sixOf x.tk ++ chZ x.tk ++ usZ x.tk)).size ≤ 3400) := by
      show _ ≤ _
      rw [← whole_words, ← HL.out]
      have := HL.out
      exact line_size x
    have HWZ := Lib.hid (whole_words x.tk)
    clear hchI husI hsm i1 i2 i3 i4 i5 hg1 z1 hg2 z2 hh2 y2 hg3 z3 hh3 y3 hg4 z4 hh4 y4 hg5 z5 hh5 y5 hr hx HLT hT
    go_enter Tryz.func6, Tryz.ntmps6
    go_upto_region 1 with fail
    refine gen_world (fun v => Below w.heap.size w v ∧ AtB v w.heap.size x) ⟨bw_alloc (Below.refl _ _) _, atB_new w x _⟩ ?_
    intro u0 ⟨hb0, ht0⟩
    have B0 := Lib.hid hb0
    have T0 := Lib.hid ht0
    obtain ⟨c0, c1, c2, c3, c4, c5, c6⟩ := ht0
    clear hb0
    go_upto_region 3 with (go_at_call 15; (with_reducible refine (CR.out _ B0.out).mono ?_); rintro e u1 ⟨rfl, b1⟩; have B1 := Lib.hid (below_up B0.out b1); have T1 := Lib.hid (T0.out.below b1); clear b1)
    clear CR B0 T0 c0 c1 c2 c3 c4 c5 c6
    have HP1 : Hid (PT u1) := HPT.out.below B1.out
    have HN1 : Hid (w.heap.size + 1 ≤ u1.heap.size) := block_of_cell T1.out.c0
    have MK : Hid (∀ v, Below u1.heap.size u1 v → (Below u1.heap.size u1 v ∧ v.cell? ⟨w.heap.size, 0, none⟩ = some (.int .i64 x.id) ∧ v.cell? ⟨w.heap.size, 1, none⟩ = some (.int .i64 x.c) ∧ v.cell? ⟨w.heap.size, 2, none⟩ = some (.int .i64 x.d) ∧ v.cell? ⟨w.heap.size, 3, none⟩ = some (.int .i64 x.t) ∧ v.cell? ⟨w.heap.size, 4, none⟩ = some (.int .i64 x.p))) := fun v hb => ⟨hb, kept_cell hb T1.out.c0, kept_cell hb T1.out.c1, kept_cell hb T1.out.c2, kept_cell hb T1.out.c3, kept_cell hb T1.out.c4⟩
    have E1 : Hid (∀ v, Below u1.heap.size u1 v → Calls Tryz.prog 16 #[.int .i64 x.id] v fun e w' => e = .returned (.string g1) ∧ Below u1.heap.size u1 w') := fun v hb => (D1.out v (HP1.out.below hb)).mono fun _ _ ⟨h1, h2⟩ => ⟨h1, below_up hb h2⟩
    have E2 : Hid (∀ v, Below u1.heap.size u1 v → Calls Tryz.prog 16 #[.int .i64 x.c] v fun e w' => e = .returned (.string g2) ∧ Below u1.heap.size u1 w') := fun v hb => (D2.out v (HP1.out.below hb)).mono fun _ _ ⟨h1, h2⟩ => ⟨h1, below_up hb h2⟩
    have E3 : Hid (∀ v, Below u1.heap.size u1 v → Calls Tryz.prog 16 #[.int .i64 x.d] v fun e w' => e = .returned (.string g3) ∧ Below u1.heap.size u1 w') := fun v hb => (D3.out v (HP1.out.below hb)).mono fun _ _ ⟨h1, h2⟩ => ⟨h1, below_up hb h2⟩
    have E4 : Hid (∀ v, Below u1.heap.size u1 v → Calls Tryz.prog 16 #[.int .i64 x.t] v fun e w' => e = .returned (.string g4) ∧ Below u1.heap.size u1 w') := fun v hb => (D4.out v (HP1.out.below hb)).mono fun _ _ ⟨h1, h2⟩ => ⟨h1, below_up hb h2⟩
    have E5 : Hid (∀ v, Below u1.heap.size u1 v → Calls Tryz.prog 16 #[.int .i64 x.p] v fun e w' => e = .returned (.string g5) ∧ Below u1.heap.size u1 w') := fun v hb => (D5.out v (HP1.out.below hb)).mono fun _ _ ⟨h1, h2⟩ => ⟨h1, below_up hb h2⟩
    have a2 := A2.out
    have a3 := A3.out
    have a4 := A4.out
    have a5 := A5.out
    go_cut [3] from 7 to 27 (fun u wx => ∃ g : Nat, u = .slice (some ⟨g, 0, none⟩) 6 6 ∧ Hid (Below u1.heap.size u1 wx) ∧ Hid (OwnZ wx (w.heap.size + 1) (.slice (some ⟨g, 0, none⟩) 6 6) [bTask, g1, h2, h3, h4, h5]))
    case first =>
      go_region_held3 (fun v => Below u1.heap.size u1 v ∧ v.cell? ⟨w.heap.size, 0, none⟩ = some (.int .i64 x.id) ∧ v.cell? ⟨w.heap.size, 1, none⟩ = some (.int .i64 x.c) ∧ v.cell? ⟨w.heap.size, 2, none⟩ = some (.int .i64 x.d) ∧ v.cell? ⟨w.heap.size, 3, none⟩ = some (.int .i64 x.t) ∧ v.cell? ⟨w.heap.size, 4, none⟩ = some (.int .i64 x.p)) (exact MK.out _ (by repeat (first | exact Below.refl _ _ | (with_reducible assumption) | refine bw_alloc ?_ _ | refine bw_drew ?_))) (first
        | (go_at_call 16; (with_reducible refine (E1.out _ (by repeat (first | exact Below.refl _ _ | (with_reducible assumption) | refine bw_alloc ?_ _ | refine bw_drew ?_))).mono ?_); rintro e wx ⟨rfl, bx⟩)
        | (go_at_call 16; (with_reducible refine (E2.out _ (by repeat (first | exact Below.refl _ _ | (with_reducible assumption) | refine bw_alloc ?_ _ | refine bw_drew ?_))).mono ?_); rintro e wx ⟨rfl, bx⟩)
        | (go_at_call 16; (with_reducible refine (E3.out _ (by repeat (first | exact Below.refl _ _ | (with_reducible assumption) | refine bw_alloc ?_ _ | refine bw_drew ?_))).mono ?_); rintro e wx ⟨rfl, bx⟩)
        | (go_at_call 16; (with_reducible refine (E4.out _ (by repeat (first | exact Below.refl _ _ | (with_reducible assumption) | refine bw_alloc ?_ _ | refine bw_drew ?_))).mono ?_); rintro e wx ⟨rfl, bx⟩)
        | (go_at_call 16; (with_reducible refine (E5.out _ (by repeat (first | exact Below.refl _ _ | (with_reducible assumption) | refine bw_alloc ?_ _ | refine bw_drew ?_))).mono ?_); rintro e wx ⟨rfl, bx⟩))
      all_goals
        go_wp2_with fail
        go_meet
        exact ⟨_, rfl, Lib.hid (by repeat (first | exact Below.refl _ _ | (with_reducible assumption) | refine bw_alloc ?_ _ | refine bw_drew ?_)), Lib.hid (ownz_six_low (u := u1) (by repeat (first | exact Below.refl _ _ | (with_reducible assumption) | refine bw_alloc ?_ _ | refine bw_drew ?_)) HN1.out _ _ _ _ _ _)⟩
    case rest =>
      obtain ⟨g6, rfl, HB2, HO2⟩ := hcut
      have T2 := Lib.hid (T1.out.below HB2.out)
      have B2 := Lib.hid (below_up B1.out HB2.out)
      clear MK E1 E2 E3 E4 E5 D1 D2 D3 D4 D5 A2 A3 A4 A5 a2 a3 a4 a5 T1 B1 HB2 HP1 HN1
      have c5 := T2.out.c5
      obtain ⟨N, hN⟩ : ∃ N, x.ch.length = N := ⟨_, rfl⟩
      rw [hN] at c5
      go_upto_if 30 with fail
      go_cut [3] from 27 to 38 (fun u wy => ∃ (a' : Option Addr) (n' cp' : Nat), u = .slice a' n' cp' ∧ Hid (Below w.heap.size w wy) ∧ Hid (AtB wy w.heap.size x) ∧ Hid (OwnZ wy (w.heap.size + 1) (.slice a' n' cp') (sixOf x.tk ++ chZ x.tk)))
      case first =>
        by_cases hc : x.ch = []
        · have hM : Hid (sixOf x.tk ++ chZ x.tk = [bTask, g1, h2, h3, h4, h5]) := by show _ = _; unfold chZ; rw [if_pos (show x.tk.ch = [] from hc), HSIX.out]; rfl
          have hl0 : N = 0 := by rw [← hN, hc]; rfl
          have hl1 : ¬ (0 : Int) < (N : Int) := by omega
          clear hl0 hc hN
          go_wp2_with fail
          go_meet
          exact ⟨_, _, _, rfl, B2, T2, by rw [hM.out]; exact HO2⟩
        · have hlp : 0 < x.ch.length := List.length_pos_iff.2 hc
          obtain ⟨q, hq⟩ : ∃ q, joinOf x.ch = q := ⟨_, rfl⟩
          obtain ⟨m1, hm1⟩ : ∃ m, tChunks ++ q = m := ⟨_, rfl⟩
          have hM : Hid (sixOf x.tk ++ chZ x.tk = [bTask, g1, h2, h3, h4, h5] ++ [m1]) := by show _ = _; unfold chZ; rw [if_neg (show ¬ x.tk.ch = [] from hc), HSIX.out]; show _ ++ [tChunks ++ joinOf x.ch] = _; rw [hq, hm1]
          have hqs : q.size ≤ 1472 := by rw [← hq]; exact size_join HCH.out HSM.out.chl
          have k8 : tChunks.size = 7 := rfl
          have CJ : Hid (∀ v, Below w.heap.size w v → Calls Tryz.prog 17 #[.slice x.a1 N x.c1] v fun e w' => e = .returned (.string q) ∧ Below v.heap.size v w') := fun v hb => by
            have := join_any x.a1 N x.c1 x.ch hN (by have := HSM.out.chl; omega) HCH.out v (HX.out.one.below hb) (HPT.out.below hb)
            rwa [hq] at this
          have b1 := add_str tChunks q m1 hm1 (by omega)
          rw [hN] at hlp
          have hlp2 : (0 : Int) < (N : Int) := by omega
          clear hN hq hm1 hqs k8 hc
          go_wp2_with (first
            | (go_at_call 17; (with_reducible refine (CJ.out _ B2.out).mono ?_); rintro e wx ⟨rfl, bx⟩; have B3 := Lib.hid (below_up B2.out bx); have T3 := Lib.hid (T2.out.below bx); have O3 := Lib.hid (HO2.out.below bx); have N3 : Hid (w.heap.size + 1 ≤ wx.heap.size) := (block_of_cell T3.out.c0 : w.heap.size < wx.heap.size); clear bx)
            | (at_builtin; refine wp_strs (m := 1) (l := [m1]) rfl _ _ rfl rfl rfl (O3.out.below (by repeat (first | exact Below.refl _ _ | (with_reducible assumption) | refine bw_alloc ?_ _ | refine bw_drew ?_))) (by rw [World.size_alloc]; have := N3.out; omega) (strs_new _ _ _) rfl (by simp) 7 rfl ?_; intro a3 k3 w3 o3 g3 l3; have HG := grownz_new (N := w.heap.size + 1) ((bw_alloc (Below.refl _ _) _ : Below wx.heap.size wx _).mono N3.out) (O3.out.below (by repeat (first | exact Below.refl _ _ | (with_reducible assumption) | refine bw_alloc ?_ _ | refine bw_drew ?_))) (Nat.le_refl _) (by rw [World.size_alloc]; have := N3.out; omega) g3; have B4 := Lib.hid (B3.out.trans (HG.mono (by omega))); have T4 := Lib.hid (T3.out.belowB HG (by omega)); have O4 := Lib.hid o3; clear o3 g3 l3 HG))
          go_meet
          exact ⟨_, _, _, rfl, B4, T4, by rw [hM.out]; exact O4⟩
      case rest =>
        clear B2 T2 c5 hN HO2
        obtain ⟨a3, n3, p3, rfl, B3, T3, O3⟩ := hcut
        have c6 := T3.out.c6
        obtain ⟨K, hK⟩ : ∃ K, x.us.length = K := ⟨_, rfl⟩
        rw [hK] at c6
        go_upto_if 41 with fail
        go_cut [3] from 38 to 50 (fun u wy => ∃ (a' : Option Addr) (n' cp' : Nat), u = .slice a' n' cp' ∧ Hid (Below w.heap.size w wy) ∧ Hid (OwnZ wy (w.heap.size + 1) (.slice a' n' cp') (sixOf x.tk ++ chZ x.tk ++ usZ x.tk)))
        case first =>
          by_cases hc : x.us = []
          · have hM : Hid (sixOf x.tk ++ chZ x.tk ++ usZ x.tk = sixOf x.tk ++ chZ x.tk) := by show _ = _; unfold usZ; rw [if_pos (show x.tk.us = [] from hc), List.append_nil]
            have hl0 : K = 0 := by rw [← hK, hc]; rfl
            have hl1 : ¬ (0 : Int) < (K : Int) := by omega
            clear hl0 hc hK
            go_wp2_with fail
            go_meet
            exact ⟨_, _, _, rfl, B3, by rw [hM.out]; exact O3⟩
          · have hlp : 0 < x.us.length := List.length_pos_iff.2 hc
            obtain ⟨q, hq⟩ : ∃ q, joinOf x.us = q := ⟨_, rfl⟩
            obtain ⟨m1, hm1⟩ : ∃ m, tUse ++ q = m := ⟨_, rfl⟩
            have hM : Hid (sixOf x.tk ++ chZ x.tk ++ usZ x.tk = (sixOf x.tk ++ chZ x.tk) ++ [m1]) := by show _ = _; unfold usZ; rw [if_neg (show ¬ x.tk.us = [] from hc)]; show _ ++ [tUse ++ joinOf x.us] = _; rw [hq, hm1]
            have hqs : q.size ≤ 1472 := by rw [← hq]; exact size_join HUS.out HSM.out.usl
            have k8 : tUse.size = 4 := rfl
            have CA : Hid (∀ v, Below w.heap.size w v → Calls Tryz.prog 18 #[.slice x.a2 K x.c2] v (AsBack 2 x.us K v)) := fun v hb => as_qi x.a2 K x.c2 x.us hK (by have := HSM.out.usl; omega) v (HX.out.two.below hb)
            have CJ : Hid (∀ (a : Option Addr) (c : Nat) v, Below w.heap.size w v → Ints v a x.us → Calls Tryz.prog 17 #[.slice a K c] v fun e w' => e = .returned (.string q) ∧ Below v.heap.size v w') := fun a c v hb hi => by
              have := join_any a K c x.us hK (by have := HSM.out.usl; omega) HUS.out v hi (HPT.out.below hb)
              rwa [hq] at this
            have b1 := add_str tUse q m1 hm1 (by omega)
            have HLN : Hid ((sixOf x.tk ++ chZ x.tk).length = n3) := by
              show _ = _
              obtain ⟨_, _, e, _⟩ := O3.out.slice
              injection e with _ e _
              exact e.symm
            have HL7 : Hid ((sixOf x.tk ++ chZ x.tk).length ≤ 7) := by
              show _ ≤ _
              rw [List.length_append]
              have : (chZ x.tk).length ≤ 1 := by unfold chZ; split <;> simp
              have h6 : (sixOf x.tk).length = 6 := rfl
              omega
            rw [hK] at hlp
            have hlp2 : (0 : Int) < (K : Int) := by omega
            clear hK hq hm1 hqs k8 hc
            go_wp2_with (first
              | (go_at_call 18; (with_reducible refine (CA.out _ B3.out).mono ?_); rintro e wa ⟨a9, c9, rfl, o9, b9⟩; have B8 := Lib.hid (below_up B3.out b9); have O8 := Lib.hid (O3.out.below b9); have T8 := Lib.hid (T3.out.below b9); have I8 := Lib.hid o9.ints.1; clear o9 b9)
              | (go_at_call 17; (with_reducible refine (CJ.out _ _ _ B8.out I8.out).mono ?_); rintro e wx ⟨rfl, bx⟩; have B9 := Lib.hid (below_up B8.out bx); have O9 := Lib.hid (O8.out.below bx); have N9 : Hid (w.heap.size + 1 ≤ wx.heap.size) := (block_of_cell (T8.out.below bx).c0 : w.heap.size < wx.heap.size); clear bx)
              | (at_builtin; refine wp_strs (m := 1) (l := [m1]) rfl _ _ rfl rfl rfl (O9.out.below (by repeat (first | exact Below.refl _ _ | (with_reducible assumption) | refine bw_alloc ?_ _ | refine bw_drew ?_))) (by rw [World.size_alloc]; have := N9.out; omega) (strs_new _ _ _) rfl (by have := HL7.out; omega) (n3 + 1) (by rw [HLN.out]) ?_; intro a4 k4 w4 o4 g4 l4; have HG := grownz_new (N := w.heap.size + 1) ((bw_alloc (Below.refl _ _) _ : Below wx.heap.size wx _).mono N9.out) (O9.out.below (by repeat (first | exact Below.refl _ _ | (with_reducible assumption) | refine bw_alloc ?_ _ | refine bw_drew ?_))) (Nat.le_refl _) (by rw [World.size_alloc]; have := N9.out; omega) g4; have B4 := Lib.hid (B9.out.trans (HG.mono (by omega))); have O4 := Lib.hid o4; clear o4 g4 l4 HG))
            go_meet
            exact ⟨_, _, _, rfl, B4, by rw [hM.out]; exact O4⟩
        case rest =>
          clear B3 T3 c6 hK O3
          obtain ⟨a5, n5, p5, rfl, B5, O5⟩ := hcut
          obtain ⟨g5, rfl, hS5, hl5, hc5⟩ := O5.out.some_ (by rw [List.length_append, List.length_append]; show 0 < 6 + _ + _; omega)
          have hn5 : 0 < n5 ∧ n5 ≤ 2000000 := by
            rw [← hl5, List.length_append, List.length_append]
            have h1 : (chZ x.tk).length ≤ 1 := by unfold chZ; split <;> simp
            have h2 : (usZ x.tk).length ≤ 1 := by unfold usZ; split <;> simp
            have h6 : (sixOf x.tk).length = 6 := rfl
            omega
          have CZ := Lib.hid (strjoin_any g5 0 p5 n5 _ hl5 _ hS5 hn5.1 hn5.2 hc5 (by have := HZS.out; omega))
          rw [← HWZ.out, ← HL.out] at CZ
          clear hS5 hl5 hc5 hn5
          go_wp2_with (go_at_call 19; (with_reducible refine (CZ.out).mono ?_); rintro e wx ⟨rfl, bx⟩; have B6 := Lib.hid (below_up B5.out bx); clear bx)
          go_ret
          exact ⟨rfl, B6.out⟩
end Go.Proofs.YtlpffgmfgkleiaaGreatDoor

/-
  The walk over a system as a text, as the program writes it.
-/
namespace Go.Proofs.YtlpffgmfgkleiaaGreatDoor
open Go.RowKit Go.Maps

theorem bld_drew {B : Nat} {t : ByteArray} {w : World} (h : Bld B t w) : Bld B t w.drew := bld_below h (Below.refl _ w).drew
theorem sz_drew {n : Nat} {w : World} (h : n ≤ w.heap.size) : n ≤ w.drew.heap.size := h
theorem at_lit {T e : TypeId} {B b : Nat} {p : Value} {bs : List Value} {w : World} (h : Lib.BuilderAtF T e B b p bs w) : b < w.heap.size := by
  obtain ⟨_, v, h2, _⟩ := h
  exact (Array.getElem?_eq_some_iff.1 h2).1
theorem le_lit {B : Nat} {t : ByteArray} {w : World} (h : Bld B t w) : B < w.heap.size := h.elim (fun x => at_lit x) (fun x => at_lit x)
theorem bld_alloc {B : Nat} {t : ByteArray} {w : World} (h : Bld B t w) (o : Obj) : Bld B t (w.alloc o) := bld_below h ((Below.refl _ w).alloc (Nat.le_refl _) o)
/-- What is written behind a world lies behind it. -/
theorem below_at {u v v' : World} (h : Below u.heap.size u v) (k : Below u.heap.size v v') : Below u.heap.size u v' := h.trans k

set_option maxRecDepth 100000 in
set_option maxHeartbeats 4000000 in
theorem print_any {w : World} {a : Option Addr} {n cap : Nat} {L : List TV} (S R : Int) (ha : Tasks w a n cap L) (hw : ∀ x ∈ L, I64 x.p ∧ I64 x.id) (hT : PT w) : Calls Tryz.prog 12 #[.agg #[.int .i64 S, .int .i64 R, .slice a n cap]] w fun e w' => e = .returned (.string (printText S R (L.map TV.tk))) ∧ Below w.heap.size w w' := by
  have CK : Hid (∀ v, Below w.heap.size w v → Calls Tryz.prog 27 #[.agg #[.int .i64 S, .int .i64 R, .slice a n cap]] v fun e w' => e = .returned (.int .i64 (checkOf S R L)) ∧ Below v.heap.size v w') := fun v hb => check_any S R (ha.below hb) hw
  have HA := Lib.hid ha
  have HPT : Hid (PT w) := hT
  have HPX : Hid (printText S R (L.map TV.tk) = if checkOf S R L = 0 then printRun (headText S R) (L.map TV.tk) else ⟨#[]⟩) := print_tk S R L
  clear hT hw
  by_cases hr : checkOf S R L = 0
  rotate_left
  · obtain ⟨E, hE⟩ : ∃ E, checkOf S R L = E := ⟨_, rfl⟩
    rw [hE] at CK hr
    have HL : Hid (printText S R (L.map TV.tk) = ⟨#[]⟩) := by show _ = _; rw [HPX.out, if_neg (by rw [hE]; exact hr)]
    have d1 : (E == 0) = false := by rw [beq_eq_false_iff_ne]; exact hr
    have d2 : (E != 0) = true := by rw [bne, d1]; rfl
    clear HPX hE hr ha
    go_enter Tryz.func12, Tryz.ntmps12
    go_upto_region 1 with fail
    refine gen_world (SysB w w.heap.size S R a n cap) sysB_new ?_
    intro u0 h0
    have H0 := Lib.hid h0
    obtain ⟨-, c0, c1, c2⟩ := h0
    go_wp2_with (go_at_call 27; (with_reducible refine (CK.out _ H0.out.low).mono ?_); rintro e u1 ⟨rfl, b1⟩; have B1 := Lib.hid (below_up H0.out.low b1); clear b1)
    go_ret
    exact ⟨by rw [HL.out]; rfl, B1.out⟩
  · have hq := check_pass hr
    have HL : Hid (printText S R (L.map TV.tk) = printRun (headText S R) (L.map TV.tk)) := by show _ = _; rw [HPX.out, if_pos hr]
    rw [hr] at CK
    have i1 : I64 S := by have := hq.s; unfold I64; omega
    have i2 : I64 R := by have := hq.r; unfold I64; omega
    have hn : L.length = n := ha.len
    have hn64 : n ≤ 64 := by have := hq.most; omega
    obtain ⟨g1, hg1⟩ : ∃ g, digOf S = g := ⟨_, rfl⟩
    have z1 : g1.size ≤ 22 := by rw [← hg1]; exact digOf_size _ i1
    have D1 : Hid (∀ v, PT v → Calls Tryz.prog 16 #[.int .i64 S] v fun e w' => e = .returned (.string g1) ∧ Below v.heap.size v w') := fun v hT => by have := digits_any S i1 v hT; rwa [hg1] at this
    obtain ⟨g2, hg2⟩ : ∃ g, digOf R = g := ⟨_, rfl⟩
    have z2 : g2.size ≤ 22 := by rw [← hg2]; exact digOf_size _ i2
    have D2 : Hid (∀ v, PT v → Calls Tryz.prog 16 #[.int .i64 R] v fun e w' => e = .returned (.string g2) ∧ Below v.heap.size v w') := fun v hT => by have := digits_any R i2 v hT; rwa [hg2] at this
    have kCache : sCache.size = 6 := rfl
    have kSp : sSp.size = 1 := rfl
    have kNl : sNl.size = 1 := rfl
    obtain ⟨s1, hs1⟩ : ∃ s, sCache ++ g1 = s := ⟨_, rfl⟩
    have y1 : s1.size = sCache.size + g1.size := by rw [← hs1, ByteArray.size_append]
    obtain ⟨s2, hs2⟩ : ∃ s, s1 ++ sSp = s := ⟨_, rfl⟩
    have y2 : s2.size = s1.size + sSp.size := by rw [← hs2, ByteArray.size_append]
    obtain ⟨s3, hs3⟩ : ∃ s, s2 ++ g2 = s := ⟨_, rfl⟩
    have y3 : s3.size = s2.size + g2.size := by rw [← hs3, ByteArray.size_append]
    obtain ⟨s4, hs4⟩ : ∃ s, s3 ++ sNl = s := ⟨_, rfl⟩
    have y4 : s4.size = s3.size + sNl.size := by rw [← hs4, ByteArray.size_append]
    have A1 := Lib.hid (add_str sCache g1 s1 hs1 (by omega))
    have A2 := Lib.hid (add_str s1 sSp s2 hs2 (by omega))
    have A3 := Lib.hid (add_str s2 g2 s3 hs3 (by omega))
    have A4 := Lib.hid (add_str s3 sNl s4 hs4 (by omega))
    have HHD : Hid (headText S R = s4) := by
      show _ = _
      unfold headText
      rw [hg1, hg2, hs1, hs2, hs3, hs4]
    have HS4 : Hid (s4.size ≤ 60) := by show _ ≤ _; omega
    have HRS : Hid (∀ k, (printRun s4 ((L.map TV.tk).take k)).size ≤ s4.size + 3401 * k) := fun k => run_size s4 L k
    rw [HHD.out] at HL
    clear i1 i2 hg1 hg2 z1 z2 hs1 hs2 hs3 hs4 y1 y2 y3 y4 kCache kSp kNl hq hr HPX HHD ha
    have HN := Lib.hid hn
    clear hn
    go_enter Tryz.func12, Tryz.ntmps12
    go_upto_region 1 with fail
    refine gen_world (SysB w w.heap.size S R a n cap) sysB_new ?_
    intro u0 h0
    have H0 := Lib.hid h0
    obtain ⟨-, c0, c1, c2⟩ := h0
    go_upto_region 4 with (go_at_call 27; (with_reducible refine (CK.out _ H0.out.low).mono ?_); rintro e u1 ⟨rfl, b1⟩; have H1 := Lib.hid (H0.out.below b1); clear b1)
    clear CK H0 c0 c1 c2
    have HP1 : Hid (PT u1) := HPT.out.below H1.out.low
    refine gen_world (fun v => Below u1.heap.size u1 v ∧ Bld u1.heap.size ⟨#[]⟩ v ∧ u1.heap.size < v.heap.size) ⟨bw_alloc (Below.refl _ _) _, Lib.IsBuilderF.of (Lib.fresh_isBuilder _ _ u1), by rw [World.size_alloc]; omega⟩ ?_
    intro ub ⟨hlb, hbb, hgb⟩
    have SZ : Hid (u1.heap.size < ub.heap.size) := hgb
    clear hgb
    have MK : Hid (∀ v, Below u1.heap.size u1 v → (Below u1.heap.size u1 v ∧ v.cell? ⟨w.heap.size, 0, none⟩ = some (.int .i64 S) ∧ v.cell? ⟨w.heap.size, 1, none⟩ = some (.int .i64 R))) := fun v hb => ⟨hb, kept_cell hb H1.out.s0, kept_cell hb H1.out.s1⟩
    have E1 : Hid (∀ v, Below u1.heap.size u1 v → Bld u1.heap.size ⟨#[]⟩ v → ub.heap.size ≤ v.heap.size → Calls Tryz.prog 16 #[.int .i64 S] v fun e w' => e = .returned (.string g1) ∧ Below u1.heap.size u1 w' ∧ Bld u1.heap.size ⟨#[]⟩ w' ∧ ub.heap.size ≤ w'.heap.size) := fun v hb hl hs => (D1.out v (HP1.out.below hb)).mono fun _ _ ⟨h1, h2⟩ => ⟨h1, below_up hb h2, bld_below hl h2, Nat.le_trans hs h2.size⟩
    have E2 : Hid (∀ v, Below u1.heap.size u1 v → Bld u1.heap.size ⟨#[]⟩ v → ub.heap.size ≤ v.heap.size → Calls Tryz.prog 16 #[.int .i64 R] v fun e w' => e = .returned (.string g2) ∧ Below u1.heap.size u1 w' ∧ Bld u1.heap.size ⟨#[]⟩ w' ∧ ub.heap.size ≤ w'.heap.size) := fun v hb hl hs => (D2.out v (HP1.out.below hb)).mono fun _ _ ⟨h1, h2⟩ => ⟨h1, below_up hb h2, bld_below hl h2, Nat.le_trans hs h2.size⟩
    have E3 : Hid (∀ v, Below u1.heap.size u1 v → Bld u1.heap.size ⟨#[]⟩ v → ub.heap.size ≤ v.heap.size → Calls Tryz.prog 28 #[.pointer (some ⟨u1.heap.size, 0, none⟩), .string s4] v fun e w' => ∃ z, e = .returned z ∧ Below u1.heap.size u1 w' ∧ Bld u1.heap.size s4 w') := fun v hb hl hs => (bld_text hl s4 (by have := HS4.out; show 0 + s4.size ≤ _; omega) (by have := SZ.out; omega)).mono fun _ _ ⟨z, h1, h2, h3⟩ => ⟨z, h1, below_at hb h3, by rwa [show (⟨#[]⟩ : ByteArray) ++ s4 = s4 from ba_nil_add s4] at h2⟩
    have a1 := A1.out
    have a2 := A2.out
    have a3 := A3.out
    have a4 := A4.out
    have hgg : ub.heap.size ≤ ub.heap.size := Nat.le_refl _
    go_cut [3] from 9 to 20 (fun u wx => u = .pointer (some ⟨u1.heap.size, 0, none⟩) ∧ Hid (Below u1.heap.size u1 wx) ∧ Hid (Bld u1.heap.size s4 wx))
    case first =>
      go_region_held3 (fun v => Below u1.heap.size u1 v ∧ v.cell? ⟨w.heap.size, 0, none⟩ = some (.int .i64 S) ∧ v.cell? ⟨w.heap.size, 1, none⟩ = some (.int .i64 R)) (exact MK.out _ (by repeat (first | (with_reducible assumption) | refine bw_drew ?_))) (first
        | (go_at_call 16; (with_reducible refine (E1.out _ (by repeat (first | (with_reducible assumption) | refine bw_drew ?_)) (by repeat (first | (with_reducible assumption) | refine bld_drew ?_)) (by repeat (first | (with_reducible assumption) | refine sz_drew ?_))).mono ?_); rintro e wx ⟨rfl, bx, lx, sx⟩)
        | (go_at_call 16; (with_reducible refine (E2.out _ (by repeat (first | (with_reducible assumption) | refine bw_drew ?_)) (by repeat (first | (with_reducible assumption) | refine bld_drew ?_)) (by repeat (first | (with_reducible assumption) | refine sz_drew ?_))).mono ?_); rintro e wx ⟨rfl, bx, lx, sx⟩)
        | (go_at_call 28; (with_reducible refine (E3.out _ (by repeat (first | (with_reducible assumption) | refine bw_drew ?_)) (by repeat (first | (with_reducible assumption) | refine bld_drew ?_)) (by repeat (first | (with_reducible assumption) | refine sz_drew ?_))).mono ?_); rintro e wx ⟨z, rfl, bx, lx⟩))
      all_goals
        go_wp2_with fail
        go_meet
        exact ⟨rfl, Lib.hid (by with_reducible assumption), Lib.hid (by with_reducible assumption)⟩
    case rest =>
      obtain ⟨rfl, HB2, HB3⟩ := hcut
      clear MK E1 E2 E3 D1 D2 A1 A2 A3 A4 a1 a2 a3 a4 hlb hbb hgg SZ
      have H2 := Lib.hid (H1.out.below HB2.out)
      obtain ⟨_, c0, c1, c2⟩ := H2.out
      have LB := Lib.hid (le_lit HB3.out)
      go_wp2_with fail
      go_loopw [23] (fun u wr => ∃ (k : Nat), k ≤ n ∧ u = .int .i64 k ∧ Hid (Below u1.heap.size u1 wr) ∧ Hid (Bld u1.heap.size (printRun s4 ((L.map TV.tk).take k)) wr) ∧ Hid (u1.heap.size < wr.heap.size)) (fun u _ => (n - intOf u).toNat)
      case atStart => exact ⟨0, by omega, rfl, HB2, HB3, LB⟩
      case round =>
        obtain ⟨k, hk, rfl, HQ, HW, HZ⟩ := hrel
        clear HB2 HB3 LB H2
        have HP := Lib.hid (H1.out.below HQ.out)
        obtain ⟨_, q0, q1, q2⟩ := HP.out
        by_cases hlt : k < n
        · obtain ⟨x, hx⟩ := nth_of HA.out.len hlt
          obtain ⟨g, o, rfl, ⟨c0, c1, c2, c3, c4, c5, c6⟩⟩ := (HA.out.view.below HP.out.low).at_ hx
          have hk1 : (k : Int) < (n : Int) := by omega
          have hk0 : (0 : Int) ≤ (k : Int) := by omega
          obtain ⟨X, hX⟩ : ∃ X, printRun s4 ((L.map TV.tk).take k) = X := ⟨_, rfl⟩
          obtain ⟨Y, hY⟩ : ∃ Y, lineText x.tk = Y := ⟨_, rfl⟩
          obtain ⟨m1, hm1⟩ : ∃ m, Y ++ sNl = m := ⟨_, rfl⟩
          have HNX : Hid (printRun s4 ((L.map TV.tk).take (k + 1)) = X ++ m1) := by
            show _ = _
            rw [run_next (t := x.tk) (by rw [List.getElem?_map, hx]; rfl), hX, hY, ByteArray.append_assoc, hm1]
          have hYs : Y.size ≤ 3400 := by rw [← hY]; exact line_size x
          have hXs : X.size ≤ s4.size + 3401 * k := by rw [← hX]; exact HRS.out k
          have hm1s : m1.size = Y.size + sNl.size := by rw [← hm1, ByteArray.size_append]
          have k1 : sNl.size = 1 := rfl
          have b1 := add_str Y sNl m1 hm1 (by omega)
          have HXM : Hid (X.size + m1.size ≤ 1000000000) := by show _ ≤ _; have := HS4.out; omega
          have CL : Hid (∀ v, Below wr.heap.size wr v → Calls Tryz.prog 6 #[x.val] v fun e w' => e = .returned (.string Y) ∧ Below v.heap.size v w') := fun v hb => by
            have := line_any x v (((HA.out.ok.at_ hx).below HP.out.low).below hb) (HPT.out.below (below_up HP.out.low hb))
            rwa [hY] at this
          unfold TV.val at CL
          rw [hX] at HW
          have CW : Hid (∀ v, Below wr.heap.size wr v → Calls Tryz.prog 28 #[.pointer (some ⟨u1.heap.size, 0, none⟩), .string m1] v fun e w' => ∃ z, e = .returned z ∧ Below u1.heap.size u1 w' ∧ Bld u1.heap.size (X ++ m1) w' ∧ u1.heap.size < w'.heap.size) := fun v hb => (bld_text (bld_below HW.out hb) m1 HXM.out (by have := HZ.out; have := hb.size; omega)).mono fun _ _ ⟨z, h1, h2, h3⟩ => ⟨z, h1, below_at (below_up HQ.out hb) h3, h2, by have := HZ.out; have := hb.size; have := h3.size; omega⟩
          clear hx hX hY hm1 hYs hXs hm1s k1
          go_wp2_with (first
            | (go_at_call 6; (with_reducible refine (CL.out _ (by repeat (first | exact Below.refl _ _ | (with_reducible assumption) | refine bw_alloc ?_ _ | refine bw_drew ?_))).mono ?_); rintro e w2 ⟨rfl, b2⟩; have HB2 := Lib.hid (below_up (by repeat (first | exact Below.refl _ _ | (with_reducible assumption) | refine bw_alloc ?_ _ | refine bw_drew ?_) : Below wr.heap.size wr _) b2); clear b2)
            | (go_at_call 28; (with_reducible refine (CW.out _ HB2.out).mono ?_); rintro e w3 ⟨z, rfl, b3, b4, b5⟩; have R3 := Lib.hid b3; have R4 := Lib.hid b4; have R5 := Lib.hid b5; clear b3 b4 b5))
          go_roundw
          case rel => exact ⟨k + 1, by omega, by go_num, R3, by rw [HNX.out]; exact R4, R5⟩
          case measure => simp [intOf]; omega
        · obtain rfl : n = k := by omega
          have HX : Hid (printRun s4 ((L.map TV.tk).take n) = printText S R (L.map TV.tk)) := by
            show _ = _
            rw [HL.out, List.take_of_length_le (by rw [List.length_map, HN.out]; exact Nat.le_refl _)]
          rw [HX.out] at HW
          have CS : Hid (Calls Tryz.prog 29 #[.pointer (some ⟨u1.heap.size, 0, none⟩)] wr fun e w' => e = .returned (.string (printText S R (L.map TV.tk))) ∧ Below w.heap.size w w') := (bld_string HW.out (by have := HZ.out; omega)).mono fun _ _ ⟨h1, h2⟩ => ⟨h1, H1.out.low.trans ((below_at HQ.out h2).mono H1.out.low.size)⟩
          go_wp2_with (go_at_call 29; (with_reducible refine CS.out.mono ?_); rintro e w3 ⟨rfl, b3⟩)
          go_ret
          exact ⟨rfl, b3⟩
end Go.Proofs.YtlpffgmfgkleiaaGreatDoor

/-
  The document's Same; what is asked of all at the beginning.
-/
namespace Go.Proofs.YtlpffgmfgkleiaaGreatDoor
open Go.RowKit Go.Maps

abbrev exOne : ByteArray := ⟨#[99, 97, 99, 104, 101, 32, 52, 32, 49, 10, 116, 97, 115, 107, 32, 49, 32, 99, 61, 50, 32, 100, 61, 53, 32, 116, 61, 53]⟩
abbrev exTwo : ByteArray := ⟨#[99, 97, 99, 104, 101, 32, 52, 32, 49, 10, 116, 97, 115, 107, 32, 49, 32, 99, 61, 50, 32, 100, 61, 53, 32, 116, 61, 53, 32, 112, 61, 51, 32, 117, 115, 101, 61, 48, 44, 49]⟩
theorem out_one : outOf exOne = ⟨0, 0, [], 28, 10⟩ := by kernel_rfl
theorem out_two : outOf exTwo = ⟨4, 1, [⟨1, 2, 5, 5, 3, [], [0, 1]⟩], 40, 0⟩ := by kernel_rfl
/-- A system that was read, as its callers see it. -/
theorem Holds.open_ {S R : Int} {l : List Tk} {B n c : Nat} {a : Option Addr} {w : World} (h : Holds S R l B (.agg #[.int .i64 S, .int .i64 R, .slice a n c]) w) : ∃ L : List TV, L.map TV.tk = l ∧ Tasks w a n c L ∧ ∀ x ∈ L, I64 x.p ∧ I64 x.id := by
  obtain ⟨a', n', c', L, e, hl, ho, hok, -, -, hs⟩ := h
  cases e
  obtain ⟨a2, cap2, e2, hv, hl2, hm⟩ := ho.slice
  cases e2
  exact ⟨L, hl, ⟨rfl, hv, hok, hl2, hm⟩, hs⟩

set_option maxRecDepth 100000 in
set_option maxHeartbeats 4000000 in
theorem awake_any (w : World) : Calls Tryz.prog 4 #[] w fun e w' => e = .returned (.bool true) ∧ Below w.heap.size w w' := by
  have hz := w_zeroSys
  have C1 : Hid (∀ v, Calls Tryz.prog 14 #[.string exOne] v (TryIs exOne v)) := fun v => parse_any exOne (by show 28 ≤ 1050000; omega) v
  have C2 : Hid (∀ v, Calls Tryz.prog 14 #[.string exTwo] v (TryIs exTwo v)) := fun v => parse_any exTwo (by show 40 ≤ 1050000; omega) v
  unfold TryIs at C1 C2
  rw [out_one] at C1
  rw [out_two] at C2
  simp only [] at C1 C2
  go_enter Tryz.func4, Tryz.ntmps4
  go_upto_region 2 with (go_at_call 14; (with_reducible refine (C1.out _).mono ?_); rintro y u1 ⟨a1, n1, k1, rfl, -, b1⟩; have B1 := Lib.hid b1; clear b1)
  refine gen_world (fun v => Below w.heap.size w v) ?_ ?_
  · exact bw_alloc B1.out _
  intro u2 b2
  have B2 := Lib.hid b2
  clear b2 B1
  go_upto_region 3 with (go_at_call 14; (with_reducible refine (C2.out _).mono ?_); rintro y u3 ⟨a2, n2, k2, rfl, h3, b3⟩; have H3 := Lib.hid h3; have B3 := Lib.hid (below_up B2.out b3); clear h3 b3)
  obtain ⟨L, hL, hT, -⟩ := H3.out.open_
  cases L with
  | nil => cases hL
  | cons x L2 =>
    obtain rfl : L2 = [] := by
      have := congrArg List.length hL
      simp only [List.map_cons, List.length_cons, List.length_map, List.length_nil] at this
      exact List.length_eq_zero_iff.1 (by omega)
    simp only [List.map_cons, List.map_nil, List.cons.injEq, and_true] at hL
    have hp : x.p = 3 := by have := congrArg Tk.p hL; exact this
    have hn : 1 = n2 := hT.len
    subst hn
    obtain ⟨g, o, rfl, ⟨c0, c1, c2, c3, c4, c5, c6⟩⟩ := hT.view.at_ (k := 0) (x := x) rfl
    rw [hp] at c4
    have hg : g < u3.heap.size := block_of_cell c4
    refine gen_world (fun v => Below w.heap.size w v ∧ v.cell? ⟨u3.heap.size, 2, none⟩ = some (.slice (some ⟨g, o, none⟩) 1 k2) ∧ v.cell? ⟨g, o + 0 * 7 + 4, none⟩ = some (.int .i64 3)) ⟨?_, ?_, ?_⟩ ?_
    · exact bw_alloc B3.out _
    · exact blk_cell (heap_alloc_new u3 (.cells #[.int .i64 4, .int .i64 1, .slice (some ⟨g, o, none⟩) 1 k2] SysT)) 2
    · exact kept_cell (w := u3) (bw_alloc (Below.refl _ _) _) c4
    intro u4 ⟨hb4, e2, e4⟩
    have B4 := Lib.hid hb4
    clear hb4 c0 c1 c2 c3 c4 c5 c6
    go_wp2_with fail
    go_ret
    exact ⟨rfl, B4.out⟩
end Go.Proofs.YtlpffgmfgkleiaaGreatDoor

/-
  The walk over the system that a statement's plain numbers mean.
-/
namespace Go.Proofs.YtlpffgmfgkleiaaGreatDoor
open Go.RowKit Go.Maps

/-- Plain numbers in a box, a system that comes back, plain numbers that are being made. -/
structure CopyAt (w : World) (S R : Int) (a : Option Addr) (n cap : Nat) (v : Value) (M : List NV) (W : World) : Prop where
  low : Below w.heap.size w W
  src : W.heap[w.heap.size]? = some (.cells #[.int .i64 S, .int .i64 R, .slice a n cap] 32 (0, 0))
  res : W.heap[w.heap.size + 1]? = some (.cells #[.int .i64 0, .int .i64 0, .slice none 0 0] 29 (0, 0))
  box : W.heap[w.heap.size + 2]? = some (.cells #[.int .i64 S, .int .i64 R, v] 55 (0, 0))
  own : OwnN W (w.heap.size + 3) v M
theorem CopyAt.below {w W W' : World} {S R : Int} {a : Option Addr} {n cap : Nat} {v : Value} {M : List NV} (h : CopyAt w S R a n cap v M W) (hb : Below W.heap.size W W') : CopyAt w S R a n cap v M W' :=
  ⟨below_up h.low hb, kept_obj hb h.src, kept_obj hb h.res, kept_obj hb h.box, h.own.below hb⟩
theorem copyAt_new {w : World} {S R : Int} {a : Option Addr} {n cap : Nat} : CopyAt w S R a n cap (.slice none 0 0) [] (((w.alloc (.cells #[.int .i64 S, .int .i64 R, .slice a n cap] 32)).alloc (.cells #[.int .i64 0, .int .i64 0, .slice none 0 0] 29)).alloc (.cells #[.int .i64 S, .int .i64 R, .slice none 0 0] 55)) := by
  refine ⟨(by repeat (first | exact Below.refl _ _ | (with_reducible assumption) | refine bw_alloc ?_ _ | refine bw_drew ?_)), ?_, ?_, ?_, OwnN.nil _ _⟩
  · rw [Below.heap_alloc _ _ _ (by simp; omega), Below.heap_alloc _ _ _ (by simp)]; exact heap_alloc_new w _
  · rw [Below.heap_alloc _ _ _ (by simp)]
    have := heap_alloc_new (w.alloc (.cells #[.int .i64 S, .int .i64 R, .slice a n cap] 32)) (.cells #[.int .i64 0, .int .i64 0, .slice none 0 0] 29)
    rwa [World.size_alloc] at this
  · have := heap_alloc_new ((w.alloc (.cells #[.int .i64 S, .int .i64 R, .slice a n cap] 32)).alloc (.cells #[.int .i64 0, .int .i64 0, .slice none 0 0] 29)) (.cells #[.int .i64 S, .int .i64 R, .slice none 0 0] 55)
    rwa [World.size_alloc, World.size_alloc] at this
theorem OwnN.set {w : World} {B : Nat} {v : Value} {l : List NV} (h : OwnN w B v l) {a : Addr} (ha : a.block < B) (u : Value) : OwnN (w.setCell a u) B v l := ownsRow_setCell_below h ha u
theorem CopyAt.push {w W w3 : World} {S R : Int} {a : Option Addr} {n cap : Nat} {v v' : Value} {M M' : List NV} (h : CopyAt w S R a n cap v M W) (hg : W.grownBy w3 v.ownBlock) (ho : OwnN w3 (w.heap.size + 3) v' M') :
    CopyAt w S R a n cap v' M' (w3.setCell ⟨w.heap.size + 2, 2, none⟩ v') ∧ w3.cell? ⟨w.heap.size + 2, 2, none⟩ = some v ∧ w3.frozen? ⟨w.heap.size + 2, 2, none⟩ = false := by
  have hs : w.heap.size + 3 ≤ W.heap.size := lt_of_block h.box
  have hb : Below (w.heap.size + 3) W w3 := (Below.refl _ W).grown hg hs (fun k hk => (h.own.new hk).1)
  have h3 := kept_objB hb (by omega) h.box
  refine ⟨⟨(h.low.trans (hb.mono (by omega))).setCell (p := ⟨w.heap.size + 2, 2, none⟩) (by show _ ≤ _ + 2; omega) _, ?_, ?_, (blk_set h3 _).trans rfl, ho.set (by show _ + 2 < _; omega) _⟩, by rw [blk_cell h3]; rfl, blk_free h3 2⟩
  · rw [blk_far (a := ⟨w.heap.size + 2, 2, none⟩) (by show _ ≠ _ + 2; omega)]; exact kept_objB hb (by omega) h.src
  · rw [blk_far (a := ⟨w.heap.size + 2, 2, none⟩) (by show _ ≠ _ + 2; omega)]; exact kept_objB hb (by omega) h.res
theorem copy_done {w W W5 : World} {s r : Int} {a : Option Addr} {n c : Nat} {L : List TV} (hl : Below w.heap.size w W) (hb : Below W.heap.size W W5) (hres : W5.heap[w.heap.size + 1]? = some (.cells #[.int .i64 0, .int .i64 0, .slice none 0 0] 29 (0, 0))) (hrl : w.heap.size + 1 < W.heap.size)
    (ho : OwnT W5 W.heap.size (.slice a n c) L) (hok : AllOk W5 L) (hi : ∀ x ∈ L, IsI W5 x.a1 x.ch ∧ IsI W5 x.a2 x.us) (hm : Made s r L) (x0 x1 x2 : Value) :
    MadeBack w (.returned (.agg #[.int .i64 s, .int .i64 r, .slice a n c])) (((W5.setCell ⟨w.heap.size + 1, 0, none⟩ x0).setCell ⟨w.heap.size + 1, 1, none⟩ x1).setCell ⟨w.heap.size + 1, 2, none⟩ x2) := by
  have hb2 : Below w.heap.size w (((W5.setCell ⟨w.heap.size + 1, 0, none⟩ x0).setCell ⟨w.heap.size + 1, 1, none⟩ x1).setCell ⟨w.heap.size + 1, 2, none⟩ x2) :=
    (((below_up hl hb).setCell (p := ⟨w.heap.size + 1, 0, none⟩) (Nat.le_succ _) x0).setCell (p := ⟨w.heap.size + 1, 1, none⟩) (Nat.le_succ _) x1).setCell (p := ⟨w.heap.size + 1, 2, none⟩) (Nat.le_succ _) x2
  have ho2 := ((ho.set (a := ⟨w.heap.size + 1, 0, none⟩) hrl x0).set (a := ⟨w.heap.size + 1, 1, none⟩) hrl x1).set (a := ⟨w.heap.size + 1, 2, none⟩) hrl x2
  have hk : ∀ (b : Nat) (cs : Array Value) (T : TypeId) (fr : Nat × Nat), W5.heap[b]? = some (.cells cs T fr) → (T = 2 ∨ T = 3) → (((W5.setCell ⟨w.heap.size + 1, 0, none⟩ x0).setCell ⟨w.heap.size + 1, 1, none⟩ x1).setCell ⟨w.heap.size + 1, 2, none⟩ x2).heap[b]? = W5.heap[b]? := by
    intro b cs T fr hc hT
    have hne : b ≠ w.heap.size + 1 := by
      rintro rfl
      rw [hres] at hc
      simp at hc
      rcases hT with q | q <;> rw [q] at hc <;> exact absurd hc.2.1 (by decide)
    rw [blk_far (a := ⟨w.heap.size + 1, 2, none⟩) hne, blk_far (a := ⟨w.heap.size + 1, 1, none⟩) hne, blk_far (a := ⟨w.heap.size + 1, 0, none⟩) hne]
  exact ⟨s, r, a, n, c, L, rfl, ho2.low (by omega), fun x hx => (hok x hx).kept (hi x hx) hk, fun x hx => ⟨(hi x hx).1.kept hk, (hi x hx).2.kept hk⟩, hm, hb2⟩

set_option maxRecDepth 100000 in
set_option maxHeartbeats 4000000 in
theorem made5_any {w : World} {a : Option Addr} {n cap : Nat} {L : List NV} (S R : Int) (hn : Nums w a n cap L) :
    Calls Tryz.prog 8 #[.agg #[.int .i64 S, .int .i64 R, .slice a n cap]] w (MadeBack w) := by
  have HA := Lib.hid hn
  have hz := zeroSys
  have hn9 := hn.small
  clear hn
  go_enter Tryz.func8, Tryz.ntmps8
  go_wp2_with fail
  refine gen_world (CopyAt w S R a n cap (.slice none 0 0) []) copyAt_new ?_
  intro W1 hw1
  have H1 := Lib.hid hw1
  obtain ⟨m, hm⟩ : ∃ m, m = min n 6 := ⟨_, rfl⟩
  have hm1 : m ≤ n := by omega
  have hm6 : m ≤ 6 := by omega
  have hor : m = n ∨ (m = 6 ∧ 6 < n) := by omega
  have HOR := Lib.hid hor
  clear hm hor hw1
  go_loopw [4] (fun u wr => ∃ (k : Nat) (a' : Option Addr) (cp' : Nat), k ≤ m ∧ u = .int .i64 k ∧ Hid (CopyAt w S R a n cap (.slice a' k cp') (L.take k) wr)) (fun u _ => (m - intOf u).toNat)
  case atStart => exact ⟨0, _, _, by omega, rfl, H1⟩
  case round =>
    obtain ⟨k, a', cp', hk, rfl, HP⟩ := hrel
    clear H1
    have b2 : wr.cell? ⟨w.heap.size + 2, 2, none⟩ = some (.slice a' k cp') := by rw [blk_cell HP.out.box]; rfl
    have s2 : wr.cell? ⟨w.heap.size, 2, none⟩ = some (.slice a n cap) := by rw [blk_cell HP.out.src]; rfl
    have hl2 : w.heap.size + 2 < wr.heap.size := lt_of_block HP.out.box
    have hl0 : w.heap.size < wr.heap.size := lt_of_block HP.out.src
    by_cases hlt : k < m
    · obtain ⟨x, hx⟩ := nth_of HA.out.len (show k < n by omega)
      obtain ⟨g', o', rfl, ⟨c0, c1, c2, c3, c4, c5⟩⟩ := (HA.out.view.below HP.out.low).at_ hx
      have hk1 : (k : Int) < (n : Int) := by omega
      have hk6 : (k : Int) < 6 := by omega
      have hk0 : (0 : Int) ≤ (k : Int) := by omega
      have HTL : Hid ((L.take k).length = k) := by show _ = _; rw [List.length_take, HA.out.len]; omega
      have HSM : Hid ((L.take k).length + 1 ≤ 2000000) := by show _ ≤ _; rw [HTL.out]; omega
      have HNN : Hid ((L.take k).length + 1 = k + 1) := by show _ = _; rw [HTL.out]
      have HTK : Hid (L.take k ++ [x] = L.take (k + 1)) := by show _ = _; rw [List.take_add_one, hx]; rfl
      clear hx
      go_upto_region 5 with fail
      go_region_law (refine nstep_append (m := 1) (l := [x]) rfl (.tmp 22) (.tmp 28) rfl (by rfl) (by rfl) (HP.out.below (by repeat (first | exact Below.refl _ _ | (with_reducible assumption) | refine bw_alloc ?_ _ | refine bw_drew ?_))).own (Nat.le_trans (lt_of_block HP.out.box) ((by repeat (first | exact Below.refl _ _ | (with_reducible assumption) | refine bw_alloc ?_ _ | refine bw_drew ?_)) : Below wr.heap.size wr _).size) (by first | exact NView.of_at (nat_new _ _ _) | exact (NView.of_at (nat_new _ _ _)).below (by repeat (first | exact Below.refl _ _ | (with_reducible assumption) | refine bw_alloc ?_ _ | refine bw_drew ?_))) rfl HSM.out (fun z => by cases z) (k + 1) HNN.out ?_
                     intro a3 k3 w3 o3 g3 l3
                     obtain ⟨hq, z1, z2⟩ := (HP.out.below (by repeat (first | exact Below.refl _ _ | (with_reducible assumption) | refine bw_alloc ?_ _ | refine bw_drew ?_))).push g3 (HTK.out ▸ o3)
                     have HN := Lib.hid hq
                     clear hq o3 g3 l3)
      all_goals
        go_wp2
        go_roundw
        case rel => exact ⟨k + 1, _, _, by omega, by go_num, HN⟩
        case measure => simp [intOf]; omega
    · obtain rfl : m = k := by omega
      have b0 : wr.cell? ⟨w.heap.size + 2, 0, none⟩ = some (.int .i64 S) := by rw [blk_cell HP.out.box]; rfl
      have b1 : wr.cell? ⟨w.heap.size + 2, 1, none⟩ = some (.int .i64 R) := by rw [blk_cell HP.out.box]; rfl
      have HTL : Hid ((L.take m).length = m) := by show _ = _; rw [List.length_take, HA.out.len]; omega
      have HNU : Hid (Nums wr a' m cp' (L.take m)) := by
        obtain ⟨a9, c9, e9, v9, _⟩ := HP.out.own.slice
        simp only [Value.slice.injEq] at e9
        obtain ⟨rfl, _, rfl⟩ := e9
        exact ⟨HTL.out, v9, fun x hx => (HA.out.ok x (List.mem_of_mem_take hx)).below HP.out.low, by omega⟩
      have C := Lib.hid (made_any S R HNU.out)
      have q1 : ¬ ((m : Int) < (n : Int)) ∨ ((m : Int) < (n : Int) ∧ ¬ ((m : Int) < 6)) := by
        rcases HOR.out with h | ⟨h1, h2⟩
        · left; omega
        · right; omega
      rcases q1 with q1 | ⟨q1, q2⟩
      all_goals
        go_wp2_with (go_at_call 23; (with_reducible refine (C.out).mono ?_); rintro e w5 ⟨s5, r5, a5, n5, c5, L5, rfl, ho5, hok5, hi5, hm5, b5⟩; have HR := Lib.hid (kept_obj b5 HP.out.res); have r0 : w5.cell? ⟨w.heap.size + 1, 0, none⟩ = some (.int .i64 0) := (by rw [blk_cell HR.out]; rfl); have r1 : w5.cell? ⟨w.heap.size + 1, 1, none⟩ = some (.int .i64 0) := (by rw [blk_cell HR.out]; rfl); have r2 : w5.cell? ⟨w.heap.size + 1, 2, none⟩ = some (.slice none 0 0) := (by rw [blk_cell HR.out]; rfl); have f0 := blk_free HR.out 0; have f1 := blk_free HR.out 1; have f2 := blk_free HR.out 2; have HD := Lib.hid (copy_done HP.out.low b5 HR.out (lt_of_block HP.out.res) ho5 hok5 hi5 hm5); clear ho5 hok5 hi5 hm5 b5)
        exact bodyPost_ret (v := .agg #[.int .i64 s5, .int .i64 r5, .slice a5 n5 c5]) (by simp [results, Tryz.results8, go_sem, r0, r1, r2]) rfl (HD.out _ _ _)
end Go.Proofs.YtlpffgmfgkleiaaGreatDoor

/-
  The walk over the law of rows of words, and of tasks and systems as texts.
-/
namespace Go.Proofs.YtlpffgmfgkleiaaGreatDoor
open Go.RowKit Go.Maps

abbrev RawT : TypeId := 34
/-- What came in, in a box. -/
structure RawAt (w : World) (x : TV) (S R : Int) (a2 : Option Addr) (n2 c2 : Nat) (S3 R3 : Int) (a3 : Option Addr) (n3 c3 : Nat) (v : World) : Prop where
  low : Below w.heap.size w v
  box : Box v w.heap.size RawT #[.int .i64 x.id, .int .i64 x.c, .int .i64 x.d, .int .i64 x.t, .int .i64 x.p, .slice x.a1 x.ch.length x.c1, .slice x.a2 x.us.length x.c2, .int .i64 S, .int .i64 R, .slice a2 n2 c2, .int .i64 S3, .int .i64 R3, .slice a3 n3 c3]
theorem RawAt.below {w v v' : World} {x : TV} {S R S3 R3 : Int} {a2 a3 : Option Addr} {n2 c2 n3 c3 : Nat} (h : RawAt w x S R a2 n2 c2 S3 R3 a3 n3 c3 v) (hb : Below v.heap.size v v') : RawAt w x S R a2 n2 c2 S3 R3 a3 n3 c3 v' := ⟨below_up h.low hb, kept_obj hb h.box⟩
theorem Words.cut {w : World} {a : Option Addr} {n cap k : Nat} {W : List WV} (h : Words w a n cap W) (hk : k ≤ n) : Words w a k cap (W.take k) := ⟨by rw [List.length_take, h.len]; omega, h.view.take k, Nat.le_trans hk h.le, h.small⟩
theorem Tasks.cut {w : World} {a : Option Addr} {n cap k : Nat} {L : List TV} (h : Tasks w a n cap L) (hk : k ≤ n) : Tasks w a k cap (L.take k) := ⟨by rw [List.length_take, h.len]; omega, h.view.take k, h.ok.take k, Nat.le_trans hk h.le, h.small⟩
theorem words_size {s : ByteArray} (hs : s.size ≤ 1050000) : WordsOk (wordsOf s) := fun x hx => by
  have q := (words_found s).1 x hx
  have h1 := q.in_
  have h2 := q.lo
  unfold WV.till at h1
  unfold I64
  omega
theorem rwords_back (s : ByteArray) (hs : s.size ≤ 1050000) {n : Nat} (hn : (wordsOf s).length = n) (w : World) : Calls Tryz.prog 10 #[.string s] w fun e w' => ∃ (a : Option Addr) (c : Nat), e = .returned (.slice a n c) ∧ Words w' a n c (wordsOf s) ∧ Below w.heap.size w w' :=
  (rwords_any s hs w).mono fun e w' ⟨a, c, h1, h2, h3⟩ => by
    obtain ⟨a', c', e2, hv, hl, hm⟩ := h2.slice
    cases e2
    rw [hn] at h1 hl
    exact ⟨a, c, h1, ⟨hn, hv, hl, hm⟩, h3⟩
theorem MadeBack.ints {w w' : World} {e : Ending} (h : MadeBack w e w') : ∃ (s r : Int) (a : Option Addr) (n c : Nat) (L : List TV), e = .returned (.agg #[.int .i64 s, .int .i64 r, .slice a n c]) ∧ Tasks w' a n c L ∧ (∀ x ∈ L, I64 x.p ∧ I64 x.id) ∧ Below w.heap.size w w' := by
  obtain ⟨s, r, a, n, c, L, he, ho, hok, -, hm, hb⟩ := h
  obtain ⟨a2, cap2, e2, hv, hl2, hmx⟩ := ho.slice
  cases e2
  refine ⟨s, r, a, _, c, L, he, ⟨rfl, hv, hok, hl2, hmx⟩, fun x hx => ?_, hb⟩
  have q := check_pass (check_made hm)
  have z := small_of (q.all x hx) q.s.2
  have z1 := z.id
  have z2 := z.p
  unfold I64
  omega

set_option maxRecDepth 100000 in
set_option maxHeartbeats 8000000 in
theorem law_lines (w : World) (hT : PT w) {W : List WV} (hW : WordsOk W) {a : Option Addr} {n cap : Nat} (hv : Words w a n cap W) (s : ByteArray) (x : TV) (hx : x.ok w) (S R : Int) {a2 : Option Addr} {n2 c2 : Nat} {L : List TV} (hL : Tasks w a2 n2 c2 L) (hLi : ∀ y ∈ L, I64 y.p ∧ I64 y.id) (S3 R3 : Int) {a3 : Option Addr} {n3 c3 : Nat} {L3 : List NV} (hn : Nums w a3 n3 c3 L3) :
    Calls Tryz.prog 3 #[.slice a n cap, .string s, .agg #[.int .i64 x.id, .int .i64 x.c, .int .i64 x.d, .int .i64 x.t, .int .i64 x.p, .slice x.a1 x.ch.length x.c1, .slice x.a2 x.us.length x.c2, .int .i64 S, .int .i64 R, .slice a2 n2 c2, .int .i64 S3, .int .i64 R3, .slice a3 n3 c3]] w fun e w' => e = .returned (.bool true) ∧ Below w.heap.size w w' := by
  have HPT : Hid (PT w) := hT
  have HX := Lib.hid hx
  obtain ⟨s1, hs1⟩ : ∃ t, shortOf s 80 = t := ⟨_, rfl⟩
  have hs1s : s1.size ≤ 80 := by
    rw [← hs1]; unfold shortOf
    split
    · rw [ByteArray.size_extract]; omega
    · omega
  have SH : Hid (∀ v, Calls Tryz.prog 11 #[.string s, .int .i64 80] v fun e w' => e = .returned (.string s1) ∧ v = w') := fun v => by have := short_any s 80 (by omega) v; rwa [hs1] at this
  have MKM : Hid (∀ v, Below w.heap.size w v → Calls Tryz.prog 8 #[.agg #[.int .i64 S3, .int .i64 R3, .slice a3 n3 c3]] v (MadeBack v)) := fun v hb => made5_any S3 R3 (hn.below hb)
  obtain ⟨nw, hnw⟩ : ∃ n, (wordsOf s1).length = n := ⟨_, rfl⟩
  have WB : Hid (∀ v, Calls Tryz.prog 10 #[.string s1] v fun e w' => ∃ (a : Option Addr) (c : Nat), e = .returned (.slice a nw c) ∧ Words w' a nw c (wordsOf s1) ∧ Below v.heap.size v w') := fun v => rwords_back s1 (by omega) hnw v
  have HWS : Hid (WordsOk (wordsOf s1)) := words_size (by omega)
  -- the words, twelve at most
  obtain ⟨k, hkw, hkd⟩ : ∃ k, Words w a k cap (W.take k) ∧ ((12 < n ∧ k = 12) ∨ (¬ 12 < n ∧ k = n)) := by
    by_cases q : 12 < n
    · exact ⟨12, hv.cut (by omega), .inl ⟨q, rfl⟩⟩
    · exact ⟨n, hv.cut (Nat.le_refl _), .inr ⟨q, rfl⟩⟩
  have HKW := Lib.hid hkw
  have HKO : Hid (WordsOk (W.take k)) := fun y hy => hW y (List.mem_of_mem_take hy)
  have aw : 12 < n → ∃ g o, a = some ⟨g, o, none⟩ := fun hl => by
    rcases hv.view with q | ⟨g, o, q, _⟩
    · have := hv.len; rw [q] at this; simp at this; omega
    · exact ⟨g, o, q⟩
  have ncap := hv.le
  obtain ⟨m, hmt, hmd⟩ : ∃ m, Tasks w a2 m c2 (L.take m) ∧ ((5 < n2 ∧ m = 5) ∨ (¬ 5 < n2 ∧ m = n2)) := by
    by_cases q : 5 < n2
    · exact ⟨5, hL.cut (by omega), .inl ⟨q, rfl⟩⟩
    · exact ⟨n2, hL.cut (Nat.le_refl _), .inr ⟨q, rfl⟩⟩
  have HMT := Lib.hid hmt
  have HMI : Hid (∀ y ∈ L.take m, I64 y.p ∧ I64 y.id) := fun y hy => hLi y (List.mem_of_mem_take hy)
  have at2 : 5 < n2 → ∃ g o, a2 = some ⟨g, o, none⟩ := fun hl => by
    rcases hL.view with q | ⟨g, o, q, _⟩
    · have := hL.len; rw [q] at this; simp at this; omega
    · exact ⟨g, o, q⟩
  have ncap2 := hL.le
  have HM5 : Hid (m ≤ 5) := by show _ ≤ _; omega
  generalize W.take k = W1 at HKW HKO hkw
  generalize L.take m = L1 at HMT HMI hmt
  clear hkw hmt hT hx hs1 hs1s hnw hn hv hL hLi hW
  go_enter Tryz.func3, Tryz.ntmps3
  go_upto_region 1 with fail
  refine gen_world (RawAt w x S R a2 n2 c2 S3 R3 a3 n3 c3) ⟨bw_alloc (Below.refl _ _) _, heap_alloc_new w _⟩ ?_
  intro u0 h0
  have H0 := Lib.hid h0
  clear h0
  go_upto_region 2 with (go_at_call 4; (with_reducible refine ((awake_any _).mono ?_)); rintro e u1 ⟨rfl, b1⟩; have H1 := Lib.hid (H0.out.below b1); clear b1)
  clear H0
  go_upto_if 15 with fail
  go_cut [0] from 13 to 18 (fun u wx => u = .slice a k cap ∧ Hid (RawAt w x S R a2 n2 c2 S3 R3 a3 n3 c3 wx))
  case first =>
    rcases hkd with ⟨q1, rfl⟩ | ⟨q1, rfl⟩
    · obtain ⟨g, o, rfl⟩ := aw q1
      have k1 : (12 : Int) < (n : Int) := by omega
      have k2 : (12 : Int) ≤ (cap : Int) := by omega
      have k3 : (12 : Int) ≤ (n : Int) := by omega
      have k4 : 12 ≤ cap := by omega
      clear at2 hmd
      go_wp2_with fail
      go_meet
      exact ⟨rfl, H1⟩
    · have k1 : ¬ (12 : Int) < (k : Int) := by omega
      clear at2 hmd aw
      go_wp2_with fail
      go_meet
      exact ⟨rfl, H1⟩
  case rest =>
    obtain ⟨rfl, H2⟩ := hcut
    clear H1 aw ncap hkd
    have r9 : wc.cell? ⟨w.heap.size, 9, none⟩ = some (.slice a2 n2 c2) := blk_cell H2.out.box 9
    have f9 := blk_free H2.out.box 9
    have hr := lt_of_block H2.out.box
    go_upto_if 22 with fail
    go_cut [0] from 18 to 29 (fun u wx => u = .slice a k cap ∧ Hid (RawAt w x S R a2 m c2 S3 R3 a3 n3 c3 wx))
    case first =>
      rcases hmd with ⟨q1, rfl⟩ | ⟨q1, rfl⟩
      · obtain ⟨g, o, rfl⟩ := at2 q1
        have k1 : (5 : Int) < (n2 : Int) := by omega
        have k2 : (5 : Int) ≤ (c2 : Int) := by omega
        have k3 : (5 : Int) ≤ (n2 : Int) := by omega
        have k4 : 5 ≤ c2 := by omega
        go_wp2_with fail
        go_meet
        exact ⟨rfl, Lib.hid ⟨H2.out.low.setCell (p := ⟨w.heap.size, 9, none⟩) (Nat.le_refl _) _, (blk_set (o := 9) H2.out.box _).trans rfl⟩⟩
      · have k1 : ¬ (5 : Int) < (m : Int) := by omega
        clear at2
        go_wp2_with fail
        go_meet
        exact ⟨rfl, H2⟩
    case rest =>
      obtain ⟨rfl, H3⟩ := hcut
      clear H2 at2 ncap2 hmd r9 f9 hr
      go_wp2_with fail
      go_loopw [8] (fun i wr => ∃ j : Nat, j ≤ m ∧ i = .int .i64 j ∧ Hid (RawAt w x S R a2 m c2 S3 R3 a3 n3 c3 wr)) (fun i _ => (m - intOf i).toNat)
      case atStart => exact ⟨0, by omega, rfl, H3⟩
      case round =>
        obtain ⟨j, hj, rfl, HP⟩ := hrel
        clear H3
        have r9 : wr.cell? ⟨w.heap.size, 9, none⟩ = some (.slice a2 m c2) := blk_cell HP.out.box 9
        have hr := lt_of_block HP.out.box
        by_cases hlt : j < m
        · obtain ⟨y, hy⟩ := nth_of HMT.out.len hlt
          obtain ⟨g, o, rfl, ⟨d0, d1, d2, d3, d4, d5, d6⟩⟩ := (HMT.out.view.below HP.out.low).at_ hy
          have hj1 : (j : Int) < (m : Int) := by omega
          have hj0 : (0 : Int) ≤ (j : Int) := by omega
          have HLT := Lib.hid hlt
          have hwi : IntKind.i64.wrap ((j : Int) + 1) = (j : Int) + 1 := IntWalk.i64_in _ (by have := HM5.out; omega)
          have HY : Hid (y.ok wr) := (HMT.out.ok.at_ hy).below HP.out.low
          obtain ⟨z, hz⟩ : ∃ z, lessOf y = z := ⟨_, rfl⟩
          have HZ : Hid (z.ok wr) := hz ▸ less_ok HY.out
          have CL : Hid (Calls Tryz.prog 5 #[y.val] wr fun e w' => e = .returned z.val ∧ Below wr.heap.size wr w') := hz ▸ less_any y wr HY.out
          unfold TV.val at CL
          obtain ⟨Y, hYY⟩ : ∃ Y, lineText z.tk = Y := ⟨_, rfl⟩
          have HYY := Lib.hid hYY
          clear hy hz hYY
          go_upto_region 10 with (go_at_call 5; (with_reducible refine (CL.out).mono ?_); rintro e u2 ⟨rfl, b2⟩; have P2 := Lib.hid (HP.out.below b2); have Z2 := Lib.hid (HZ.out.below b2); clear b2)
          refine gen_world (fun v => RawAt w x S R (some ⟨g, o, none⟩) m c2 S3 R3 a3 n3 c3 v ∧ z.ok v ∧ Box v u2.heap.size TT #[.int .i64 z.id, .int .i64 z.c, .int .i64 z.d, .int .i64 z.t, .int .i64 z.p, .slice z.a1 z.ch.length z.c1, .slice z.a2 z.us.length z.c2]) ⟨P2.out.below (bw_alloc (Below.refl _ _) _), Z2.out.below (bw_alloc (Below.refl _ _) _), heap_alloc_new u2 _⟩ ?_
          intro u3 ⟨hp3, hz3, hx3⟩
          have P3 := Lib.hid hp3
          have Z3 := Lib.hid hz3
          have X3 := Lib.hid hx3
          clear hp3 hz3 hx3 P2 Z2 CL r9 hr d0 d1 d2 d3 d4 d5 d6 HY HZ HP
          have E1 : Hid (∀ v, Below u3.heap.size u3 v → Calls Tryz.prog 6 #[.agg #[.int .i64 z.id, .int .i64 z.c, .int .i64 z.d, .int .i64 z.t, .int .i64 z.p, .slice z.a1 z.ch.length z.c1, .slice z.a2 z.us.length z.c2]] v fun e w' => e = .returned (.string Y) ∧ Below u3.heap.size u3 w') := fun v hb => by
            have := line_any z v (Z3.out.below hb) (HPT.out.below (below_up P3.out.low hb))
            rw [HYY.out] at this
            exact this.mono fun _ _ ⟨h1, h2⟩ => ⟨h1, below_up hb h2⟩
          have E2 : Hid (∀ v, Below u3.heap.size u3 v → Calls Tryz.prog 7 #[.agg #[.int .i64 z.id, .int .i64 z.c, .int .i64 z.d, .int .i64 z.t, .int .i64 z.p, .slice z.a1 z.ch.length z.c1, .slice z.a2 z.us.length z.c2]] v fun e w' => e = .returned (.string Y) ∧ Below u3.heap.size u3 w') := fun v hb => by
            have := rtext_any z v (Z3.out.below hb)
            rw [HYY.out] at this
            exact this.mono fun _ _ ⟨h1, h2⟩ => ⟨h1, below_up hb h2⟩
          have MK : Hid (∀ v, Below u3.heap.size u3 v → (Below u3.heap.size u3 v ∧ v.cell? ⟨u2.heap.size, 0, none⟩ = some (.int .i64 z.id) ∧ v.cell? ⟨u2.heap.size, 1, none⟩ = some (.int .i64 z.c) ∧ v.cell? ⟨u2.heap.size, 2, none⟩ = some (.int .i64 z.d) ∧ v.cell? ⟨u2.heap.size, 3, none⟩ = some (.int .i64 z.t) ∧ v.cell? ⟨u2.heap.size, 4, none⟩ = some (.int .i64 z.p) ∧ v.cell? ⟨u2.heap.size, 5, none⟩ = some (.slice z.a1 z.ch.length z.c1) ∧ v.cell? ⟨u2.heap.size, 6, none⟩ = some (.slice z.a2 z.us.length z.c2))) := fun v hb => ⟨hb, kept_cell hb (blk_cell X3.out 0), kept_cell hb (blk_cell X3.out 1), kept_cell hb (blk_cell X3.out 2), kept_cell hb (blk_cell X3.out 3), kept_cell hb (blk_cell X3.out 4), kept_cell hb (blk_cell X3.out 5), kept_cell hb (blk_cell X3.out 6)⟩
          have r0 := Below.refl u3.heap.size u3
          go_region_held3 (fun v => Below u3.heap.size u3 v ∧ v.cell? ⟨u2.heap.size, 0, none⟩ = some (.int .i64 z.id) ∧ v.cell? ⟨u2.heap.size, 1, none⟩ = some (.int .i64 z.c) ∧ v.cell? ⟨u2.heap.size, 2, none⟩ = some (.int .i64 z.d) ∧ v.cell? ⟨u2.heap.size, 3, none⟩ = some (.int .i64 z.t) ∧ v.cell? ⟨u2.heap.size, 4, none⟩ = some (.int .i64 z.p) ∧ v.cell? ⟨u2.heap.size, 5, none⟩ = some (.slice z.a1 z.ch.length z.c1) ∧ v.cell? ⟨u2.heap.size, 6, none⟩ = some (.slice z.a2 z.us.length z.c2)) (exact MK.out _ (by repeat (first | exact Below.refl _ _ | (with_reducible assumption) | refine bw_alloc ?_ _ | refine bw_drew ?_))) (first
            | (go_at_call 6; (with_reducible refine (E1.out _ (by repeat (first | exact Below.refl _ _ | (with_reducible assumption) | refine bw_alloc ?_ _ | refine bw_drew ?_))).mono ?_); rintro e wx ⟨rfl, bx⟩)
            | (go_at_call 7; (with_reducible refine (E2.out _ (by repeat (first | exact Below.refl _ _ | (with_reducible assumption) | refine bw_alloc ?_ _ | refine bw_drew ?_))).mono ?_); rintro e wx ⟨rfl, bx⟩))
          all_goals
            go_wp2_with fail
            go_roundw
            case rel => exact ⟨j + 1, by have := HLT.out; omega, by go_num, Lib.hid (P3.out.below (by repeat (first | exact Below.refl _ _ | (with_reducible assumption) | refine bw_alloc ?_ _ | refine bw_drew ?_)))⟩
            case measure => have := HLT.out; simp [intOf]; omega
        · obtain rfl : m = j := by omega
          clear hj hlt
          have p0 : wr.cell? ⟨w.heap.size, 0, none⟩ = some (.int .i64 x.id) := blk_cell HP.out.box 0
          have p1 : wr.cell? ⟨w.heap.size, 1, none⟩ = some (.int .i64 x.c) := blk_cell HP.out.box 1
          have p2 : wr.cell? ⟨w.heap.size, 2, none⟩ = some (.int .i64 x.d) := blk_cell HP.out.box 2
          have p3 : wr.cell? ⟨w.heap.size, 3, none⟩ = some (.int .i64 x.t) := blk_cell HP.out.box 3
          have p4 : wr.cell? ⟨w.heap.size, 4, none⟩ = some (.int .i64 x.p) := blk_cell HP.out.box 4
          have p5 : wr.cell? ⟨w.heap.size, 5, none⟩ = some (.slice x.a1 x.ch.length x.c1) := blk_cell HP.out.box 5
          have p6 : wr.cell? ⟨w.heap.size, 6, none⟩ = some (.slice x.a2 x.us.length x.c2) := blk_cell HP.out.box 6
          obtain ⟨z, hz⟩ : ∃ z, lessOf x = z := ⟨_, rfl⟩
          have HXX : Hid (x.ok wr) := HX.out.below HP.out.low
          have HZ : Hid (z.ok wr) := hz ▸ less_ok HXX.out
          have CL : Hid (Calls Tryz.prog 5 #[x.val] wr fun e w' => e = .returned z.val ∧ Below wr.heap.size wr w') := hz ▸ less_any x wr HXX.out
          unfold TV.val at CL
          obtain ⟨Y, hYY⟩ : ∃ Y, lineText z.tk = Y := ⟨_, rfl⟩
          have HYY := Lib.hid hYY
          clear hz hYY
          go_upto_region 13 with (go_at_call 5; (with_reducible refine (CL.out).mono ?_); rintro e u2 ⟨rfl, b2⟩; have P2 := Lib.hid (HP.out.below b2); have Z2 := Lib.hid (HZ.out.below b2); clear b2)
          refine gen_world (fun v => RawAt w x S R a2 m c2 S3 R3 a3 n3 c3 v ∧ z.ok v ∧ Box v u2.heap.size TT #[.int .i64 z.id, .int .i64 z.c, .int .i64 z.d, .int .i64 z.t, .int .i64 z.p, .slice z.a1 z.ch.length z.c1, .slice z.a2 z.us.length z.c2]) ⟨P2.out.below (bw_alloc (Below.refl _ _) _), Z2.out.below (bw_alloc (Below.refl _ _) _), heap_alloc_new u2 _⟩ ?_
          intro u3 ⟨hp3, hz3, hx3⟩
          have P3 := Lib.hid hp3
          have Z3 := Lib.hid hz3
          have X3 := Lib.hid hx3
          have s0 : u3.cell? ⟨w.heap.size, 10, none⟩ = some (.int .i64 S3) := blk_cell hp3.box 10
          have s1' : u3.cell? ⟨w.heap.size, 11, none⟩ = some (.int .i64 R3) := blk_cell hp3.box 11
          have s2 : u3.cell? ⟨w.heap.size, 12, none⟩ = some (.slice a3 n3 c3) := blk_cell hp3.box 12
          clear hp3 hz3 hx3 P2 Z2 CL p0 p1 p2 p3 p4 p5 p6 HXX HZ HP r9 hr
          go_upto_region 14 with (go_at_call 8; (with_reducible refine (MKM.out _ P3.out.low).mono ?_); rintro y u4 hm; obtain ⟨s', r', a5, n5, c5, M, rfl, hT5, hi5, b4⟩ := hm.ints; have P4 := Lib.hid (P3.out.below b4); have Z4 := Lib.hid (Z3.out.below b4); have X4 := Lib.hid (kept_obj b4 X3.out); have T4 := Lib.hid hT5; have I4 := Lib.hid hi5; clear hT5 hi5 b4 hm)
          refine gen_world (fun v => RawAt w x S R a2 m c2 S3 R3 a3 n3 c3 v ∧ z.ok v ∧ Box v u2.heap.size TT #[.int .i64 z.id, .int .i64 z.c, .int .i64 z.d, .int .i64 z.t, .int .i64 z.p, .slice z.a1 z.ch.length z.c1, .slice z.a2 z.us.length z.c2] ∧ Box v u4.heap.size SysT #[.int .i64 s', .int .i64 r', .slice a5 n5 c5] ∧ Tasks v a5 n5 c5 M) ⟨P4.out.below (bw_alloc (Below.refl _ _) _), Z4.out.below (bw_alloc (Below.refl _ _) _), kept_obj (bw_alloc (Below.refl _ _) _) X4.out, heap_alloc_new u4 _, T4.out.below (bw_alloc (Below.refl _ _) _)⟩ ?_
          intro u5 ⟨hp5, hz5, hx5, hy5, ht5⟩
          have P5 := Lib.hid hp5
          have Z5 := Lib.hid hz5
          have X5 := Lib.hid hx5
          have Y5 := Lib.hid hy5
          have T5 := Lib.hid ht5
          clear hp5 hz5 hx5 hy5 ht5 P4 Z4 X4 T4 P3 Z3 X3 s0 s1' s2 MKM
          have HB : Hid (∀ v, Below u5.heap.size u5 v → Below w.heap.size w v) := fun v hb => below_up P5.out.low hb
          have HMT5 : Hid (∀ v, Below u5.heap.size u5 v → Tasks v a2 m c2 L1) := fun v hb => HMT.out.below (HB.out v hb)
          obtain ⟨T1, hT1⟩ : ∃ T, printText s' r' (M.map TV.tk) = T := ⟨_, rfl⟩
          obtain ⟨T2, hT2⟩ : ∃ T, printText S R (L1.map TV.tk) = T := ⟨_, rfl⟩
          have R1 : Hid (∀ v, Below u5.heap.size u5 v → Calls Tryz.prog 9 #[.slice a k cap] v fun e w' => e = .returned (.bool true) ∧ Below u5.heap.size u5 w') := fun v hb => (reads_any HKO.out v (HKW.out.below (HB.out v hb))).mono fun _ _ ⟨h1, h2⟩ => ⟨h1, below_up hb h2⟩
          have R2 : Hid (∀ v, Below u5.heap.size u5 v → Calls Tryz.prog 10 #[.string s1] v fun e w' => ∃ (a : Option Addr) (c : Nat), e = .returned (.slice a nw c) ∧ Hid (Words w' a nw c (wordsOf s1)) ∧ Below u5.heap.size u5 w') := fun v hb => (WB.out v).mono fun _ _ ⟨a, c, h1, h2, h3⟩ => ⟨a, c, h1, h2, below_up hb h3⟩
          have R3 : Hid (∀ (a : Option Addr) (c : Nat) v, Below u5.heap.size u5 v → Hid (Words v a nw c (wordsOf s1)) → Calls Tryz.prog 9 #[.slice a nw c] v fun e w' => e = .returned (.bool true) ∧ Below u5.heap.size u5 w') := fun a c v hb hw => (reads_any HWS.out v hw.out).mono fun _ _ ⟨h1, h2⟩ => ⟨h1, below_up hb h2⟩
          have E1 : Hid (∀ v, Below u5.heap.size u5 v → Calls Tryz.prog 6 #[.agg #[.int .i64 z.id, .int .i64 z.c, .int .i64 z.d, .int .i64 z.t, .int .i64 z.p, .slice z.a1 z.ch.length z.c1, .slice z.a2 z.us.length z.c2]] v fun e w' => e = .returned (.string Y) ∧ Below u5.heap.size u5 w') := fun v hb => by
            have := line_any z v (Z5.out.below hb) (HPT.out.below (HB.out v hb))
            rw [HYY.out] at this
            exact this.mono fun _ _ ⟨h1, h2⟩ => ⟨h1, below_up hb h2⟩
          have E2 : Hid (∀ v, Below u5.heap.size u5 v → Calls Tryz.prog 7 #[.agg #[.int .i64 z.id, .int .i64 z.c, .int .i64 z.d, .int .i64 z.t, .int .i64 z.p, .slice z.a1 z.ch.length z.c1, .slice z.a2 z.us.length z.c2]] v fun e w' => e = .returned (.string Y) ∧ Below u5.heap.size u5 w') := fun v hb => by
            have := rtext_any z v (Z5.out.below hb)
            rw [HYY.out] at this
            exact this.mono fun _ _ ⟨h1, h2⟩ => ⟨h1, below_up hb h2⟩
          have E3 : Hid (∀ v, Below u5.heap.size u5 v → Calls Tryz.prog 12 #[.agg #[.int .i64 s', .int .i64 r', .slice a5 n5 c5]] v fun e w' => e = .returned (.string T1) ∧ Below u5.heap.size u5 w') := fun v hb => by
            have := print_any s' r' (T5.out.below hb) I4.out (HPT.out.below (HB.out v hb))
            rw [hT1] at this
            exact this.mono fun _ _ ⟨h1, h2⟩ => ⟨h1, below_up hb h2⟩
          have E4 : Hid (∀ v, Below u5.heap.size u5 v → Calls Tryz.prog 13 #[.agg #[.int .i64 s', .int .i64 r', .slice a5 n5 c5]] v fun e w' => e = .returned (.string T1) ∧ Below u5.heap.size u5 w') := fun v hb => by
            have := rprint_any s' r' (T5.out.below hb)
            rw [hT1] at this
            exact this.mono fun _ _ ⟨h1, h2⟩ => ⟨h1, below_up hb h2⟩
          have E5 : Hid (∀ v, Below u5.heap.size u5 v → Calls Tryz.prog 12 #[.agg #[.int .i64 S, .int .i64 R, .slice a2 m c2]] v fun e w' => e = .returned (.string T2) ∧ Below u5.heap.size u5 w') := fun v hb => by
            have := print_any S R (HMT5.out v hb) HMI.out (HPT.out.below (HB.out v hb))
            rw [hT2] at this
            exact this.mono fun _ _ ⟨h1, h2⟩ => ⟨h1, below_up hb h2⟩
          have E6 : Hid (∀ v, Below u5.heap.size u5 v → Calls Tryz.prog 13 #[.agg #[.int .i64 S, .int .i64 R, .slice a2 m c2]] v fun e w' => e = .returned (.string T2) ∧ Below u5.heap.size u5 w') := fun v hb => by
            have := rprint_any S R (HMT5.out v hb)
            rw [hT2] at this
            exact this.mono fun _ _ ⟨h1, h2⟩ => ⟨h1, below_up hb h2⟩
          have MK : Hid (∀ v, Below u5.heap.size u5 v → (Below u5.heap.size u5 v ∧ v.cell? ⟨u2.heap.size, 0, none⟩ = some (.int .i64 z.id) ∧ v.cell? ⟨u2.heap.size, 1, none⟩ = some (.int .i64 z.c) ∧ v.cell? ⟨u2.heap.size, 2, none⟩ = some (.int .i64 z.d) ∧ v.cell? ⟨u2.heap.size, 3, none⟩ = some (.int .i64 z.t) ∧ v.cell? ⟨u2.heap.size, 4, none⟩ = some (.int .i64 z.p) ∧ v.cell? ⟨u2.heap.size, 5, none⟩ = some (.slice z.a1 z.ch.length z.c1) ∧ v.cell? ⟨u2.heap.size, 6, none⟩ = some (.slice z.a2 z.us.length z.c2) ∧ v.cell? ⟨u4.heap.size, 0, none⟩ = some (.int .i64 s') ∧ v.cell? ⟨u4.heap.size, 1, none⟩ = some (.int .i64 r') ∧ v.cell? ⟨u4.heap.size, 2, none⟩ = some (.slice a5 n5 c5) ∧ v.cell? ⟨w.heap.size, 7, none⟩ = some (.int .i64 S) ∧ v.cell? ⟨w.heap.size, 8, none⟩ = some (.int .i64 R) ∧ v.cell? ⟨w.heap.size, 9, none⟩ = some (.slice a2 m c2))) := fun v hb => ⟨hb, kept_cell hb (blk_cell X5.out 0), kept_cell hb (blk_cell X5.out 1), kept_cell hb (blk_cell X5.out 2), kept_cell hb (blk_cell X5.out 3), kept_cell hb (blk_cell X5.out 4), kept_cell hb (blk_cell X5.out 5), kept_cell hb (blk_cell X5.out 6), kept_cell hb (blk_cell Y5.out 0), kept_cell hb (blk_cell Y5.out 1), kept_cell hb (blk_cell Y5.out 2), kept_cell hb (blk_cell P5.out.box 7), kept_cell hb (blk_cell P5.out.box 8), kept_cell hb (blk_cell P5.out.box 9)⟩
          have r0 := Below.refl u5.heap.size u5
          clear hT1 hT2 HMT5 HKW HMT I4 T5 Z5 X5 Y5 WB HYY HMI HKO HWS
          as_aux_lemma =>
            go_region_held3 (fun v => Below u5.heap.size u5 v ∧ v.cell? ⟨u2.heap.size, 0, none⟩ = some (.int .i64 z.id) ∧ v.cell? ⟨u2.heap.size, 1, none⟩ = some (.int .i64 z.c) ∧ v.cell? ⟨u2.heap.size, 2, none⟩ = some (.int .i64 z.d) ∧ v.cell? ⟨u2.heap.size, 3, none⟩ = some (.int .i64 z.t) ∧ v.cell? ⟨u2.heap.size, 4, none⟩ = some (.int .i64 z.p) ∧ v.cell? ⟨u2.heap.size, 5, none⟩ = some (.slice z.a1 z.ch.length z.c1) ∧ v.cell? ⟨u2.heap.size, 6, none⟩ = some (.slice z.a2 z.us.length z.c2) ∧ v.cell? ⟨u4.heap.size, 0, none⟩ = some (.int .i64 s') ∧ v.cell? ⟨u4.heap.size, 1, none⟩ = some (.int .i64 r') ∧ v.cell? ⟨u4.heap.size, 2, none⟩ = some (.slice a5 n5 c5) ∧ v.cell? ⟨w.heap.size, 7, none⟩ = some (.int .i64 S) ∧ v.cell? ⟨w.heap.size, 8, none⟩ = some (.int .i64 R) ∧ v.cell? ⟨w.heap.size, 9, none⟩ = some (.slice a2 m c2)) (exact MK.out _ (by repeat (first | exact Below.refl _ _ | (with_reducible assumption) | refine bw_alloc ?_ _ | refine bw_drew ?_))) (first
              | (go_at_call 9; (with_reducible refine (R1.out _ (by repeat (first | exact Below.refl _ _ | (with_reducible assumption) | refine bw_alloc ?_ _ | refine bw_drew ?_))).mono ?_); rintro e wx ⟨rfl, bx⟩)
              | (go_at_call 11; (with_reducible refine (SH.out _).mono ?_); rintro e wx ⟨rfl, rfl⟩)
              | (go_at_call 10; (with_reducible refine (R2.out _ (by repeat (first | exact Below.refl _ _ | (with_reducible assumption) | refine bw_alloc ?_ _ | refine bw_drew ?_))).mono ?_); rintro e wx ⟨a7, c7, rfl, hw7, bx⟩)
              | (go_at_call 9; (with_reducible refine (R3.out _ _ _ (by repeat (first | exact Below.refl _ _ | (with_reducible assumption) | refine bw_alloc ?_ _ | refine bw_drew ?_)) (by assumption)).mono ?_); rintro e wx ⟨rfl, bx⟩)
              | (go_at_call 6; (with_reducible refine (E1.out _ (by repeat (first | exact Below.refl _ _ | (with_reducible assumption) | refine bw_alloc ?_ _ | refine bw_drew ?_))).mono ?_); rintro e wx ⟨rfl, bx⟩)
              | (go_at_call 7; (with_reducible refine (E2.out _ (by repeat (first | exact Below.refl _ _ | (with_reducible assumption) | refine bw_alloc ?_ _ | refine bw_drew ?_))).mono ?_); rintro e wx ⟨rfl, bx⟩)
              | (go_at_call 12; (with_reducible refine (E3.out _ (by repeat (first | exact Below.refl _ _ | (with_reducible assumption) | refine bw_alloc ?_ _ | refine bw_drew ?_))).mono ?_); rintro e wx ⟨rfl, bx⟩)
              | (go_at_call 13; (with_reducible refine (E4.out _ (by repeat (first | exact Below.refl _ _ | (with_reducible assumption) | refine bw_alloc ?_ _ | refine bw_drew ?_))).mono ?_); rintro e wx ⟨rfl, bx⟩)
              | (go_at_call 12; (with_reducible refine (E5.out _ (by repeat (first | exact Below.refl _ _ | (with_reducible assumption) | refine bw_alloc ?_ _ | refine bw_drew ?_))).mono ?_); rintro e wx ⟨rfl, bx⟩)
              | (go_at_call 13; (with_reducible refine (E6.out _ (by repeat (first | exact Below.refl _ _ | (with_reducible assumption) | refine bw_alloc ?_ _ | refine bw_drew ?_))).mono ?_); rintro e wx ⟨rfl, bx⟩))
            all_goals
              go_wp2_with fail
              go_ret
              exact ⟨rfl, HB.out _ (by repeat (first | exact Below.refl _ _ | (with_reducible assumption) | refine bw_alloc ?_ _ | refine bw_drew ?_))⟩
end Go.Proofs.YtlpffgmfgkleiaaGreatDoor

/-
  What the listed variables hold where a call begins; a start at which they hold it.
-/
namespace Go.Proofs.YtlpffgmfgkleiaaGreatDoor
open Go.ChangeShapes Go.WideShapes Go.ChangeAt Go.RowKit

theorem tiedOwn : ownKnob Tryz.prog.godebug = none := by kernel_rfl
theorem tiedLaidOut : laidOutB Tryz.prog = true := by kernel_rfl
theorem laidMet_tail {P : Program} {x : String × DataW Unit} {r : List (String × DataW Unit)} {w : World} (h : laidMet P (x :: r) w) : laidMet P r w := by
  obtain ⟨ps, hv, hn, hr⟩ := h
  obtain ⟨g, t, cs, fuel, p, q, h1, h2, h3, h4, h5, h6⟩ := hv
  subst h6
  exact ⟨q, h5, (List.nodup_append.1 hn).2.1, fun b off hp => hr b off (List.mem_append_right _ hp)⟩
theorem powName : Tryz.prog.globalNamed "internal/strconv.uint64pow10" = some 0 := by kernel_rfl
theorem powType : (Tryz.prog.globals[0]?).map (·.type) = some 160 := by kernel_rfl
theorem powCells1 : Tryz.prog.cellsOf 89 = 1 := by kernel_rfl
theorem powCells : Tryz.prog.cellsOf 160 = 20 := by kernel_rfl
theorem pt_of_met {r : List (String × DataW Unit)} {W : World} (h : laidMet Tryz.prog (("internal/strconv.uint64pow10", Rows.laid_internal_strconv_uint64pow10) :: r) W) : PT W :=
  Lib.tabIs_of_head powName powType Tryz.underlying160 Tryz.underlying89 powCells1 powCells h

abbrev tabLaid3 : List (String × DataW Unit) := [("math/bits.deBruijn32tab", Rows.laid_math_bits_deBruijn32tab), ("math/bits.deBruijn64tab", Rows.laid_math_bits_deBruijn64tab), ("internal/strconv.uint64pow10", Rows.laid_internal_strconv_uint64pow10)]
theorem door_met3 (os : Os) (args : Array Value) : laidMetH Tryz.prog tabLaid3 ((World.doorLaid Tryz.prog 400 os).forCall (fun _ _ => 0) ⟨#[], args, []⟩).memory :=
  laidMetH_of_parts3 (fuel := 8) (laidMet_of_run' 8 (by kernel_rfl) (by kernel_rfl)) (by kernel_rfl) (by kernel_rfl)
theorem pt_of_laid3 {W : World} (h : laidMetH Tryz.prog tabLaid3 W) : PT W := by
  rw [MakeChecks.laidMetH_plain _ _ _ (by kernel_rfl)] at h
  exact pt_of_met (laidMet_tail (laidMet_tail h))
end Go.Proofs.YtlpffgmfgkleiaaGreatDoor

/-
  What the listed variables hold where a call begins, with two more tables; a start at which they hold it.
-/
namespace Go.Proofs.YtlpffgmfgkleiaaGreatDoor
open Go.ChangeShapes Go.WideShapes Go.ChangeAt Go.RowKit

abbrev tabLaid5 : List (String × DataW Unit) := [("math/bits.deBruijn32tab", Rows.laid_math_bits_deBruijn32tab), ("math/bits.deBruijn64tab", Rows.laid_math_bits_deBruijn64tab), ("internal/strconv.uint64pow10", Rows.laid_internal_strconv_uint64pow10), ("unicode/utf8.acceptRanges", Rows.laid_unicode_utf8_acceptRanges), ("unicode/utf8.first", Rows.laid_unicode_utf8_first)]
theorem all_shaped5 (os : Os) : (World.laidAll Tryz.prog os tabLaid5).Shaped Tryz.prog := World.shaped_of_ZipB (by kernel_rfl) (by kernel_rfl)
theorem door_met5 (os : Os) (args : Array Value) : laidMetH Tryz.prog tabLaid5 ((World.laidAll Tryz.prog os tabLaid5).forCall (fun _ _ => 0) ⟨#[], args, []⟩).memory := by
  rw [MakeChecks.laidMetH_plain _ _ _ (by kernel_rfl)]
  exact laidMet_laidAll _ (by kernel_rfl) (by kernel_rfl)
theorem pt_of_laid5 {W : World} (h : laidMetH Tryz.prog tabLaid5 W) : PT W := by
  rw [MakeChecks.laidMetH_plain _ _ _ (by kernel_rfl)] at h
  exact pt_of_met (laidMet_tail (laidMet_tail h))
end Go.Proofs.YtlpffgmfgkleiaaGreatDoor

/-
  What the two listed tables hold where a call begins; a start at which they hold it; how bytes are turned, opened.
-/
namespace Go.Proofs.YtlpffgmfgkleiaaGreatDoor
open Go.ChangeShapes Go.WideShapes Go.ChangeAt Go.RowKit

theorem tiedOwn7 : ownKnob Tryz.prog.godebug = none := by kernel_rfl
theorem tiedLaidOut7 : laidOutB Tryz.prog = true := by kernel_rfl
end Go.Proofs.YtlpffgmfgkleiaaGreatDoor
