/-
  The walk over the statement that a box that was shut takes nothing more.
-/
import Derived.Test.YtkcdblpaaldcaaaQLaw3
import Derived.Deep.RegionWith
namespace Go.Proofs.Ytkcdblpaaldcaaa
open Go.RowKit Go.Maps Go.Conc

theorem mine_shut {W w : World} {b c n : Nat} {q : List Req} {sh : Bool} (h : Mine W w b c n q sh) :
    Calls Try.prog 18 #[.pointer (some ⟨b, 0, none⟩)] w fun r w' => r = .returned (.bool (!sh)) ∧ Mine W w' b c n q true :=
  (shut_some h.box).mono fun e w' ⟨h1, h2⟩ => ⟨h1, h.step ⟨h2.1, h2.2⟩⟩
theorem mine_open {W w : World} {b c n : Nat} {q : List Req} {sh : Bool} (h : Mine W w b c n q sh) :
    Calls Try.prog 24 #[.pointer (some ⟨b, 0, none⟩)] w fun r w' => r = .returned (.bool (!sh)) ∧ Mine W w' b c n q sh :=
  (open_some h.box).mono fun e w' ⟨h1, h2⟩ => ⟨h1, h.step h2⟩
theorem mine_room0 {W w : World} {b c n : Nat} {q : List Req} (h : Mine W w b c n q true) :
    Calls Try.prog 22 #[.pointer (some ⟨b, 0, none⟩)] w fun r w' => r = .returned (.int .i64 0) ∧ Mine W w' b c n q true :=
  (room_some h.box).mono fun e w' ⟨h1, h2⟩ => ⟨h1, h.step h2⟩
theorem mine_put0 {W w : World} {b c n : Nat} {q : List Req} (x y : Int) (h : Mine W w b c n q true) :
    Calls Try.prog 19 #[.pointer (some ⟨b, 0, none⟩), .agg #[.int .i64 x, .int .i64 y]] w fun r w' => r = .returned (.bool false) ∧ Mine W w' b c n q true := by
  refine (put_some x y h.box).mono fun e w' ⟨h1, h2⟩ => ⟨?_, ?_⟩
  · rw [h1, show putB n q true = false from decide_eq_false (fun z => by cases z.1)]
  · unfold putL at h2
    rw [if_neg (fun z => by cases z.1)] at h2
    exact h.step h2

theorem mine_drain {W w : World} {b c n t : Nat} {q : List Req} {sh : Bool} {M : Int} (he : min q.length M.toNat = t) (hq : q.length = t) (h : Mine W w b c n q sh) :
    Calls Try.prog 14 #[.pointer (some ⟨b, 0, none⟩), .int .i64 M] w fun r w' => ∃ a cp, r = .returned (.slice a t cp) ∧ (Mine W w' b c n [] sh ∧ AsksB w' w.heap.size (.slice a t cp) q) := by
  refine (drain_t he h.box).mono fun e w' ⟨a, cp, h1, h2, h3⟩ => ⟨a, cp, h1, ?_, ?_⟩
  · have := h.step h2
    rw [List.drop_of_length_le (by omega)] at this
    exact this
  · rw [List.take_of_length_le (by omega)] at h3
    exact h3

set_option maxRecDepth 100000 in
set_option maxHeartbeats 4000000 in
theorem law_shut (W : World) (a : Option Addr) (len cap : Nat) (l : List Req) (h : IsAsks W a len cap l) (at_ : Int) (_ : (Lit.int .i64 at_).wf = true) : Calls Try.prog 6 #[.slice a len cap, .int .i64 at_] W fun e w' => e = .returned (.bool true) ∧ Below W.heap.size W w' := by
  have A := Lib.hid (awake_any W)
  have C20 := Lib.hid (fun w => new_lit 20 20 rfl (by omega) (by omega) w)
  have HI := Lib.hid h
  have hlen := h.hlen
  have hcap := h.hcap
  have hcap2 := h.hcap2
  clear h
  go_enter Try.func6, Try.ntmps6
  go_upto_if 13 with (go_at_call 9; (refine (A.out).mono ?_); rintro r w1 ⟨rfl, h1⟩; have H1 := Lib.hid h1; clear h1)
  go_cut [0] (fun u wx => (∃ m : Nat, m ≤ 20 ∧ m ≤ len ∧ u = .slice a m cap) ∧ Hid (Below W.heap.size W wx))
  case first =>
    by_cases hor : 20 < len
    · have h1 : (20 : Int) < (len : Int) := by omega
      have h2 : (20 : Int) ≤ (cap : Int) := by omega
      go_wp2_with (fail)
      go_meet
      exact ⟨⟨20, by omega, by omega, rfl⟩, H1⟩
    · have h1 : ¬ (20 : Int) < (len : Int) := by omega
      go_wp2_with (fail)
      go_meet
      exact ⟨⟨len, by omega, by omega, rfl⟩, H1⟩
  case rest =>
    obtain ⟨⟨m, hm20, hml, rfl⟩, HB⟩ := hcut
    clear H1 A
    obtain ⟨t, k, e1, e2, e3, e4, e5⟩ := led at_ ((m : Int) + 1) (by omega) (by omega)
    have e6 : (t + (m : Int) + 1) % ((m : Int) + 1) = (k : Int) := by rw [Int.add_assoc]; exact e4
    have e7 : (t + (m : Int) + 1).tmod ((m : Int) + 1) = (k : Int) := by rw [Int.tmod_eq_emod_of_nonneg (by omega)]; exact e6
    have e8 : ((m : Int) + 1 == 0) = false := by rw [beq_eq_false_iff_ne]; omega
    have e9 : ¬ (m : Int) + 1 = 0 := by omega
    go_upto_region 8 with (first
      | (go_at_call 10; (with_reducible refine (C20.out _).mono ?_); rintro e w2 ⟨b, c, rfl, h2⟩; have H2 := Lib.hid (mine_new HB.out h2); clear h2 HB))
    have hk : Hid (k ≤ m) := by show k ≤ m; omega
    clear e1 e2 e3 e4 e5 e6 e7 e8 e9
    go_wp2_with (fail)
    go_loopw [8] (fun u wr => ∃ i : Nat, i ≤ m ∧ u = .int .i64 i ∧ Hid (Mine W wr b c 20 (l.take (min i k)) (decide (k < i)))) (fun u _ => (m - intOf u).toNat)
    case atStart => exact ⟨0, by omega, rfl, by simpa using H2⟩
    case round =>
      obtain ⟨i, hi, rfl, HP⟩ := hrel
      clear H2
      by_cases hlt : i < m
      · obtain ⟨x, y, hx⟩ := nth_of HI.out.length (show i < len by omega)
        have HX := Lib.hid hx
        obtain ⟨g, o, rfl, c0, c1⟩ := (HI.out.view.below HP.out.low).at_ hx
        have hi1 : (i : Int) < (m : Int) := by omega
        have hi0 : (0 : Int) ≤ (i : Int) := by omega
        clear hx
        rcases Nat.lt_trichotomy i k with hik | hik | hik
        · have hk1 : ((i : Int) == (k : Int)) = false := by rw [beq_eq_false_iff_ne]; omega
          have hk2 : (i : Int) < (k : Int) := by omega
          have HM : Hid (Mine W wr b c 20 (l.take i) false) := by have := HP.out; rw [Nat.min_eq_left (by omega), decide_eq_false (by omega)] at this; exact this
          have CP := Lib.hid (put_in x y HM.out.box (by rw [List.length_take]; omega))
          clear hik HP
          go_wp2_with (go_at_call 19; (with_reducible refine (CP.out).mono ?_); rintro e w3 ⟨rfl, h3⟩; have H3 := Lib.hid (HM.out.step h3); clear h3)
          go_roundw
          case rel => exact ⟨i + 1, by omega, by go_num, by rw [Nat.min_eq_left (by omega), decide_eq_false (by omega), take_next HX.out]; exact H3⟩
          case measure => simp [intOf]; omega
        · subst hik
          have HM : Hid (Mine W wr b c 20 (l.take i) false) := by have := HP.out; rw [Nat.min_eq_left (by omega), decide_eq_false (by omega)] at this; exact this
          clear HP
          go_upto_region 13 with (first
            | (go_at_call 18; (with_reducible refine (mine_shut HM.out).mono ?_); rintro e w3 ⟨rfl, h3⟩; have H3 := Lib.hid h3; clear h3 HM)
            | (go_at_call 18; (with_reducible refine (mine_shut H3.out).mono ?_); rintro e w4 ⟨rfl, h4⟩; have H4 := Lib.hid h4; clear h4 H3)
            | (go_at_call 24; (with_reducible refine (mine_open H4.out).mono ?_); rintro e w5 ⟨rfl, h5⟩; have H5 := Lib.hid h5; clear h5 H4)
            | (go_at_call 22; (with_reducible refine (mine_room0 H5.out).mono ?_); rintro e w6 ⟨rfl, h6⟩; have H6 := Lib.hid h6; clear h6 H5))
          obtain ⟨g', o', e', d0, d1⟩ := (HI.out.view.below H6.out.low).at_ HX.out
          cases e'
          clear c0 c1
          have hk2 : ¬ (i : Int) < (i : Int) := by omega
          go_wp2_with (go_at_call 19; (with_reducible refine (mine_put0 x y H6.out).mono ?_); rintro e w7 ⟨rfl, h7⟩; have H7 := Lib.hid h7; clear h7)
          go_roundw
          case rel => exact ⟨i + 1, by omega, by go_num, by rw [Nat.min_eq_right (by omega), decide_eq_true (by omega)]; exact H7⟩
          case measure => simp [intOf]; omega
        · have hk1 : ((i : Int) == (k : Int)) = false := by rw [beq_eq_false_iff_ne]; omega
          have hk2 : ¬ (i : Int) < (k : Int) := by omega
          have HM : Hid (Mine W wr b c 20 (l.take k) true) := by have := HP.out; rw [Nat.min_eq_right (by omega), decide_eq_true (by omega)] at this; exact this
          have HIK := Lib.hid hik
          clear hik HP
          go_wp2_with (go_at_call 19; (with_reducible refine (mine_put0 x y HM.out).mono ?_); rintro e w3 ⟨rfl, h3⟩; have H3 := Lib.hid h3; clear h3)
          go_roundw
          case rel => exact ⟨i + 1, by omega, by go_num, by have := HIK.out; rw [Nat.min_eq_right (by omega), decide_eq_true (by omega)]; exact H3⟩
          case measure => simp [intOf]; omega
      · obtain rfl : i = m := by omega
        have HM : Hid (Mine W wr b c 20 (l.take k) (decide (k < i))) := by have := HP.out; rw [Nat.min_eq_right hk.out] at this; exact this
        have HLn : Hid ((l.take k).length = k) := by have := hk.out; show _ = _; rw [List.length_take, HI.out.length]; omega
        have hkl : (k : Int) ≤ (len : Int) := by have := hk.out; omega
        have hkc : (k : Int) ≤ (cap : Int) := by have := hk.out; omega
        have CSm := Lib.hid (fun w (l1 l2 : List Req) a1 a2 k1 k2 (h1 : View w a1 l1) (h2 : View w a2 l2) (e : l1 = l2) (hl : l1.length = k) => same_yes k k1 k2 (by have := hk.out; omega) a1 a2 l1 hl w h1 (e ▸ h2))
        have CD := Lib.hid (fun w (h : Mine W w b c 20 (l.take k) (decide (k < i))) => mine_drain (M := 99) (t := k) (by rw [HLn.out]; have := hk.out; omega) HLn.out h)
        clear HP
        go_upto_region 15 with (fail)
        go_region_with (first
          | (go_at_call 14; (with_reducible refine (CD.out _ (by repeat (first | exact HM.out | refine Mine.drew ?_))).mono ?_); rintro e w3 ⟨a1, k1, rfl, h3⟩; have H3 := Lib.hid h3; clear h3)
          | (go_at_call 13; (with_reducible refine (CSm.out _ _ _ _ _ _ _ (view_of H3.out.2) ((HI.out.view.below H3.out.1.low).take k) rfl HLn.out).mono ?_); rintro e w4 ⟨rfl, h4⟩; have H4 := Lib.hid (H3.out.1.below h4); clear h4))
        all_goals
          go_wp2_with (go_at_call 21; (with_reducible refine (mine_len (j := 0) H4.out rfl).mono ?_); rintro e w5 ⟨rfl, h5⟩; have H5 := Lib.hid h5.low; clear h5)
          go_ret
          exact ⟨rfl, H5.out⟩
end Go.Proofs.Ytkcdblpaaldcaaa
