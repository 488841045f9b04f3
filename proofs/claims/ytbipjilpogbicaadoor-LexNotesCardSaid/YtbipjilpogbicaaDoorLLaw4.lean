/-
  The walk over the law of words and lines.
-/
import Derived.Test.YtbipjilpogbicaaDoorLLines
import Derived.Test.YtbipjilpogbicaaDoorLLaw3
namespace Go.Proofs.YtbipjilpogbicaaDoor
open Go.RowKit Go.Maps

/-- Rows of words, as they are read. -/
def RowAt (w : World) (a : Option Addr) (G : List (List WV)) : Prop := ∀ (i : Nat) (y : List WV), G[i]? = some y → ∃ g p d, a = some ⟨g, 0, none⟩ ∧ w.cell? ⟨g, i, none⟩ = some (.slice p y.length d) ∧ WView w p y
theorem Rows.at_ {w : World} {B n c : Nat} {a : Option Addr} {cs : List Value} {G : List (List WV)} (h : Rows w B (.slice a n c) cs G) : RowAt w a G := fun i y hy => by
  obtain ⟨p, d, h1, h2⟩ := h.each i y hy
  obtain ⟨a', c', e, _, _, hj⟩ := h.own.slice
  obtain ⟨g, e2, h3, _⟩ := hj i _ h1
  simp only [Value.slice.injEq] at e
  exact ⟨g, p, d, by rw [e.1, e2], h3, h2.words.view⟩
theorem RowAt.below {w w' : World} {a : Option Addr} {G : List (List WV)} (h : RowAt w a G) (hb : Below w.heap.size w w') : RowAt w' a G := fun i y hy => by
  obtain ⟨g, p, d, h1, h2, h3⟩ := h i y hy
  exact ⟨g, p, d, h1, kept_cell hb h2, h3.below hb⟩
theorem lines_l {s : ByteArray} {G : List (List WV)} {n : Nat} {f : Nat} (hG : linesOf s = G) (hn : G.length = n) {w : World} (h : Calls Tryd.prog f #[.string s] w (LinesBack (linesOf s) w)) : Calls Tryd.prog f #[.string s] w fun e w' => ∃ a c, e = .returned (.slice a n c) ∧ n ≤ c ∧ (c : Int) ≤ 9223372036854775807 ∧ RowAt w' a G ∧ Below w.heap.size w w' :=
  h.mono fun e w' ⟨a, c, B, cs, h1, h2, h3, h4⟩ => by
    rw [hG] at h1 h3
    rw [hn] at h1 h3
    obtain ⟨a', c', e', h5, h6, _⟩ := h3.own.slice
    have h7 := h3.len
    rw [hn] at h7
    rw [h7] at h5 e'
    cases e'
    exact ⟨a, c, h1, h5, h6, h3.at_, h4⟩
theorem rwords_l (s : ByteArray) (hs : s.size ≤ 900000) {L : List WV} {n : Nat} (hL : wordsOf s = L) (hn : L.length = n) (w : World) : Calls Tryd.prog 15 #[.string s] w fun e w' => ∃ a c, e = .returned (.slice a n c) ∧ WView w' a L ∧ n ≤ c ∧ (c : Int) ≤ 9223372036854775807 ∧ Below w.heap.size w w' :=
  (rwords_any s hs w).mono fun e w' ⟨a, c, h1, h2, h3⟩ => by
    rw [hL] at h1 h2
    rw [hn] at h1 h2
    exact ⟨a, c, h1, h2.words.view, h2.words.le, h2.words.small, h3⟩
theorem same_l {w : World} {L : List WV} {n : Nat} (hn : L.length = n) (hb : (n : Int) ≤ 9223372036854775807) {a b : Option Addr} {c c' : Nat} (ha : WView w a L) (hb2 : WView w b L) : Calls Tryd.prog 13 #[.slice a n c, .slice b n c'] w fun e w' => e = .returned (.bool true) ∧ Below w.heap.size w w' :=
  (rsame_any n n c c' hb hb a b L L hn hn w ha hb2).mono fun _ _ ⟨h1, h2⟩ => ⟨by rw [h1, decide_eq_true rfl], h2⟩

set_option maxRecDepth 100000 in
set_option maxHeartbeats 4000000 in
theorem law_tells (w : World) (s0 : ByteArray) (_hs : s0.size ≤ maxLen) : Calls Tryd.prog 3 #[.string s0] w fun e w' => e = .returned (.bool true) ∧ Below w.heap.size w w' := by
  obtain ⟨s, hS⟩ : ∃ A, shortOf s0 160 = A := ⟨_, rfl⟩
  have hs6 : s.size ≤ 160 := by rw [← hS]; exact short_le _ _
  obtain ⟨G, hG⟩ : ∃ G, linesOf s = G := ⟨_, rfl⟩
  obtain ⟨n, hn⟩ : ∃ n, G.length = n := ⟨_, rfl⟩
  obtain ⟨L, hL⟩ : ∃ L, wordsOf s = L := ⟨_, rfl⟩
  obtain ⟨m, hm⟩ : ∃ n, L.length = n := ⟨_, rfl⟩
  have hm9 : m ≤ 161 := by rw [← hm, ← hL]; have := (wrun_inv s (s.size + 1) (by omega)).1; unfold wordsOf; omega
  have hn9 : n ≤ 161 := by
    have h1 := lrun_len L L.length
    have e : lrun L L.length = G := by rw [← hG, ← hL]; rfl
    rw [e, hn, hm] at h1
    omega
  have hy9 : Hid (∀ y ∈ G, y.length ≤ 161) := fun y hy => by
    have h1 := lrun_each L L.length y
    have e : lrun L L.length = G := by rw [← hG, ← hL]; rfl
    rw [e] at h1
    have := h1 hy
    omega
  have AW := Lib.hid (awake_any w)
  have SA := Lib.hid (fun w => short_lit s0 160 160 rfl (by omega) hS w)
  have C1 := Lib.hid (fun w => lines_l hG hn (lines_any s (by omega) w))
  have C2 := Lib.hid (fun w => lines_l hG hn (rlines_any s (by omega) w))
  have C3 := Lib.hid (fun w => words_l s (by omega) hL hm w)
  have C4 := Lib.hid (fun w => rwords_l s (by omega) hL hm w)
  have HN := Lib.hid hn
  have HM := Lib.hid hm
  clear hS hG hn hL hm hs6 _hs
  go_enter Tryd.func3, Tryd.ntmps3
  go_upto_region 5 with (first
    | (go_at_call 9; (with_reducible refine AW.out.mono ?_); rintro e w1 ⟨rfl, b1⟩; have B1 := Lib.hid b1; clear b1)
    | (go_at_call 10; (with_reducible refine (SA.out _).mono ?_); rintro e w' ⟨rfl, rfl⟩)
    | (go_at_call 11; (with_reducible refine (C1.out _).mono ?_); rintro e w2 ⟨a1, c1, rfl, k1, k2, r1, b2⟩; have R1 := Lib.hid r1; have B2 := Lib.hid b2; clear r1 b2)
    | (go_at_call 12; (with_reducible refine (C2.out _).mono ?_); rintro e w3 ⟨a2, c2, rfl, k3, k4, r2, b3⟩; have R2 := Lib.hid r2; have B3 := Lib.hid b3; clear r2 b3))
  have HW : Hid (Below w.heap.size w w3) := below_up (below_up B1.out B2.out) B3.out
  have X1 : Hid (RowAt w3 a1 G) := R1.out.below B3.out
  clear AW SA C1 C2 R1 B1 B2 B3
  go_wp2_with fail
  go_loopw [6] (fun v wr => ∃ i : Nat, i ≤ n ∧ v = .int .i64 i ∧ Hid (Below w3.heap.size w3 wr)) (fun v _ => (n - intOf v).toNat)
  case atStart => exact ⟨0, by omega, rfl, Below.refl _ _⟩
  case round =>
    obtain ⟨i, hi, rfl, HB⟩ := hrel
    by_cases hlt : i < n
    · obtain ⟨y, hy⟩ := nth_of HN.out hlt
      obtain ⟨g1, p1, d1, rfl, q1, v1⟩ := (X1.out.below HB.out) i y hy
      obtain ⟨g2, p2, d2, rfl, q2, v2⟩ := (R2.out.below HB.out) i y hy
      have hyl := hy9.out y (List.mem_of_getElem? hy)
      obtain ⟨k, hk⟩ : ∃ k, y.length = k := ⟨_, rfl⟩
      rw [hk] at q1 q2 hyl
      have V1 := Lib.hid v1
      have V2 := Lib.hid v2
      have CS : Hid (∀ w', Below wr.heap.size wr w' → Calls Tryd.prog 13 #[.slice p1 k d1, .slice p2 k d2] w' fun e w'' => e = .returned (.bool true) ∧ Below wr.heap.size wr w'') := fun w' h =>
        (same_l hk (by omega) (V1.out.below h) (V2.out.below h)).mono fun _ _ ⟨h1, h2⟩ => ⟨h1, below_up h h2⟩
      have MK : Hid (∀ w', Below wr.heap.size wr w' → (Below wr.heap.size wr w' ∧ w'.cell? ⟨g1, i, none⟩ = some (.slice p1 k d1) ∧ w'.cell? ⟨g2, i, none⟩ = some (.slice p2 k d2))) := fun w' h => ⟨h, kept_cell h q1, kept_cell h q2⟩
      have r0 := Below.refl wr.heap.size wr
      have hpl : (i : Int) < (n : Int) := by omega
      have hwi : IntKind.i64.wrap ((i : Int) + 1) = (i : Int) + 1 := IntWalk.i64_in _ (by omega)
      have HX : Hid (∀ w', Below wr.heap.size wr w' → Hid (Below w3.heap.size w3 w')) := fun w' h => below_up HB.out h
      clear hy hk q1 q2 v1 v2
      go_upto_region 10 with fail
      go_region_held3 (fun w' => Below wr.heap.size wr w' ∧ w'.cell? ⟨g1, i, none⟩ = some (.slice p1 k d1) ∧ w'.cell? ⟨g2, i, none⟩ = some (.slice p2 k d2)) (exact MK.out _ (by repeat (first | exact Below.refl _ _ | (with_reducible assumption) | refine bw_alloc ?_ _ | refine bw_drew ?_))) (first | (go_at_call 13; (with_reducible refine (CS.out _ (by repeat (first | exact Below.refl _ _ | (with_reducible assumption) | refine bw_alloc ?_ _ | refine bw_drew ?_))).mono ?_); rintro e wx ⟨rfl, bx⟩))
      all_goals
        go_wp2_with fail
        go_roundw
        case rel => exact ⟨i + 1, by omega, by go_num, HX.out _ (by repeat (first | exact Below.refl _ _ | (with_reducible assumption) | refine bw_alloc ?_ _ | refine bw_drew ?_))⟩
        case measure => simp [intOf]; omega
    · obtain rfl : i = n := by omega
      go_wp2_with (first
        | (go_at_call 14; (with_reducible refine (C3.out _).mono ?_); rintro e w5 ⟨a5, c5, rfl, v5, k5, m5, b5⟩; have V5 := Lib.hid v5; have B5 := Lib.hid b5; clear v5 b5)
        | (go_at_call 15; (with_reducible refine (C4.out _).mono ?_); rintro e w6 ⟨a6, c6, rfl, v6, k6, m6, b6⟩; have V6 := Lib.hid v6; have B6 := Lib.hid b6; clear v6 b6)
        | (go_at_call 13; (with_reducible refine (same_l HM.out (by omega) (V5.out.below B6.out) V6.out).mono ?_); rintro e w7 ⟨rfl, b7⟩; have B7 := Lib.hid b7; clear b7))
      go_ret
      exact ⟨by simp, below_up (below_up (below_up (below_up HW.out HB.out) B5.out) B6.out) B7.out⟩
end Go.Proofs.YtbipjilpogbicaaDoor
