/-
  The walk over the law of notes.
-/
import Derived.Test.YtbipjilpogbicaaDoorLLaw4
import Derived.Test.YtbipjilpogbicaaDoorLP5
namespace Go.Proofs.YtbipjilpogbicaaDoor
open Go.RowKit Go.Maps

theorem line_no {s t : ByteArray} (h : LineIs s t) : ∀ j, j < t.size → byteAt t j ≠ 10 := by
  rcases h with ⟨h, rfl⟩ | ⟨i, h, rfl⟩
  · exact h
  · intro j hj
    have hs : (s.extract 0 i).size = i := by
      rw [ByteArray.size_extract]
      have := h.1
      omega
    rw [hs] at hj
    have := h.2.2 j hj
    rw [(byteAt_in s (by have := h.1; omega)).2] at this
    rw [(byteAt_in _ (by rw [hs]; exact hj)).2]
    rwa [ByteArray.getElem_extract, show s[0 + j]'(by have := h.1; omega) = s[j]'(by have := h.1; omega) by congr 1; omega]
theorem line_le {s t : ByteArray} (h : LineIs s t) : t.size ≤ s.size := by
  rcases h with ⟨_, rfl⟩ | ⟨i, h, rfl⟩
  · exact Nat.le_refl _
  · rw [ByteArray.size_extract]; omega
theorem ba_assoc (a b c : ByteArray) : a ++ b ++ c = a ++ (b ++ c) := by
  apply ByteArray.ext
  simp only [ByteArray.data_append, Array.append_assoc]
theorem gap_mark : gap ++ mark = ⟨#[32, 9, 35]⟩ := by
  apply ByteArray.ext
  rw [ByteArray.data_append]
  rfl
theorem nl_tb : nl ++ tb = ⟨#[10, 98]⟩ := by
  apply ByteArray.ext
  rw [ByteArray.data_append]
  rfl
theorem tb_list : (tb.toList == [98]) = true := by
  show (ByteArray.toList.loop ⟨#[98]⟩ 0 [] == [98]) = true
  rw [ByteArray.toList.loop, if_pos (by decide), ByteArray.toList.loop, if_neg (by decide)]
  rfl
theorem line_l (s : ByteArray) (hs : (s.size : Int) ≤ 9223372036854775807) (w : World) : Calls Tryd.prog 27 #[.string s] w fun e w' => ∃ t, e = .returned (.string t) ∧ (t.size ≤ s.size ∧ ∀ j, j < t.size → byteAt t j ≠ 10) ∧ w = w' :=
  (line_any s hs w).mono fun e w' ⟨t, h1, h2, h3⟩ => ⟨t, h1, ⟨line_le h2, line_no h2⟩, h3⟩
/-- Words that two texts have alike. -/
theorem words_two {s t : ByteArray} (h : wordsOf s = wordsOf t) (hs : s.size ≤ 900000) (ht : t.size ≤ 900000) : ∃ (L : List WV) (n : Nat), L.length = n ∧ n ≤ 900001 ∧
    (∀ w, Calls Tryd.prog 14 #[.string s] w fun e w' => ∃ a c, e = .returned (.slice a n c) ∧ WView w' a L ∧ n ≤ c ∧ (c : Int) ≤ 9223372036854775807 ∧ Below w.heap.size w w') ∧
    (∀ w, Calls Tryd.prog 14 #[.string t] w fun e w' => ∃ a c, e = .returned (.slice a n c) ∧ WView w' a L ∧ n ≤ c ∧ (c : Int) ≤ 9223372036854775807 ∧ Below w.heap.size w w') :=
  ⟨wordsOf s, _, rfl, (by have := (wrun_inv s (s.size + 1) (by omega)).1; unfold wordsOf; omega), fun w => words_l s hs rfl rfl w, fun w => words_l t ht h.symm rfl w⟩

set_option maxRecDepth 100000 in
set_option maxHeartbeats 4000000 in
theorem law_notes (w : World) (a0 : ByteArray) (_h0 : a0.size ≤ maxLen) (b0 : ByteArray) (_h1 : b0.size ≤ maxLen) : Calls Tryd.prog 8 #[.string a0, .string b0] w fun e w' => e = .returned (.bool true) ∧ Below w.heap.size w w' := by
  obtain ⟨sa, hA⟩ : ∃ A, shortOf a0 40 = A := ⟨_, rfl⟩
  obtain ⟨sb, hB⟩ : ∃ A, shortOf b0 40 = A := ⟨_, rfl⟩
  have ha4 : sa.size ≤ 40 := by rw [← hA]; exact short_le _ _
  have hb4 : sb.size ≤ 40 := by rw [← hB]; exact short_le _ _
  have AW := Lib.hid (awake_any w)
  have SA := Lib.hid (fun w => short_lit a0 40 40 rfl (by omega) hA w)
  have SB := Lib.hid (fun w => short_lit b0 40 40 rfl (by omega) hB w)
  have LA := Lib.hid (fun w => line_l sa (by omega) w)
  have LB := Lib.hid (fun w => line_l sb (by omega) w)
  clear hA hB _h0 _h1
  go_enter Tryd.func8, Tryd.ntmps8
  go_upto_region 4 with (first
    | (go_at_call 9; (with_reducible refine AW.out.mono ?_); rintro e w1 ⟨rfl, b1⟩; have B1 := Lib.hid b1; clear b1)
    | (go_at_call 10; (with_reducible refine (SA.out _).mono ?_); rintro e w' ⟨rfl, rfl⟩)
    | (go_at_call 10; (with_reducible refine (SB.out _).mono ?_); rintro e w' ⟨rfl, rfl⟩)
    | (go_at_call 27; (with_reducible refine (LA.out _).mono ?_); rintro e w' ⟨X, rfl, hX, rfl⟩; have HX := Lib.hid hX; clear hX)
    | (go_at_call 27; (with_reducible refine (LB.out _).mono ?_); rintro e w' ⟨Y, rfl, hY, rfl⟩; have HY := Lib.hid hY; clear hY))
  obtain ⟨hx4, hxn⟩ := HX.out
  obtain ⟨hy4, hyn⟩ := HY.out
  obtain ⟨XM, hXM⟩ : ∃ t : ByteArray, X ++ ⟨#[35]⟩ = t := ⟨_, rfl⟩
  obtain ⟨XN, hXN⟩ : ∃ t : ByteArray, XM ++ Y = t := ⟨_, rfl⟩
  obtain ⟨XG, hXG⟩ : ∃ t : ByteArray, X ++ ⟨#[32, 9, 35]⟩ = t := ⟨_, rfl⟩
  obtain ⟨XH, hXH⟩ : ∃ t : ByteArray, XG ++ Y = t := ⟨_, rfl⟩
  obtain ⟨XL, hXL⟩ : ∃ t : ByteArray, XN ++ ⟨#[10, 98]⟩ = t := ⟨_, rfl⟩
  have z1 : (⟨#[35]⟩ : ByteArray).size = 1 := rfl
  have z3 : (⟨#[32, 9, 35]⟩ : ByteArray).size = 3 := rfl
  have z2 : (⟨#[10, 98]⟩ : ByteArray).size = 2 := rfl
  have s1 : XM.size = X.size + 1 := by rw [← hXM, ByteArray.size_append, z1]
  have s2 : XN.size = X.size + 1 + Y.size := by rw [← hXN, ByteArray.size_append, s1]
  have s3 : XG.size = X.size + 3 := by rw [← hXG, ByteArray.size_append, z3]
  have s4 : XH.size = X.size + 3 + Y.size := by rw [← hXH, ByteArray.size_append, s3]
  have s5 : XL.size = X.size + 1 + Y.size + 2 := by rw [← hXL, ByteArray.size_append, s2, z2]
  have a1 := add_str X ⟨#[35]⟩ XM hXM (by rw [z1]; omega)
  have a2 := add_str XM Y XN hXN (by omega)
  have a3 := add_str X ⟨#[32, 9, 35]⟩ XG hXG (by rw [z3]; omega)
  have a4 := add_str XG Y XH hXH (by omega)
  have a5 := add_str XN ⟨#[10, 98]⟩ XL hXL (by rw [z2]; omega)
  have e1 : wordsOf XN = wordsOf XM := by
    rw [← hXN, ← hXM]
    exact words_note_same X Y hyn
  have e2 : wordsOf XH = wordsOf X := by
    rw [← hXH, ← hXG, ← gap_mark, ← ba_assoc]
    exact words_gap X Y hyn
  have hmk : ∀ j, j < XN.size → byteAt XN j ≠ 10 := by
    intro j hj
    rw [← hXN]
    rcases Nat.lt_or_ge j XM.size with q | q
    · rw [byteAt_left _ _ q, ← hXM]
      rcases Nat.lt_or_ge j X.size with q2 | q2
      · rw [byteAt_left _ _ q2]; exact hxn j q2
      · have := byteAt_right X ⟨#[35]⟩ (j - X.size)
        rw [show X.size + (j - X.size) = j by omega] at this
        rw [this, show j - X.size = 0 by omega]
        decide
    · have := byteAt_right XM Y (j - XM.size)
      rw [show XM.size + (j - XM.size) = j by omega] at this
      rw [this]
      exact hyn _ (by omega)
  obtain ⟨G, hG⟩ := last_line XN hmk
  rw [ba_assoc, nl_tb, hXL] at hG
  obtain ⟨k, hk⟩ : ∃ k, G.length = k := ⟨_, rfl⟩
  have hk9 : k ≤ 100 := by
    have h1 := lrun_len (wordsOf XL) (wordsOf XL).length
    have e : lrun (wordsOf XL) (wordsOf XL).length = linesOf XL := rfl
    rw [e, hG, List.length_append, List.length_singleton, hk] at h1
    have h2 := (wrun_inv XL (XL.size + 1) (by omega)).1
    unfold wordsOf at h1
    omega
  obtain ⟨L1, n1, hn1, hb1, W1, W2⟩ := words_two e1 (by omega) (by omega)
  obtain ⟨L2, n2, hn2, hb2, W3, W4⟩ := words_two e2 (by omega) (by omega)
  have C5 := Lib.hid (fun w => lines_l (n := k + 1) hG (by rw [List.length_append, hk]; rfl) (lines_any XL (by omega) w))
  have HW1 := Lib.hid W1
  have HW2 := Lib.hid W2
  have HW3 := Lib.hid W3
  have HW4 := Lib.hid W4
  have HN1 := Lib.hid hn1
  have HN2 := Lib.hid hn2
  have HLX : Hid ((G ++ [[(⟨((XN.size + 1 : Nat) : Int), 2, tb⟩ : WV)]])[k]? = some [⟨((XN.size + 1 : Nat) : Int), 2, tb⟩]) := by show _ = _; rw [← hk]; simp
  clear hXM hXN hXG hXH hXL z1 z2 z3 s1 s2 s3 s4 s5 e1 e2 hmk hG hk W1 W2 W3 W4 hn1 hn2 hxn hyn hx4 hy4 HX HY AW SA SB LA LB ha4 hb4
  go_upto_region 7 with (first
    | (go_at_call 14; (with_reducible refine (HW1.out _).mono ?_); rintro e w2 ⟨p1, c1, rfl, v1, _, _, b2⟩; have V1 := Lib.hid v1; have B2 := Lib.hid b2; clear v1 b2)
    | (go_at_call 14; (with_reducible refine (HW2.out _).mono ?_); rintro e w3 ⟨p2, c2, rfl, v2, _, _, b3⟩; have V2 := Lib.hid v2; have B3 := Lib.hid b3; clear v2 b3)
    | (go_at_call 13; (with_reducible refine (same_l HN1.out (by omega) (V1.out.below B3.out) V2.out).mono ?_); rintro e w4 ⟨rfl, b4⟩; have B4 := Lib.hid b4; clear b4)
    | (go_at_call 14; (with_reducible refine (HW3.out _).mono ?_); rintro e w5 ⟨p3, c3, rfl, v3, _, _, b5⟩; have V3 := Lib.hid v3; have B5 := Lib.hid b5; clear v3 b5)
    | (go_at_call 14; (with_reducible refine (HW4.out _).mono ?_); rintro e w6 ⟨p4, c4, rfl, v4, _, _, b6⟩; have V4 := Lib.hid v4; have B6 := Lib.hid b6; clear v4 b6)
    | (go_at_call 13; (with_reducible refine (same_l HN2.out (by omega) (V3.out.below B6.out) V4.out).mono ?_); rintro e w7 ⟨rfl, b7⟩; have B7 := Lib.hid b7; clear b7)
    | (go_at_call 11; (with_reducible refine (C5.out _).mono ?_); rintro e w8 ⟨p5, c5, rfl, k5, _, r5, b8⟩; have R5 := Lib.hid r5; have B8 := Lib.hid b8; clear r5 b8))
  obtain ⟨g, p, d, rfl, q1, q2⟩ := R5.out k _ HLX.out
  obtain ⟨gw, ow, rfl, hat⟩ := q2.at_ (k := 0) rfl
  obtain ⟨x0, x1, x2⟩ := hat
  have HB : Hid (Below w.heap.size w w8) := below_up (below_up (below_up (below_up (below_up (below_up (below_up B1.out B2.out) B3.out) B4.out) B5.out) B6.out) B7.out) B8.out
  have ht := tb_list
  have hwk : IntKind.i64.wrap (k : Int) = (k : Int) := IntWalk.i64_in _ (by omega)
  have hp0 : (0 : Int) < (k : Int) + 1 := by omega
  have hp1 : (k : Int) < (k : Int) + 1 := by omega
  simp only [Nat.zero_mul, Nat.add_zero, List.length_singleton] at q1 x0 x1 x2
  generalize tb = TB at *
  clear q2 HLX R5 HW1 HW2 HW3 HW4 C5 B1 B2 B3 B4 B5 B6 B7 B8 a1 a2 a3 a4 a5
  go_wp2_with fail
  go_ret
  exact ⟨by simp, HB.out⟩
end Go.Proofs.YtbipjilpogbicaaDoor
