/-
  The walk over the law of two texts with a line's end between them.
-/
import Derived.Test.YtbipjilpogbicaaDoorLDig
import Derived.Test.YtbipjilpogbicaaDoorLP1
import Derived.Test.YtbipjilpogbicaaDoorLP3
namespace Go.Proofs.YtbipjilpogbicaaDoor
open Go.RowKit Go.Maps

theorem words_l (s : ByteArray) (hs : s.size ≤ 900000) {L : List WV} {n : Nat} (hL : wordsOf s = L) (hn : L.length = n) (w : World) : Calls Tryd.prog 14 #[.string s] w fun e w' => ∃ a c, e = .returned (.slice a n c) ∧ WView w' a L ∧ n ≤ c ∧ (c : Int) ≤ 9223372036854775807 ∧ Below w.heap.size w w' :=
  (words_any s hs w).mono fun e w' ⟨a, c, h1, h2, h3⟩ => by
    rw [hL] at h1 h2
    rw [hn] at h1 h2
    exact ⟨a, c, h1, h2.words.view, h2.words.le, h2.words.small, h3⟩
theorem short_le (s : ByteArray) (n : Nat) : (shortOf s n).size ≤ n := by
  unfold shortOf
  split
  · rw [ByteArray.size_extract]; omega
  · omega
theorem ends_le (s : ByteArray) : ∀ i, ends s i ≤ i
  | 0 => Nat.le_refl _
  | i + 1 => by have := ends_le s i; rw [ends]; split <;> omega
theorem short_lit (s : ByteArray) (z : Int) (n : Nat) (hz : z = (n : Int)) (hn : n ≤ 1000000) {t : ByteArray} (ht : shortOf s n = t) (w : World) : Calls Tryd.prog 10 #[.string s, .int .i64 z] w fun e w' => e = .returned (.string t) ∧ w = w' := by
  subst hz ht
  exact short_any s n (by omega) w

attribute [-go_sem] run_neq_struct
attribute [local go_sem] word_ne wordGuard
set_option maxRecDepth 100000 in
set_option maxHeartbeats 4000000 in
theorem law_parts (w : World) (a : ByteArray) (_ha : a.size ≤ maxLen) (b : ByteArray) (_hb : b.size ≤ maxLen) : Calls Tryd.prog 7 #[.string a, .string b] w fun e w' => e = .returned (.bool true) ∧ Below w.heap.size w w' := by
  obtain ⟨A, hA⟩ : ∃ A, shortOf a 60 = A := ⟨_, rfl⟩
  obtain ⟨B, hB⟩ : ∃ B, shortOf b 60 = B := ⟨_, rfl⟩
  have hA6 : A.size ≤ 60 := by rw [← hA]; exact short_le _ _
  have hB6 : B.size ≤ 60 := by rw [← hB]; exact short_le _ _
  obtain ⟨AN, hAN⟩ : ∃ t : ByteArray, A ++ ⟨#[10]⟩ = t := ⟨_, rfl⟩
  obtain ⟨Z, hZ⟩ : ∃ t : ByteArray, AN ++ B = t := ⟨_, rfl⟩
  have hns : (⟨#[10]⟩ : ByteArray).size = 1 := rfl
  have hAN6 : AN.size = A.size + 1 := by rw [← hAN, ByteArray.size_append, hns]
  have hZ6 : Z.size = A.size + 1 + B.size := by rw [← hZ, ByteArray.size_append, hAN6]
  have hadd1 := add_str A ⟨#[10]⟩ AN hAN (by rw [hns]; omega)
  have hadd2 := add_str AN B Z hZ (by omega)
  obtain ⟨L1, hL1⟩ : ∃ L, wordsOf A = L := ⟨_, rfl⟩
  obtain ⟨L2, hL2⟩ : ∃ L, wordsOf B = L := ⟨_, rfl⟩
  obtain ⟨L3, hL3⟩ : ∃ L, wordsOf Z = L := ⟨_, rfl⟩
  obtain ⟨n1, hn1⟩ : ∃ n, L1.length = n := ⟨_, rfl⟩
  obtain ⟨n2, hn2⟩ : ∃ n, L2.length = n := ⟨_, rfl⟩
  obtain ⟨K, hK⟩ : ∃ n, ends A A.size = n := ⟨_, rfl⟩
  have hK6 : K ≤ 60 := by have := ends_le A A.size; omega
  have h3 : L3 = L1 ++ L2.map (shiftW (A.size + 1) (K + 1 : Nat)) := by
    rw [← hL3, ← hL1, ← hL2, ← hZ, ← hAN, ← hK]
    exact words_parts A B
  have hn3 : L3.length = n1 + n2 := by rw [h3, List.length_append, List.length_map, hn1, hn2]
  have hb2 : ∀ x ∈ L2, 0 ≤ x.at_ ∧ x.at_ ≤ 61 ∧ 0 ≤ x.ln ∧ x.ln ≤ 62 := by
    intro x hx
    have hst := (words_found B).1 x (by rw [hL2]; exact hx)
    have h1 := hst.lo
    have h2 := hst.hi
    have h3 := hst.ln
    have h4 := ends_le B x.at_.toNat
    omega
  have hlen1 : n1 ≤ 61 := by rw [← hn1, ← hL1]; have := (wrun_inv A (A.size + 1) (by omega)).1; unfold wordsOf; omega
  have hlen2 : n2 ≤ 61 := by rw [← hn2, ← hL2]; have := (wrun_inv B (B.size + 1) (by omega)).1; unfold wordsOf; omega
  have AW := Lib.hid (awake_any w)
  have SA := Lib.hid (fun w => short_lit a 60 60 rfl (by omega) hA w)
  have SB := Lib.hid (fun w => short_lit b 60 60 rfl (by omega) hB w)
  have W1 := Lib.hid (fun w => words_l A (by omega) hL1 hn1 w)
  have W2 := Lib.hid (fun w => words_l B (by omega) hL2 hn2 w)
  have W3 := Lib.hid (fun w => words_l Z (by omega) hL3 hn3 w)
  have HN1 := Lib.hid hn1
  have HN2 := Lib.hid hn2
  have HN3 := Lib.hid hn3
  have H3 := Lib.hid h3
  have HB2 := Lib.hid hb2
  have HK := Lib.hid hK
  have HBY : Hid (∀ i, (h : i < A.size) → A[i].toNat = byteAt A i) := fun i h => (byteAt_in A h).2.symm
  clear hA hB hAN hZ hns hZ6 hAN6 hL1 hL2 hL3 hn1 hn2 hn3 h3 hb2 hK hB6 _ha _hb
  go_enter Tryd.func7, Tryd.ntmps7
  go_upto_region 7 with (first
    | (go_at_call 9; (with_reducible refine AW.out.mono ?_); rintro e w1 ⟨rfl, b1⟩; have B1 := Lib.hid b1; clear b1)
    | (go_at_call 10; (with_reducible refine (SA.out _).mono ?_); rintro e w' ⟨rfl, rfl⟩)
    | (go_at_call 10; (with_reducible refine (SB.out _).mono ?_); rintro e w' ⟨rfl, rfl⟩)
    | (go_at_call 14; (with_reducible refine (W1.out _).mono ?_); rintro e w2 ⟨a1, c1, rfl, v1, k1, m1, b2⟩; have V1 := Lib.hid v1; have B2 := Lib.hid b2; clear v1 b2)
    | (go_at_call 14; (with_reducible refine (W2.out _).mono ?_); rintro e w3 ⟨a2, c2, rfl, v2, k2, m2, b3⟩; have V2 := Lib.hid v2; have B3 := Lib.hid b3; clear v2 b3)
    | (go_at_call 14; (with_reducible refine (W3.out _).mono ?_); rintro e w4 ⟨a3, c3, rfl, v3, k3, m3, b4⟩; have V3 := Lib.hid v3; have B4 := Lib.hid b4; clear v3 b4))
  have HBW : Hid (Below w.heap.size w w4) := below_up (below_up (below_up B1.out B2.out) B3.out) B4.out
  have X1 : Hid (WView w4 a1 L1) := (V1.out.below B3.out).below B4.out
  have X2 : Hid (WView w4 a2 L2) := V2.out.below B4.out
  have X3 : Hid (WView w4 a3 L3) := V3.out
  clear V1 V2 V3 B1 B2 B3 B4 AW SA SB W1 W2 W3 hadd1 hadd2
  go_wp2_with fail
  go_loop [9, 10] (fun u v => ∃ (i : Nat) (m : Int), i ≤ A.size ∧ 1 ≤ m ∧ m ≤ (i : Int) + 1 ∧ v = .int .i64 i ∧ u = .int .i64 m ∧ Hid (m = 1 + (ends A i : Nat))) (fun _ v => (A.size - intOf v).toNat)
  case atStart => exact ⟨0, 1, by omega, by omega, by omega, rfl, rfl, rfl⟩
  case round =>
    obtain ⟨i, m, hi, hm1, hm2, rfl, rfl, HM⟩ := hrel
    by_cases hlt : i < A.size
    · have hpl : (i : Int) < (A.size : Int) := by omega
      have hwi : IntKind.i64.wrap ((i : Int) + 1) = (i : Int) + 1 := IntWalk.i64_in _ (by omega)
      by_cases h10 : byteAt A i = 10
      · have d1 : ((A[i].toNat : Int) == 10) = true := by rw [beq_iff_eq, HBY.out i hlt]; omega
        have hwm : IntKind.i64.wrap (m + 1) = m + 1 := IntWalk.i64_in _ (by omega)
        have HM2 : Hid (m + 1 = 1 + (ends A (i + 1) : Nat)) := by show _ = _; rw [ends, if_pos h10, HM.out]; omega
        clear h10
        go_wp2_with fail
        go_roundw
        case rel => exact ⟨i + 1, m + 1, by omega, by omega, by omega, by go_num, rfl, HM2⟩
        case measure => simp [intOf]; omega
      · have d1 : ((A[i].toNat : Int) == 10) = false := by rw [beq_eq_false_iff_ne, HBY.out i hlt]; omega
        have HM2 : Hid (m = 1 + (ends A (i + 1) : Nat)) := by show _ = _; rw [ends, if_neg h10, HM.out]; omega
        clear h10
        go_wp2_with fail
        go_roundw
        case rel => exact ⟨i + 1, m, by omega, by omega, by omega, by go_num, rfl, HM2⟩
        case measure => simp [intOf]; omega
    · obtain rfl : i = A.size := by omega
      have HMK : Hid (m = 1 + (K : Int)) := by show _ = _; rw [HM.out, HK.out]
      have hm3 : m ≤ 61 := by omega
      clear hm2 HM hlt hi
      have hws : IntKind.i64.wrap ((n1 : Int) + (n2 : Int)) = (n1 : Int) + (n2 : Int) := IntWalk.i64_in _ (by omega)
      go_wp2_with fail
      go_loopw [11] (fun v wr => ∃ i : Nat, i ≤ n2 ∧ v = .int .i64 i ∧ Hid (Below w4.heap.size w4 wr)) (fun v _ => (n2 - intOf v).toNat)
      case atStart => exact ⟨0, by omega, rfl, Below.refl _ _⟩
      case round =>
        obtain ⟨i, hi, rfl, HB⟩ := hrel
        by_cases hlt : i < n2
        · obtain ⟨y, hy⟩ := nth_of HN2.out hlt
          obtain ⟨v, hv⟩ : ∃ v, shiftW (A.size + 1) (K + 1 : Nat) y = v := ⟨_, rfl⟩
          obtain ⟨j, hj⟩ : ∃ j, n1 + i = j := ⟨_, rfl⟩
          have hz : L3[j]? = some v := by
            rw [H3.out, ← hj, List.getElem?_append_right (by rw [HN1.out]; omega), HN1.out, Nat.add_sub_cancel_left, List.getElem?_map, hy, ← hv]
            rfl
          have e1 : v.at_ = y.at_ + ((A.size + 1 : Nat) : Int) := by rw [← hv]; rfl
          have e2 : v.ln = y.ln + ((K + 1 : Nat) : Int) := by rw [← hv]; rfl
          have etx : y.tx = v.tx := by rw [← hv]; rfl
          obtain ⟨b1, b2, b3, b4⟩ := HB2.out y (List.mem_of_getElem? hy)
          obtain ⟨g2, o2, rfl, ⟨y0, y1, y2⟩⟩ := (X2.out.below HB.out).at_ hy
          obtain ⟨g3, o3, rfl, ⟨z0, z1, z2⟩⟩ := (X3.out.below HB.out).at_ hz
          have hpl : (i : Int) < (n2 : Int) := by omega
          have hwi : IntKind.i64.wrap ((i : Int) + 1) = (i : Int) + 1 := IntWalk.i64_in _ (by omega)
          have hw1 : IntKind.i64.wrap (y.at_ + (A.size : Int)) = y.at_ + (A.size : Int) := IntWalk.i64_in _ (by omega)
          have hw2 : IntKind.i64.wrap (y.at_ + (A.size : Int) + 1) = v.at_ := by rw [IntWalk.i64_in _ (by omega)]; omega
          have hw3 : IntKind.i64.wrap (y.ln + m) = v.ln := by rw [IntWalk.i64_in _ (by omega), HMK.out]; omega
          have hwj : IntKind.i64.wrap ((n1 : Int) + (i : Int)) = (j : Int) := by rw [IntWalk.i64_in _ (by omega)]; omega
          have hjl : j < n1 + n2 := by omega
          have HZ : Hid (WAt wr g3 (o3 + j * 3) v) := ⟨z0, z1, z2⟩
          clear hv hz e1 e2 z0 z1 z2 hj hy b1 b2 b3 b4
          go_upto_region 21 with fail
          refine gen_world (fun u => Below wr.heap.size wr u ∧ u.heap[wr.heap.size]? = some (.cells #[.int .i64 v.at_, .int .i64 v.ln, .string v.tx] WT (0, 0))) ⟨(by repeat (first | exact Below.refl _ _ | (with_reducible assumption) | refine bw_alloc ?_ _ | refine bw_drew ?_ | refine Below.setCell ?_ (by simp) _ | refine Below.setCell ?_ (by simp; omega) _)), heap_alloc_new wr _⟩ ?_
          intro W1 ⟨hl1, hb1⟩
          have HL := Lib.hid hl1
          obtain ⟨z0, z1, z2⟩ := HZ.out.below hl1
          have r0 : W1.cell? ⟨wr.heap.size, 0, none⟩ = some (.int .i64 v.at_) := by rw [blk_cell hb1]; rfl
          have r1 : W1.cell? ⟨wr.heap.size, 1, none⟩ = some (.int .i64 v.ln) := by rw [blk_cell hb1]; rfl
          have r2 : W1.cell? ⟨wr.heap.size, 2, none⟩ = some (.string v.tx) := by rw [blk_cell hb1]; rfl
          have HB3 : Hid (Below w4.heap.size w4 W1) := below_up HB.out hl1
          clear hl1 hb1 y0 y1 y2 hw1 hw2 hw3
          go_quiet (fail)
          go_wp2_with fail
          go_roundw
          case rel => exact ⟨i + 1, by omega, by go_num, below_same HB3.out rfl rfl rfl rfl⟩
          case measure => simp [intOf]; omega
        · obtain rfl : i = n2 := by omega
          have hk1 : (n1 : Int) ≤ (c3 : Int) := by omega
          have hk2 : n1 ≤ n1 + i := by omega
          have S1 := Lib.hid (rsame_any n1 n1 c3 c1 (by omega) (by omega) a3 a1 L1 L1 HN1.out HN1.out wr (by have := (X3.out.below HB.out).take n1; rw [H3.out, ← HN1.out, List.take_left] at this; exact this) (X1.out.below HB.out))
          go_wp2_with (go_at_call 13; (with_reducible refine S1.out.mono ?_); rintro e w5 ⟨rfl, b5⟩; have B5 := Lib.hid b5; clear b5)
          go_ret
          exact ⟨by simp, below_up (below_up HBW.out HB.out) B5.out⟩
end Go.Proofs.YtbipjilpogbicaaDoor
