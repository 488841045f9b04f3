/-
  The walk over the statement that a key whose number is lowered below all others is the next one.
-/
import Derived.Test.YtbmmigaabhnnfaaHRow
namespace Go.Proofs.Ytbmmigaabhnnfaa
open Go.RowKit Go.Maps

set_option maxRecDepth 100000 in
set_option maxHeartbeats 4000000 in
theorem law_lowers (a0 : Option Addr) (len cap m : Nat) (Z : Nat → Int) (turn : Int) (W : World) (hlen : (len : Int) ≤ 9223372036854775807) (hm : m = min len 40)
    (HC : Hid (∀ k, k < len → ∃ b off, a0 = some ⟨b, off, none⟩ ∧ b < W.heap.size ∧ W.cell? ⟨b, off + k, none⟩ = some (.int .i64 (Z k)))) :
    Calls Try.prog 5 #[.slice a0 len cap, .int .i64 turn] W fun e w' => e = .returned (.bool true) ∧ Below W.heap.size W w' := by
  have A := Lib.hid (awake_any W)
  have C0 := Lib.hid (fun w (h : Below W.heap.size W w) => st_new W w h)
  unfold lessV at C0
  generalize hM : (fun k => Z k % 4611686018427387904) = M
  have HM : Hid (∀ k, bits .and .i64 (Z k) 4611686018427387903 = M k) := fun k => by rw [← hM]; exact i64_and62 _
  have HR : Hid (∀ k, 0 ≤ M k ∧ M k < 4611686018427387904) := fun k => by rw [← hM]; show 0 ≤ Z k % 4611686018427387904 ∧ Z k % 4611686018427387904 < 4611686018427387904; omega
  clear hM
  have CP := Lib.hid (fun wr sb mv (k : Nat) (hk : k < 40) (h : St W wr sb mv k k (rowC M k)) => st_put h (by omega) (by unfold maxLen; omega) (k := (k : Int)) (x := M k) (by unfold I64; omega) (by have := HR.out k; unfold I64; omega) (rowC_out M k))
  have hm40 : m ≤ 40 := by omega
  have hml : m ≤ len := by omega
  have hor : m = len ∨ (m = 40 ∧ 40 < len) := by omega
  clear hm
  go_enter Try.func5, Try.ntmps5
  go_wp2_with (first
    | (go_at_call 9; (refine (A.out).mono ?_); rintro r w1 ⟨rfl, h1⟩; have H1 := Lib.hid h1; clear h1)
    | (go_at_call 10; (refine (C0.out _ H1.out).mono ?_); rintro r w2 ⟨sb, mv, rfl, h2⟩; have H2 := Lib.hid h2; clear h2))
  rw [← rowC_zero M] at H2
  clear C0 A
  go_loopw [7, 8] (fun s u wr => ∃ k : Nat, k ≤ m ∧ s = .int .i64 k ∧ u = .int .i64 k ∧ Hid (St W wr sb mv k k (rowC M k))) (fun _ u _ => (m - intOf u).toNat)
  case atStart => exact ⟨0, by omega, rfl, rfl, H2⟩
  case round =>
    obtain ⟨k, hk, rfl, rfl, HS⟩ := hrel
    clear H1 H2
    by_cases hlt : k < m
    · obtain ⟨b, off, rfl, hb, ck⟩ := HC.out k (by omega)
      have ck : wr.cell? ⟨b, off + k, none⟩ = some (.int .i64 (Z k)) := by rw [HS.out.low.cell (p := ⟨b, off + k, none⟩) hb]; exact ck
      have e1 := HM.out k
      have C1 := Lib.hid (CP.out wr sb mv k (by omega) HS.out)
      have hk1 : (k : Int) < (len : Int) := by omega
      have hk2 : (k : Int) < 40 := by omega
      rw [rowC_next] at C1
      clear HC CP HM HR hb HS hor
      generalize M k = x at e1 C1
      generalize Z k = z at ck e1
      go_wp2_with (go_at_call 19; (refine (C1.out).mono ?_); rintro r w3 ⟨rfl, h3⟩; have H3 := Lib.hid h3; clear h3)
      go_roundw
      case rel => exact ⟨k + 1, by omega, by go_num, by go_num, H3⟩
      case measure => simp [intOf]; omega
    · obtain rfl : k = m := by omega
      clear CP HM HC
      by_cases h0 : k = 0
      · subst h0
        rw [rowC_zero] at HS
        have C1 := Lib.hid (st_low_no HS.out (by omega) (by unfold maxLen; omega) (k := 0) (x := -1) (by unfold I64; omega) (by unfold I64; omega) (fun y h => by cases h))
        have hz : len = 0 := by omega
        subst hz
        clear hor HR HS
        go_wp2_with (go_at_call 13; (refine (C1.out).mono ?_); rintro r w3 ⟨rfl, h3⟩; have H3 := Lib.hid h3; clear h3)
        go_ret
        exact ⟨rfl, H3.out.low⟩
      · obtain ⟨t, ht, hkt⟩ := turn_at turn k (by omega) (by omega)
        have hk0 : ((k : Int) == 0) = false := by rw [beq_eq_false_iff_ne]; omega
        have HMt := HR.out t
        have C1 := Lib.hid (fun w (h : St W w sb mv k k (rowC M k)) => (st_get h (by omega) (k := (t : Int)) (by unfold I64; omega)))
        rw [rowC_in M ht] at C1
        have C2 := Lib.hid (fun w (h : St W w sb mv k k (rowC M k)) => st_low_no h (by omega) (by unfold maxLen; omega) (k := (t : Int)) (x := M t) (by unfold I64; omega) (by unfold I64; omega) (fun y q => by rw [rowC_in M ht] at q; cases q; omega))
        have C3 := Lib.hid (fun w (h : St W w sb mv k k (rowC M k)) => st_low_no h (by omega) (by unfold maxLen; omega) (k := (k : Int)) (x := -1) (by unfold I64; omega) (by unfold I64; omega) (fun y q => by rw [rowC_out] at q; cases q))
        have C4 := Lib.hid (fun w (h : St W w sb mv k k (rowC M k)) => st_low h (by omega) (by unfold maxLen; omega) (k := (t : Int)) (x := -1) (y := M t) (by unfold I64; omega) (by unfold I64; omega) (rowC_in M ht) (by omega))
        have C5 : Hid (∀ w, St W w sb mv k k (cput (rowC M k) t (-1)) → Calls Try.prog 23 #[.pointer (some ⟨sb, 0, none⟩)] w fun r w' => r = .returned (.tuple #[.int .i64 t, .int .i64 (-1), .bool true]) ∧ St W w' sb mv k k (cput (rowC M k) t (-1))) := fun w h =>
          (st_min h (by omega)).mono fun r w' ⟨k', x', a, b, d⟩ => by
            obtain ⟨rfl, rfl⟩ := first_is b (k' := (t : Int)) (x' := -1) (by unfold cput; rw [if_pos rfl]) (fun j y hj => by
              unfold cput at hj
              rw [lt2_no]
              simp only
              split at hj
              · cases hj; omega
              · obtain ⟨i, _, _, rfl⟩ := rowC_some hj
                have := HR.out i; omega)
            exact ⟨a, d⟩
        have C6 := Lib.hid (fun w (h : St W w sb mv k k (cput (rowC M k) t (-1))) => st_len h)
        simp only [Option.getD_some, Option.isSome_some] at C1
        generalize rowC M k = c at HS C1 C2 C3 C4 C5 C6
        generalize cput c t (-1) = c' at C4 C5 C6
        generalize M t = y at C1 C2 HMt
        have hkl : (k : Int) ≤ (len : Int) := by omega
        have hor2 : (k : Int) = (len : Int) ∨ ((k : Int) = 40 ∧ (40 : Int) < (len : Int)) := by omega
        clear HR HMt hor h0
        rcases hor2 with q | ⟨q1, q2⟩
        · obtain rfl : k = len := by omega
          go_wp2_with (first
            | (go_at_call 21; (with_reducible refine (C1.out _ HS.out).mono ?_); rintro r w3 ⟨rfl, h3⟩; have H3 := Lib.hid h3; clear h3)
            | (go_at_call 13; (with_reducible refine (C2.out _ H3.out).mono ?_); rintro r w4 ⟨rfl, h4⟩; have H4 := Lib.hid h4; clear h4)
            | (go_at_call 13; (with_reducible refine (C3.out _ H4.out).mono ?_); rintro r w5 ⟨rfl, h5⟩; have H5 := Lib.hid h5; clear h5)
            | (go_at_call 13; (with_reducible refine (C4.out _ H5.out).mono ?_); rintro r w6 ⟨rfl, h6⟩; have H6 := Lib.hid h6; clear h6)
            | (go_at_call 23; (with_reducible refine (C5.out _ H6.out).mono ?_); rintro r w7 ⟨rfl, h7⟩; have H7 := Lib.hid h7; clear h7)
            | (go_at_call 28; (with_reducible refine (C6.out _ H7.out).mono ?_); rintro r w8 ⟨rfl, rfl⟩))
          go_ret
          exact ⟨rfl, H7.out.low⟩
        · have t1 : (k : Int) < (len : Int) := by omega
          have t2 : ¬ (k : Int) < 40 := by omega
          clear q1 q2 hkl
          go_wp2_with (first
            | (go_at_call 21; (with_reducible refine (C1.out _ HS.out).mono ?_); rintro r w3 ⟨rfl, h3⟩; have H3 := Lib.hid h3; clear h3)
            | (go_at_call 13; (with_reducible refine (C2.out _ H3.out).mono ?_); rintro r w4 ⟨rfl, h4⟩; have H4 := Lib.hid h4; clear h4)
            | (go_at_call 13; (with_reducible refine (C3.out _ H4.out).mono ?_); rintro r w5 ⟨rfl, h5⟩; have H5 := Lib.hid h5; clear h5)
            | (go_at_call 13; (with_reducible refine (C4.out _ H5.out).mono ?_); rintro r w6 ⟨rfl, h6⟩; have H6 := Lib.hid h6; clear h6)
            | (go_at_call 23; (with_reducible refine (C5.out _ H6.out).mono ?_); rintro r w7 ⟨rfl, h7⟩; have H7 := Lib.hid h7; clear h7)
            | (go_at_call 28; (with_reducible refine (C6.out _ H7.out).mono ?_); rintro r w8 ⟨rfl, rfl⟩))
          go_ret
          exact ⟨rfl, H7.out.low⟩

/-- What a row that came in holds. -/
theorem row_in {W : World} {a0 : Option Addr} {len cap : Nat} {z : List Int} (h : IsRow .i64 W a0 len cap z) :
    (len : Int) ≤ 9223372036854775807 ∧ (∀ k, k < len → I64 (z.getD k 0)) ∧ ∀ k, k < len → ∃ b off, a0 = some ⟨b, off, none⟩ ∧ b < W.heap.size ∧ W.cell? ⟨b, off + k, none⟩ = some (.int .i64 (z.getD k 0)) := by
  obtain ⟨h1, h2, h3, _, _, h4⟩ := isrow_reads h
  have hg : ∀ k, k < len → (z.take len).getD k 0 = z.getD k 0 := fun k hk => getD_take z len k hk
  refine ⟨h3, fun k hk => ?_, fun k hk => ?_⟩
  · refine i64_of_wf (h4 _ ?_)
    rw [← hg k hk, List.getD_eq_getElem?_getD, List.getElem?_eq_getElem (by omega)]
    exact List.getElem_mem _
  · rcases h1 with q | ⟨b, off, q1, q2, q3⟩
    · rw [q] at h2; simp at h2; omega
    · exact ⟨b, off, q1, q2, by rw [← hg k hk]; exact q3 k (by omega)⟩

theorem row_lowers (W : World) (a0 : Option Addr) (len cap : Nat) (z : List Int) (hrow : IsRow .i64 W a0 len cap z) (turn : Int) (_h : (Lit.int .i64 turn).wf = true) :
    Calls Try.prog 5 #[.slice a0 len cap, .int .i64 turn] W fun e w' => e = .returned (.bool true) ∧ Below W.heap.size W w' := by
  obtain ⟨h1, _, h3⟩ := row_in hrow
  exact law_lowers a0 len cap (min len 40) (fun k => z.getD k 0) turn W h1 rfl h3

end Go.Proofs.Ytbmmigaabhnnfaa
