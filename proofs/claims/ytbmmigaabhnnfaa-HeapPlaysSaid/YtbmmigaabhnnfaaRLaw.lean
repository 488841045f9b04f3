/-
  The walk over the statement that a heap goes on, step by step, as the document's own does.
-/
import Derived.Test.YtbmmigaabhnnfaaRPair
namespace Go.Proofs.Ytbmmigaabhnnfaa
open Go.RowKit Go.Maps

theorem i64_and15 (n : Int) : bits .and .i64 n 15 = n % 16 := bits_low n 4 _ (by decide) (by omega)
theorem i64_and7 (n : Int) : bits .and .i64 n 7 = n % 8 := bits_low n 3 _ (by decide) (by omega)

set_option maxRecDepth 100000 in
set_option maxHeartbeats 1000000 in
/-- The key that is meant. -/
theorem key_any (kd ky nn : Int) (nr : Bool) (hk : I64 ky) : ∃ k, I64 k ∧ ∀ w, Calls Try.prog 12 #[.agg #[.int .i64 kd, .int .i64 ky, .int .i64 nn, .bool nr]] w fun r w' => r = .returned (.int .i64 k) ∧ Below w.heap.size w w' := by
  cases nr with
  | false =>
    refine ⟨ky, hk, fun w => ?_⟩
    go_enter Try.func12, Try.ntmps12
    go_wp2
    go_ret
    exact ⟨rfl, (Below.refl _ _).alloc (Nat.le_refl _) _⟩
  | true =>
    obtain ⟨z, hz⟩ : ∃ z, z = ky % 16 := ⟨_, rfl⟩
    have hy : bits .and .i64 ky 15 = z := by rw [i64_and15, hz]
    refine ⟨z, by unfold I64; omega, fun w => ?_⟩
    clear hz
    go_enter Try.func12, Try.ntmps12
    go_wp2
    go_ret
    exact ⟨rfl, (Below.refl _ _).alloc (Nat.le_refl _) _⟩

theorem RSt.o0 {W w : World} {sa na N rb nb ob : Nat} {ma a b c d : Value} {ca cb : Int → Option Int} (h : RSt W w sa ma na N ca rb nb cb ob #[a, b, c, d]) : w.cell? ⟨ob, 0, none⟩ = some a ∧ w.cell? ⟨ob, 2, none⟩ = some c := ⟨by rw [blk_cell h.obj]; rfl, by rw [blk_cell h.obj]; rfl⟩
theorem kinds {z : Int} (_h : 0 ≤ z ∧ z < 8) : ((z == 3) = true) ∨ ((z == 3) = false ∧ (z == 4) = true) ∨ ((z == 3) = false ∧ (z == 4) = false ∧ (z == 5) = true) ∨ ((z == 3) = false ∧ (z == 4) = false ∧ (z == 5) = false ∧ (z == 6) = true) ∨ ((z == 3) = false ∧ (z == 4) = false ∧ (z == 5) = false ∧ (z == 6) = false ∧ (z == 7) = true) ∨ ((z == 3) = false ∧ (z == 4) = false ∧ (z == 5) = false ∧ (z == 6) = false ∧ (z == 7) = false) := by
  simp only [beq_eq_false_iff_ne, beq_iff_eq]
  omega

set_option maxRecDepth 100000 in
set_option maxHeartbeats 4000000 in
theorem law_plays (a0 : Option Addr) (len cap m : Nat) (O : Nat → Int × Int × Int × Bool) (W : World) (hlen : (len : Int) ≤ 9223372036854775807) (hm : m = min len 60) (HZ : Hid (∀ k, k < len → I64 (O k).1 ∧ I64 (O k).2.1 ∧ I64 (O k).2.2.1))
    (HC : Hid (∀ k, k < len → ∃ b off, a0 = some ⟨b, off, none⟩ ∧ b < W.heap.size ∧ W.cell? ⟨b, off + k * 4, none⟩ = some (.int .i64 (O k).1) ∧ W.cell? ⟨b, off + k * 4 + 1, none⟩ = some (.int .i64 (O k).2.1) ∧ W.cell? ⟨b, off + k * 4 + 2, none⟩ = some (.int .i64 (O k).2.2.1) ∧ W.cell? ⟨b, off + k * 4 + 3, none⟩ = some (.bool (O k).2.2.2))) :
    Calls Try.prog 3 #[.slice a0 len cap] W fun e w' => e = .returned (.bool true) ∧ Below W.heap.size W w' := by
  have A := Lib.hid (awake_any W)
  have C0 := Lib.hid (fun w (h : Below W.heap.size W w) => st_new W w h)
  unfold lessV at C0
  have hm60 : m ≤ 60 := by omega
  have hml : m ≤ len := by omega
  have hor : m = len ∨ (m = 60 ∧ 60 < len) := by omega
  clear hm
  go_enter Try.func3, Try.ntmps3
  go_wp2_with (first
    | (go_at_call 9; (refine (A.out).mono ?_); rintro r w1 ⟨rfl, h1⟩; have H1 := Lib.hid h1; clear h1)
    | (go_at_call 10; (refine (C0.out _ H1.out).mono ?_); rintro r w2 ⟨sa, ma, rfl, h2⟩; have H2 := Lib.hid (rpr_new h2); clear h2))
  clear C0 A
  generalize hrb : w2.heap.size = rb at H2 ⊢
  go_loopw [6] (fun u wr => ∃ (i n N : Nat) (c : Int → Option Int), i ≤ m ∧ n ≤ i ∧ N ≤ i ∧ u = .int .i64 i ∧ Hid (RPr W wr sa ma n N c rb n c)) (fun u _ => (m - intOf u).toNat)
  case atStart => exact ⟨0, 0, 0, _, by omega, by omega, by omega, rfl, H2⟩
  case round =>
    obtain ⟨i, n, N, c, hi, hni, hNi, rfl, HP⟩ := hrel
    clear H1 H2 hrb
    by_cases hlt : i < m
    · obtain ⟨b, off, rfl, hb, o0, o1, o2, o3⟩ := HC.out i (by omega)
      have o0 : wr.cell? ⟨b, off + i * 4, none⟩ = some (.int .i64 (O i).1) := by rw [HP.out.low.cell (p := ⟨b, off + i * 4, none⟩) hb]; exact o0
      have o1 : wr.cell? ⟨b, off + i * 4 + 1, none⟩ = some (.int .i64 (O i).2.1) := by rw [HP.out.low.cell (p := ⟨b, off + i * 4 + 1, none⟩) hb]; exact o1
      have o2 : wr.cell? ⟨b, off + i * 4 + 2, none⟩ = some (.int .i64 (O i).2.2.1) := by rw [HP.out.low.cell (p := ⟨b, off + i * 4 + 2, none⟩) hb]; exact o2
      have o3 : wr.cell? ⟨b, off + i * 4 + 3, none⟩ = some (.bool (O i).2.2.2) := by rw [HP.out.low.cell (p := ⟨b, off + i * 4 + 3, none⟩) hb]; exact o3
      obtain ⟨z1, z2, z3⟩ := HZ.out i (by omega)
      have hbw : b < wr.heap.size := Nat.lt_of_lt_of_le hb HP.out.low.size
      generalize (O i).1 = kd at o0 z1
      generalize (O i).2.1 = ky at o1 z2
      generalize (O i).2.2.1 = nn at o2 z3
      generalize (O i).2.2.2 = nr at o3
      obtain ⟨k, zk, cky⟩ := key_any kd ky nn nr z2
      have CKy := Lib.hid cky
      clear cky
      have HZ2 : Hid (I64 k ∧ I64 nn) := ⟨zk, z3⟩
      obtain ⟨z, hz⟩ : ∃ z, z = kd % 8 := ⟨_, rfl⟩
      have hy : bits .and .i64 kd 7 = z := by rw [i64_and7, hz]
      have hz8 : Hid (0 ≤ z ∧ z < 8) := ⟨by omega, by omega⟩
      have HS0 := Lib.hid (HP.out.st #[.int .i64 kd, .int .i64 ky, .int .i64 nn, .bool nr])
      have hk1 : (i : Int) < (len : Int) := by omega
      have hk2 : (i : Int) < 60 := by omega
      have hk0 : (0 : Int) ≤ (i : Int) := by omega
      clear HC HZ hb hor hz z1 z2 z3 zk HP
      go_upto_block 2 with (go_at_call 12; (refine (CKy.out _).mono ?_); rintro r w3 ⟨rfl, h3⟩; have h3 := HS0.out.below h3; obtain ⟨p0, p2⟩ := h3.o0; have H3 := Lib.hid h3; clear h3)
      clear CKy HS0 o0 o1 o2 o3 hbw
      go_cut [9] (fun okv wx => okv = .bool true ∧ ∃ (n1 N1 : Nat) (c1 : Int → Option Int), n1 ≤ i + 1 ∧ N1 ≤ i + 1 ∧ Hid (RSt W wx sa ma n1 N1 c1 rb n1 c1 wr.heap.size #[.int .i64 kd, .int .i64 ky, .int .i64 nn, .bool nr]))
      case first =>
        rcases kinds hz8.out with t3 | ⟨t3, t4⟩ | ⟨t3, t4, t5⟩ | ⟨t3, t4, t5, t6⟩ | ⟨t3, t4, t5, t6, t7⟩ | ⟨t3, t4, t5, t6, t7⟩
        · obtain ⟨b1, c1, ca, cb⟩ := rs_lower (n := n) sa N rb wr.heap.size W ma #[.int .i64 kd, .int .i64 ky, .int .i64 nn, .bool nr] c (by omega) (by omega) HZ2.out.1 HZ2.out.2
          have CA := Lib.hid ca
          have CB := Lib.hid cb
          clear ca cb
          go_upto_region 16 with (fail)
          go_region_with (first
            | (go_at_call 13; (with_reducible refine (CA.out _ (by repeat (first | exact H3.out | refine RSt.drew ?_))).mono ?_); rintro r w4 ⟨rfl, h4⟩; have q2 := h4.o0.2; have H4 := Lib.hid h4; clear h4)
            | (go_at_call 14; (with_reducible refine (CB.out _ (by repeat (first | exact H4.out | refine RSt.drew ?_))).mono ?_); rintro r w5 ⟨rfl, h5⟩; have r2 := h5.o0.2; have H5 := Lib.hid h5; clear h5))
          all_goals
            go_wp2_with (fail)
            go_meet
            exact ⟨by simp, n, N, c1, by omega, by omega, H5⟩
        · obtain ⟨b1, c1, ca, cb⟩ := rs_lower (n := n) sa N rb wr.heap.size W ma #[.int .i64 kd, .int .i64 ky, .int .i64 nn, .bool nr] c (by omega) (by omega) HZ2.out.1 HZ2.out.2
          have CA := Lib.hid ca
          have CB := Lib.hid cb
          clear ca cb
          go_upto_region 16 with (fail)
          go_region_with (first
            | (go_at_call 13; (with_reducible refine (CA.out _ (by repeat (first | exact H3.out | refine RSt.drew ?_))).mono ?_); rintro r w4 ⟨rfl, h4⟩; have q2 := h4.o0.2; have H4 := Lib.hid h4; clear h4)
            | (go_at_call 14; (with_reducible refine (CB.out _ (by repeat (first | exact H4.out | refine RSt.drew ?_))).mono ?_); rintro r w5 ⟨rfl, h5⟩; have r2 := h5.o0.2; have H5 := Lib.hid h5; clear h5))
          all_goals
            go_wp2_with (fail)
            go_meet
            exact ⟨by simp, n, N, c1, by omega, by omega, H5⟩
        · obtain ⟨k1, x1, b1, n1, c1, hn1, ca, cb⟩ := rs_take (n := n) (by omega) (by omega) H3.out
          have CA := Lib.hid ca
          have CB := Lib.hid cb
          clear ca cb
          go_wp2_with (first
            | (go_at_call 15; (with_reducible refine (CA.out _ H3.out).mono ?_); rintro r w4 ⟨rfl, h4⟩; have H4 := Lib.hid h4; clear h4)
            | (go_at_call 16; (with_reducible refine (CB.out _ H4.out).mono ?_); rintro r w5 ⟨rfl, h5⟩; have H5 := Lib.hid h5; clear h5))
          go_meet
          exact ⟨by simp, n1, N, c1, by omega, by omega, H5.out.alloc _⟩
        · obtain ⟨b1, n1, c1, hn1, ca, cb⟩ := rs_drop (n := n) sa N rb wr.heap.size W ma #[.int .i64 kd, .int .i64 ky, .int .i64 nn, .bool nr] c (by omega) (by omega) HZ2.out.1
          have CA := Lib.hid ca
          have CB := Lib.hid cb
          clear ca cb
          go_wp2_with (first
            | (go_at_call 17; (with_reducible refine (CA.out _ H3.out).mono ?_); rintro r w4 ⟨rfl, h4⟩; have H4 := Lib.hid h4; clear h4)
            | (go_at_call 18; (with_reducible refine (CB.out _ H4.out).mono ?_); rintro r w5 ⟨rfl, h5⟩; have H5 := Lib.hid h5; clear h5))
          go_meet
          exact ⟨by simp, n1, N, c1, by omega, by omega, H5⟩
        · go_wp2
          go_meet
          exact ⟨rfl, n, N, c, by omega, by omega, H3⟩
        · obtain ⟨b1, n1, N1, c1, hn1, hN1, ca, cb⟩ := rs_put (n := n) sa N rb wr.heap.size W ma #[.int .i64 kd, .int .i64 ky, .int .i64 nn, .bool nr] c (by omega) (by omega) HZ2.out.1 HZ2.out.2
          have CA := Lib.hid ca
          have CB := Lib.hid cb
          clear ca cb
          go_upto_region 13 with (fail)
          go_region_with (first
            | (go_at_call 19; (with_reducible refine (CA.out _ (by repeat (first | exact H3.out | refine RSt.drew ?_))).mono ?_); rintro r w4 ⟨rfl, h4⟩; have q2 := h4.o0.2; have H4 := Lib.hid h4; clear h4)
            | (go_at_call 20; (with_reducible refine (CB.out _ (by repeat (first | exact H4.out | refine RSt.drew ?_))).mono ?_); rintro r w5 ⟨rfl, h5⟩; have r2 := h5.o0.2; have H5 := Lib.hid h5; clear h5))
          all_goals
            go_wp2_with (fail)
            go_meet
            exact ⟨by simp, n1, N1, c1, by omega, by omega, H5⟩
      case rest =>
        obtain ⟨rfl, n1, N1, c1, hn1, hN1, HS⟩ := hcut
        clear H3 p0 p2 hy hz8
        obtain ⟨x1, b1, g1, g2⟩ := rs_get (n := n1) sa N1 rb wr.heap.size W ma #[.int .i64 kd, .int .i64 ky, .int .i64 nn, .bool nr] c1 (by omega) HZ2.out.1
        obtain ⟨k2, x2, b2, m1, m2⟩ := rs_min (by omega) HS.out
        have G1 := Lib.hid g1
        have G2 := Lib.hid g2
        have M1 := Lib.hid m1
        have M2 := Lib.hid m2
        have K1 := Lib.hid (fun w h => rs_keys (W := W) (w := w) (sa := sa) (n := n1) (N := N1) (rb := rb) (ob := wr.heap.size) (ma := ma) (c := c1) (oo := #[.int .i64 kd, .int .i64 ky, .int .i64 nn, .bool nr]) (by omega) h)
        have K2 := Lib.hid (fun w h => rs_keys_b (W := W) (w := w) (sa := sa) (n := n1) (N := N1) (rb := rb) (ob := wr.heap.size) (ma := ma) (c := c1) (oo := #[.int .i64 kd, .int .i64 ky, .int .i64 nn, .bool nr]) (by omega) h)
        have CSm := Lib.hid (fun w L L' a a' cap cap' (h : Told W n1 c1 L a w) (h' : Told W n1 c1 L' a' w) => same_told (cap := cap) (cap' := cap') (show (n1 : Int) ≤ 100000 by omega) h h')
        clear g1 g2 m1 m2
        go_upto_region 29 with (first
          | (go_at_call 21; (with_reducible refine (G1.out _ HS.out).mono ?_); rintro r w4 ⟨rfl, _, h4⟩; have H4 := Lib.hid h4; clear h4)
          | (go_at_call 22; (with_reducible refine (G2.out _ H4.out).mono ?_); rintro r w5 ⟨rfl, _, h5⟩; have H5 := Lib.hid (h5.alloc (.cells #[.int .i64 x1, .bool b1] 45)); clear h5)
          | (go_at_call 23; (with_reducible refine (M1.out _ H5.out).mono ?_); rintro r w6 ⟨rfl, hb6, h6⟩; have H6 := Lib.hid h6; have HB6 := Lib.hid hb6; clear h6 hb6)
          | (go_at_call 24; (with_reducible refine (M2.out _ H6.out).mono ?_); rintro r w7 ⟨rfl, hb7, h7⟩; have H7 := Lib.hid (h7.alloc (.cells #[.int .i64 k2, .int .i64 x2] 38)); have HB7 := Lib.hid hb7; clear h7 hb7)
          | (go_at_call 26; (with_reducible refine (K1.out _ H7.out).mono ?_); rintro r w8 ⟨ka, kc, L, rfl, t8, hb8, h8⟩; have H8 := Lib.hid h8; have T8 := Lib.hid t8; have HB8 := Lib.hid hb8; clear h8 t8 hb8)
          | (go_at_call 27; (with_reducible refine (K2.out _ H8.out).mono ?_); rintro r w9 ⟨ka', kc', L', rfl, t9, hb9, h9⟩; have H9 := Lib.hid h9; have T9 := Lib.hid t9; have T8' := Lib.hid (T8.out.below hb9); have HB9 := Lib.hid hb9; clear h9 t9 hb9)
          | (go_at_call 25; (with_reducible refine (CSm.out _ _ _ _ _ _ _ T8'.out T9.out).mono ?_); rintro r w10 ⟨rfl, hb10⟩; have H10 := Lib.hid (H9.out.below hb10); have HB10 := Lib.hid hb10; clear hb10))
        have o1 : (w5.alloc (.cells #[.int .i64 x1, .bool b1] 45)).heap[w5.heap.size]? = some (.cells #[.int .i64 x1, .bool b1] 45 (0, 0)) := heap_alloc_new _ _
        have o2 := (HB7.out.block _ (lt_of_block ((HB6.out.block _ (lt_of_block o1)).trans o1))).trans ((HB6.out.block _ (lt_of_block o1)).trans o1)
        have o3 : (w7.alloc (.cells #[.int .i64 k2, .int .i64 x2] 38)).heap[w5.heap.size]? = some (.cells #[.int .i64 x1, .bool b1] 45 (0, 0)) := (Below.block ((Below.refl _ w7).alloc (Nat.le_refl _) _) _ (lt_of_block o2)).trans o2
        have p3 : (w7.alloc (.cells #[.int .i64 k2, .int .i64 x2] 38)).heap[w7.heap.size]? = some (.cells #[.int .i64 k2, .int .i64 x2] 38 (0, 0)) := heap_alloc_new _ _
        have hb : Below (w7.alloc (.cells #[.int .i64 k2, .int .i64 x2] 38)).heap.size (w7.alloc (.cells #[.int .i64 k2, .int .i64 x2] 38)) w10 := HB8.out.trans ((HB9.out.trans (HB10.out.mono HB9.out.size)).mono HB8.out.size)
        have o4 := (hb.block _ (lt_of_block o3)).trans o3
        have p4 := (hb.block _ (lt_of_block p3)).trans p3
        clear o1 o2 o3 p3 hb HB6 HB7 HB8 HB9 HB10 T8 T9 T8' H4 H5 H6 H7 H8 H9 G1 G2 M1 M2 K1 K2 CSm
        generalize w5.heap.size = gb at o4 ⊢
        generalize w7.heap.size = ib at p4 ⊢
        obtain ⟨ra, rc, v0⟩ := rs_row H10.out
        have v1 : w10.cell? ⟨gb, 0, none⟩ = some (.int .i64 x1) := by rw [blk_cell o4]; rfl
        have v2 : w10.cell? ⟨gb, 1, none⟩ = some (.bool b1) := by rw [blk_cell o4]; rfl
        have v3 : w10.cell? ⟨ib, 0, none⟩ = some (.int .i64 k2) := by rw [blk_cell p4]; rfl
        have v4 : w10.cell? ⟨ib, 1, none⟩ = some (.int .i64 x2) := by rw [blk_cell p4]; rfl
        have MK : Hid (∀ w', Below w10.heap.size w10 w' → Below w10.heap.size w10 w' ∧ w'.cell? ⟨rb, 0, none⟩ = some (.slice ra n1 rc) ∧ w'.cell? ⟨gb, 0, none⟩ = some (.int .i64 x1) ∧ w'.cell? ⟨gb, 1, none⟩ = some (.bool b1) ∧ w'.cell? ⟨ib, 0, none⟩ = some (.int .i64 k2) ∧ w'.cell? ⟨ib, 1, none⟩ = some (.int .i64 x2)) := fun w' h => ⟨h, kept_cell h v0, kept_cell h v1, kept_cell h v2, kept_cell h v3, kept_cell h v4⟩
        have CL : Hid (∀ w', Below w10.heap.size w10 w' → Calls Try.prog 28 #[.pointer (some ⟨sa, 0, none⟩)] w' fun r w'' => r = .returned (.int .i64 (n1 : Int)) ∧ Below w10.heap.size w10 w'') := fun w' h => (rs_len (H10.out.below h)).mono fun r w'' ⟨a, b⟩ => ⟨a, by rw [← b]; exact h⟩
        have r0 := Below.refl w10.heap.size w10
        clear o4 p4 HS
        go_region_held3 (fun w' => Below w10.heap.size w10 w' ∧ w'.cell? ⟨rb, 0, none⟩ = some (.slice ra n1 rc) ∧ w'.cell? ⟨gb, 0, none⟩ = some (.int .i64 x1) ∧ w'.cell? ⟨gb, 1, none⟩ = some (.bool b1) ∧ w'.cell? ⟨ib, 0, none⟩ = some (.int .i64 k2) ∧ w'.cell? ⟨ib, 1, none⟩ = some (.int .i64 x2)) (exact MK.out _ (by repeat (first | (with_reducible assumption) | refine Below.drew ?_))) (first | (go_at_call 28; (with_reducible refine (CL.out _ (by repeat (first | (with_reducible assumption) | refine Below.drew ?_))).mono ?_); rintro e wx ⟨rfl, bx⟩) | fail)
        all_goals
          go_wp2
          exact ⟨⟨i + 1, n1, N1, c1, by omega, by omega, by omega, by simp, H10.out.pr.below (by with_reducible assumption)⟩, by simp [intOf]; omega⟩
    · obtain rfl : i = m := by omega
      have hor2 : (i : Int) = (len : Int) ∨ ((i : Int) = 60 ∧ (60 : Int) < (len : Int)) := by omega
      have HW := Lib.hid HP.out.low
      clear HC HZ hor hml hi hlt HP
      rcases hor2 with q | ⟨q1, q2⟩
      · have t1 : ¬ (i : Int) < (len : Int) := by omega
        clear q
        go_wp2
        go_ret
        exact ⟨rfl, HW.out⟩
      · have t1 : (i : Int) < (len : Int) := by omega
        have t2 : ¬ (i : Int) < 60 := by omega
        clear q1 q2
        go_wp2
        go_ret
        exact ⟨rfl, HW.out⟩

end Go.Proofs.Ytbmmigaabhnnfaa
