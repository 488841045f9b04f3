/-
  The walk over the document's own whole part and rest, bit by bit.
-/
import Derived.Test.YtlpkilfpjdggeaaRef4
namespace Go.Proofs.Ytlpkilfpjdggeaa
open Go.RowKit

theorem bit_step (β j : Nat) : β / 2 ^ j = 2 * (β / 2 ^ (j + 1)) + β / 2 ^ j % 2 := by
  rw [Nat.pow_succ, ← Nat.div_div_eq_div_mul]; omega

theorem bit_and (β j : Nat) (h : β < 18446744073709551616) : bits .and .u64 ((β : Int) / 2 ^ j) 1 = ((β / 2 ^ j % 2 : Nat) : Int) := by
  have h1 : β / 2 ^ j ≤ β := Nat.div_le_self _ _
  have e : (β : Int) / 2 ^ j = ((β / 2 ^ j : Nat) : Int) := by simp
  rw [e]
  have := bits_and_u64_nat (β / 2 ^ j) 1 (by omega) (by omega)
  rw [nat_mask1] at this
  exact this

/-- Three cells of one block are written. -/
theorem three_set {w : World} {b : Nat} {x y z : Value} (u v t : Value) (h0 : w.cell? ⟨b, 0, none⟩ = some x) (h1 : w.cell? ⟨b, 1, none⟩ = some y) (h2 : w.cell? ⟨b, 2, none⟩ = some z) :
    ∃ w', ((w.setCell ⟨b, 0, none⟩ u).setCell ⟨b, 1, none⟩ v).setCell ⟨b, 2, none⟩ t = w' ∧ w'.cell? ⟨b, 0, none⟩ = some u ∧ w'.cell? ⟨b, 1, none⟩ = some v ∧ w'.cell? ⟨b, 2, none⟩ = some t ∧
    (∀ b' o, b' ≠ b → w'.cell? ⟨b', o, none⟩ = w.cell? ⟨b', o, none⟩) ∧ (∀ a, w'.frozen? a = w.frozen? a) ∧ w'.heap.size = w.heap.size ∧ ∀ B W, Below B W w → B ≤ b → Below B W w' := by
  obtain ⟨a1, a2, a3, a4, a5, a6⟩ := two_set u v h0 h1
  have a7 : ((w.setCell ⟨b, 0, none⟩ u).setCell ⟨b, 1, none⟩ v).cell? ⟨b, 2, none⟩ = some z := by
    rw [World.cell?_setCell_other _ _ _ _ (by simp), World.cell?_setCell_other _ _ _ _ (by simp)]; exact h2
  generalize (w.setCell ⟨b, 0, none⟩ u).setCell ⟨b, 1, none⟩ v = w1 at a1 a2 a3 a4 a5 a6 a7
  refine ⟨_, rfl, ?_, ?_, ?_, ?_, ?_, ?_, ?_⟩
  · rw [World.cell?_setCell_other _ _ _ _ (by simp)]; exact a1
  · rw [World.cell?_setCell_other _ _ _ _ (by simp)]; exact a2
  · exact World.cell?_setCell_same _ _ _ a7
  · intro b' o hne; rw [World.cell?_setCell_far _ _ _ _ (by simp; omega)]; exact a3 b' o hne
  · intro a; simp [a4]
  · simp [a5]
  · intro B W hb hB; exact (a6 B W hb hB).setCell (p := ⟨b, 2, none⟩) hB t

/-- What stands in the two blocks of the loop. -/
structure MD (w wr : World) (n c : Int) : Prop where
  x0 : wr.cell? ⟨w.heap.size + 1, 0, none⟩ = some (.int .u64 (n / c))
  x1 : wr.cell? ⟨w.heap.size + 1, 1, none⟩ = some (.int .u64 (n % c))
  x2 : wr.cell? ⟨w.heap.size + 1, 2, none⟩ = some (.bool true)
  x0f : wr.frozen? ⟨w.heap.size + 1, 0, none⟩ = false
  x1f : wr.frozen? ⟨w.heap.size + 1, 1, none⟩ = false
  x2f : wr.frozen? ⟨w.heap.size + 1, 2, none⟩ = false
  r0 : wr.cell? ⟨w.heap.size, 0, none⟩ = some (.int .u64 0)
  r1 : wr.cell? ⟨w.heap.size, 1, none⟩ = some (.int .u64 0)
  r2 : wr.cell? ⟨w.heap.size, 2, none⟩ = some (.bool false)
  r0f : wr.frozen? ⟨w.heap.size, 0, none⟩ = false
  r1f : wr.frozen? ⟨w.heap.size, 1, none⟩ = false
  r2f : wr.frozen? ⟨w.heap.size, 2, none⟩ = false
  below : Below w.heap.size w wr

theorem MD.next {w wr w1 : World} {n m c : Int} (h : MD w wr n c) (hw : Below wr.heap.size wr w1) :
    MD w (((w1.setCell ⟨w.heap.size + 1, 0, none⟩ (.int .u64 (m / c))).setCell ⟨w.heap.size + 1, 1, none⟩ (.int .u64 (m % c))).setCell ⟨w.heap.size + 1, 2, none⟩ (.bool true)) m c := by
  obtain ⟨w', e, a1, a2, a3, a4, a5, a6, a7⟩ := three_set (.int .u64 (m / c)) (.int .u64 (m % c)) (.bool true) (kept_cell hw h.x0) (kept_cell hw h.x1) (kept_cell hw h.x2)
  rw [e]
  exact { x0 := a1, x1 := a2, x2 := a3,
          x0f := by rw [a5]; exact kept_frozen hw h.x0 h.x0f, x1f := by rw [a5]; exact kept_frozen hw h.x1 h.x1f, x2f := by rw [a5]; exact kept_frozen hw h.x2 h.x2f,
          r0 := by rw [a4 _ _ (by omega)]; exact kept_cell hw h.r0, r1 := by rw [a4 _ _ (by omega)]; exact kept_cell hw h.r1, r2 := by rw [a4 _ _ (by omega)]; exact kept_cell hw h.r2,
          r0f := by rw [a5]; exact kept_frozen hw h.r0 h.r0f, r1f := by rw [a5]; exact kept_frozen hw h.r1 h.r1f, r2f := by rw [a5]; exact kept_frozen hw h.r2 h.r2f,
          below := a7 _ _ (h.below.trans (hw.mono h.below.size)) (by omega) }

set_option maxHeartbeats 2000000 in
theorem rmuldiv_pos (a c : Int) (β : Nat) (ha : U64 a) (hβ : β < 18446744073709551616) (hc : U64 c) (hc0 : 0 < c) (w : World) :
    Calls Try.prog 24 #[.int .u64 a, .int .u64 β, .int .u64 c] w fun e w' =>
      e = .returned (.agg #[.int .u64 (tQ (a * β) c), .int .u64 (tR (a * β) c), .bool (tB (a * β) c)]) ∧ Below w.heap.size w w' := by
  have hcz : (c == 0) = false := by rw [beq_eq_false_iff_ne]; omega
  have HA := Lib.hid ha
  have HC := Lib.hid hc
  have HB := Lib.hid hβ
  have hres : ∀ r, Hid (r = (tQ (a * β) c, tR (a * β) c, tB (a * β) c)) → Hid (tQ (a * β) c = r.1 ∧ tR (a * β) c = r.2.1 ∧ tB (a * β) c = r.2.2) := fun r h => by rw [h.out]; exact ⟨rfl, rfl, rfl⟩
  obtain ⟨Q, hQ⟩ : ∃ Q, tQ (a * β) c = Q := ⟨_, rfl⟩
  obtain ⟨R, hR⟩ : ∃ R, tR (a * β) c = R := ⟨_, rfl⟩
  obtain ⟨K, hK⟩ : ∃ K, tB (a * β) c = K := ⟨_, rfl⟩
  rw [hQ, hR, hK]
  have no : ∀ n : Int, n ≤ a * β → ¬ n / c < 18446744073709551616 → Q = 0 ∧ R = 0 ∧ K = false := by
    intro n hn h
    have : n / c ≤ a * β / c := Int.ediv_le_ediv hc0 hn
    obtain ⟨t1, t2, t3⟩ := t_no (n := a * β) (c := c) (by omega)
    exact ⟨by rw [← hQ, t1], by rw [← hR, t2], by rw [← hK, t3]⟩
  have yes : a * β / c < 18446744073709551616 → Q = a * β / c ∧ R = a * β % c ∧ K = true := by
    intro h
    obtain ⟨t1, t2, t3⟩ := t_yes (n := a * β) (c := c) h
    exact ⟨by rw [← hQ, t1], by rw [← hR, t2], by rw [← hK, t3]⟩
  have NO := Lib.hid no
  have YES := Lib.hid yes
  clear hres hQ hR hK no yes ha hc hβ
  go_enter Try.func24, Try.ntmps24
  go_wp2
  go_loopw [8] (fun i wr => ∃ (k : Nat) (v n : Int), k ≤ 64 ∧ i = .int .i64 v ∧ Hid (v + 1 = (k : Int)) ∧ Hid (n = ((β / 2 ^ k : Nat) : Int) * a) ∧ Hid (n / c < 18446744073709551616 ∧ 0 ≤ n) ∧ MD w wr n c) (fun i _ => (intOf i + 1).toNat)
  case atStart =>
    have hz : β / 2 ^ 64 = 0 := Nat.div_eq_of_lt HB.out
    refine ⟨64, 63, 0, Nat.le_refl _, rfl, by show (63 : Int) + 1 = ((64 : Nat) : Int); omega, by show (0 : Int) = _; rw [hz]; simp, by show (0 : Int) / c < _ ∧ _; simp, ?_⟩
    exact { x0 := by simp, x1 := by simp, x2 := by simp, x0f := by simp, x1f := by simp, x2f := by simp, r0 := by simp, r1 := by simp, r2 := by simp, r0f := by simp, r1f := by simp, r2f := by simp, below := ((Below.refl _ _).alloc (Nat.le_refl _) _).alloc (by simp) _ }
  case round =>
    obtain ⟨k, v, n, hk, rfl, hv, hn, hnc, hmd⟩ := hrel
    obtain ⟨x0, x1, x2, x0f, x1f, x2f, r0, r1, r2, r0f, r1f, r2f, hbel⟩ := hmd
    have MDh := Lib.hid (MD.mk x0 x1 x2 x0f x1f x2f r0 r1 r2 r0f r1f r2f hbel)
    have hsz : w.heap.size + 1 < wr.heap.size := block_of_cell x0
    rcases Nat.eq_zero_or_pos k with hk0 | hkp
    · subst hk0
      obtain rfl : v = -1 := by have := hv.out; omega
      have e1 : n = a * β := by have := hn.out; simpa [Int.mul_comm] using this
      obtain ⟨y1, y2, y3⟩ := YES.out (by rw [← e1]; exact hnc.out.1)
      obtain ⟨w', e, b1, b2, b3, b4, b5, b6, b7⟩ := three_set (.int .u64 (n / c)) (.int .u64 (n % c)) (.bool true) r0 r1 r2
      rw [← e1] at y1 y2
      have Y := Lib.hid (And.intro y1 (And.intro y2 y3))
      have E := Lib.hid e
      have B7 := Lib.hid b7
      clear e1 y1 y2 y3 e b7 b4 b5 b6
      go_wp2
      rw [E.out]
      refine bodyPost_ret (v := .agg #[.int .u64 (n / c), .int .u64 (n % c), .bool true]) (by simp [results, Try.results24, go_sem, b1, b2, b3]) rfl ⟨by rw [Y.out.1, Y.out.2.1, Y.out.2.2], B7.out _ _ hbel (Nat.le_refl _)⟩
    · obtain ⟨j, rfl⟩ : ∃ j, k = j + 1 := ⟨k - 1, by omega⟩
      obtain rfl : v = (j : Int) := by have := hv.out; omega
      have hd := bit_step β j
      have hd2 : β / 2 ^ j % 2 < 2 := Nat.mod_lt _ (by omega)
      have hand := bit_and β j HB.out
      have hle : ((β / 2 ^ j : Nat) : Int) * a ≤ a * β := by
        rw [Int.mul_comm a]
        exact Int.mul_le_mul_of_nonneg_right (by have := Nat.div_le_self β (2 ^ j); omega) HA.out.1
      have hnx : ((β / 2 ^ j : Nat) : Int) * a = 2 * n + ((β / 2 ^ j % 2 : Nat) : Int) * a := by
        rw [hn.out]
        generalize hA : β / 2 ^ (j + 1) = A at hd
        generalize β / 2 ^ j % 2 = d at hd
        rw [hd, Int.natCast_add, Int.add_mul, Int.natCast_mul, Int.mul_assoc]
        rfl
      have hj63 : j ≤ 63 := by omega
      generalize hd' : β / 2 ^ j % 2 = d at hd2 hand hnx
      have Hn' := Lib.hid hnx
      have Hle := Lib.hid hle
      have T := rtwice_any n c hnc.out.2 HC.out (by omega) hnc.out.1
      have hjj : (j : Int) + 1 ≤ 64 := by omega
      clear hd hle hnx hd'
      by_cases h2 : 2 * n / c < 18446744073709551616
      · obtain ⟨t1, t2, t3⟩ := t_yes h2
        rw [t1, t2, t3] at T
        have T := Lib.hid T
        clear t1 t2 t3
        have H2 := Lib.hid h2
        have M := Lib.hid (fun w => rmore_any (2 * n) a c (by have := hnc.out.2; omega) HA.out HC.out hc0 h2 w)
        clear h2
        go_upto_region 8 with (go_at_call 36; (refine (T.out _).mono ?_); rintro e w1 ⟨rfl, hw⟩; have kx0 := kept_cell hw x0; have kfx0 := kept_frozen hw x0 x0f; have kx1 := kept_cell hw x1; have kfx1 := kept_frozen hw x1 x1f; have kx2 := kept_cell hw x2; have kfx2 := kept_frozen hw x2 x2f; have kr0 := kept_cell hw r0; have kfr0 := kept_frozen hw r0 r0f; have kr1 := kept_cell hw r1; have kfr1 := kept_frozen hw r1 r1f; have kr2 := kept_cell hw r2; have kfr2 := kept_frozen hw r2 r2f)
        have N := MDh.out.next hw (m := 2 * n)
        obtain ⟨W1, hW1⟩ : ∃ W1, ((w1.setCell ⟨w.heap.size + 1, 0, none⟩ (.int .u64 (2 * n / c))).setCell ⟨w.heap.size + 1, 1, none⟩ (.int .u64 (2 * n % c))).setCell ⟨w.heap.size + 1, 2, none⟩ (.bool true) = W1 := ⟨_, rfl⟩
        rw [hW1] at N ⊢
        have HN := Lib.hid N
        obtain ⟨x0, x1, x2, x0f, x1f, x2f, r0, r1, r2, r0f, r1f, r2f, hbel1⟩ := N
        clear hW1 kx0 kx1 kx2 kr0 kr1 kr2 kfx0 kfx1 kfx2 kfr0 kfr1 kfr2
        rcases (show d = 0 ∨ d = 1 by omega) with rfl | rfl
        · have hand0 : bits BinOp.and IntKind.u64 ((β : Int) / 2 ^ j) 1 = 0 := hand
          clear hand
          go_wp2_with (fail)
          go_roundw
          case rel =>
            refine ⟨j, (j : Int) - 1, 2 * n, by omega, by go_num, by show (j : Int) - 1 + 1 = _; omega, ?_, ⟨H2.out, by have := hnc.out.2; omega⟩, HN.out⟩
            have := Hn'.out; show 2 * n = _; simpa using this.symm
          case measure => simp [intOf] <;> omega
        · have hand1 : bits BinOp.and IntKind.u64 ((β : Int) / 2 ^ j) 1 = 1 := hand
          clear hand
          have hnx2 := Hn'.out
          rw [show ((1 : Nat) : Int) * a = a by simp] at hnx2
          have hle2 := Hle.out
          rw [hnx2] at hle2
          by_cases h3 : (2 * n + a) / c < 18446744073709551616
          · obtain ⟨t1, t2, t3⟩ := t_yes h3
            have MM := M.out
            rw [t1, t2, t3] at MM
            have MM := Lib.hid MM
            have H3 := Lib.hid h3
            have HX := Lib.hid hnx2
            clear t1 t2 t3 h3 hle2 hnx2
            go_upto_region 10 with (go_at_call 37; (refine (MM.out _).mono ?_); rintro e w2 ⟨rfl, hv2⟩; have kx0 := kept_cell hv2 x0; have kfx0 := kept_frozen hv2 x0 x0f; have kx1 := kept_cell hv2 x1; have kfx1 := kept_frozen hv2 x1 x1f; have kx2 := kept_cell hv2 x2; have kfx2 := kept_frozen hv2 x2 x2f; have kr0 := kept_cell hv2 r0; have kfr0 := kept_frozen hv2 r0 r0f; have kr1 := kept_cell hv2 r1; have kfr1 := kept_frozen hv2 r1 r1f; have kr2 := kept_cell hv2 r2; have kfr2 := kept_frozen hv2 r2 r2f)
            have N2 := HN.out.next hv2 (m := 2 * n + a)
            obtain ⟨W2, hW2⟩ : ∃ W2, ((w2.setCell ⟨w.heap.size + 1, 0, none⟩ (.int .u64 ((2 * n + a) / c))).setCell ⟨w.heap.size + 1, 1, none⟩ (.int .u64 ((2 * n + a) % c))).setCell ⟨w.heap.size + 1, 2, none⟩ (.bool true) = W2 := ⟨_, rfl⟩
            rw [hW2] at N2 ⊢
            have HN2 := Lib.hid N2
            obtain ⟨x0, x1, x2, x0f, x1f, x2f, r0, r1, r2, r0f, r1f, r2f, hbel2⟩ := N2
            clear hW2 kx0 kx1 kx2 kr0 kr1 kr2 kfx0 kfx1 kfx2 kfr0 kfr1 kfr2
            go_wp2_with (fail)
            go_roundw
            case rel => exact ⟨j, (j : Int) - 1, 2 * n + a, by omega, by go_num, by show (j : Int) - 1 + 1 = _; omega, HX.out.symm, ⟨H3.out, by have := hnc.out.2; have := HA.out.1; omega⟩, HN2.out⟩
            case measure => simp [intOf] <;> omega
          · obtain ⟨z1, z2, z3⟩ := NO.out _ hle2 (by omega)
            obtain ⟨t1, t2, t3⟩ := t_no h3
            have MM := M.out
            rw [t1, t2, t3] at MM
            have MM := Lib.hid MM
            clear t1 t2 t3 h3 hle2 hnx2
            go_wp2_with (go_at_call 37; (refine (MM.out _).mono ?_); rintro e w2 ⟨rfl, hv2⟩; have kx0 := kept_cell hv2 x0; have kfx0 := kept_frozen hv2 x0 x0f; have kx1 := kept_cell hv2 x1; have kfx1 := kept_frozen hv2 x1 x1f; have kx2 := kept_cell hv2 x2; have kfx2 := kept_frozen hv2 x2 x2f; have kr0 := kept_cell hv2 r0; have kfr0 := kept_frozen hv2 r0 r0f; have kr1 := kept_cell hv2 r1; have kfr1 := kept_frozen hv2 r1 r1f; have kr2 := kept_cell hv2 r2; have kfr2 := kept_frozen hv2 r2 r2f)
            have hb2 : Below w.heap.size w w2 := hbel1.trans (hv2.mono hbel1.size)
            refine bodyPost_ret (v := .agg #[.int .u64 0, .int .u64 0, .bool false]) (by simp [results, Try.results24, go_sem, *]) rfl ⟨by rw [z1, z2, z3], ?_⟩
            repeat (first | (with_reducible exact hb2) | refine Below.setCell ?_ (by simp) _)
      · have hle2 : 2 * n ≤ a * β := by
          have h5 := Hle.out
          have h6 := Hn'.out
          have h7 : 0 ≤ (d : Int) * a := Int.mul_nonneg (by omega) HA.out.1
          omega
        obtain ⟨z1, z2, z3⟩ := NO.out _ hle2 (by omega)
        obtain ⟨t1, t2, t3⟩ := t_no h2
        rw [t1, t2, t3] at T
        have T := Lib.hid T
        clear t1 t2 t3 h2 hle2 hand hd2
        go_wp2_with (go_at_call 36; (refine (T.out _).mono ?_); rintro e w1 ⟨rfl, hw⟩; have kx0 := kept_cell hw x0; have kfx0 := kept_frozen hw x0 x0f; have kx1 := kept_cell hw x1; have kfx1 := kept_frozen hw x1 x1f; have kx2 := kept_cell hw x2; have kfx2 := kept_frozen hw x2 x2f; have kr0 := kept_cell hw r0; have kfr0 := kept_frozen hw r0 r0f; have kr1 := kept_cell hw r1; have kfr1 := kept_frozen hw r1 r1f; have kr2 := kept_cell hw r2; have kfr2 := kept_frozen hw r2 r2f)
        have hb2 : Below w.heap.size w w1 := hbel.trans (hw.mono hbel.size)
        refine bodyPost_ret (v := .agg #[.int .u64 0, .int .u64 0, .bool false]) (by simp [results, Try.results24, go_sem, *]) rfl ⟨by rw [z1, z2, z3], ?_⟩
        repeat (first | (with_reducible exact hb2) | refine Below.setCell ?_ (by simp) _)

end Go.Proofs.Ytlpkilfpjdggeaa
