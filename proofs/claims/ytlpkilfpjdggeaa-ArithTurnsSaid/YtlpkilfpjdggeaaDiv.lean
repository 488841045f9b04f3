/-
  The walk over the division of two words by one.
-/
import Derived.Test.YtlpkilfpjdggeaaArith
import Derived.Test.YtlpkilfpjdggeaaDivNum
import Derived.Deep.CutBlock
import Derived.Deep.CutRange
import Derived.Deep.DeepCutAuto
import Derived.Deep.LoopGhost
namespace Go.Proofs.Ytlpkilfpjdggeaa
open Go.RowKit

set_option maxHeartbeats 400000 in
theorem div_small (lo y : Int) (h0 : 0 ≤ lo) (h1 : lo ≤ 18446744073709551615) (g0 : 0 < y) (g1 : y ≤ 18446744073709551615) (w : World) :
    Calls Try.prog 35 #[.int .u64 0, .int .u64 lo, .int .u64 y] w fun e w' => e = .returned (.tuple #[.int .u64 (lo / y), .int .u64 (lo % y)]) ∧ Below w.heap.size w w' := by
  have hy : (y == 0) = false := by rw [beq_eq_false_iff_ne]; omega
  have hz : ¬ y ≤ 0 := by omega
  go_enter Try.func35, Try.ntmps35
  go_wp2_with (fail)
  go_quiet (fail)
  go_wp2_with (fail)
  go_ret2
  exact ⟨rfl, below_drewN (Below.refl _ _) _⟩

set_option maxRecDepth 100000 in
set_option maxHeartbeats 4000000 in
theorem div_walk (hi lo y : Nat) (s : Nat) (Y V1 V0 U Z u1 u0 Q P R D1 A1 A2 A3 U1 Q2 P2 R2 D0 B1 B2 B3 R0 : Int) (N : Norm hi lo y s Y V1 V0 U Z u1 u0) (hh0 : 0 < hi) (hhy : hi < y) (hyb : y < 18446744073709551616) (w : World)
    (x1 : IntKind.u64.wrap (U.tdiv V1) = Q) (x2 : IntKind.u64.wrap (Q * V1) = P) (x3 : IntKind.u64.wrap (U - P) = R)
    (qa : 0 ≤ Q) (qb : Q ≤ 8589934592) (ra : 0 ≤ R) (rb : R ≤ 4294967295) (q3 : Hid (Digit U V1 V0 u1 Q R))
    (UV : Hid (U < V1 * 4294967296 + V0)) (hD1 : Hid ((U * 4294967296 + u1) / (V1 * 4294967296 + V0) = D1)) (da : 0 ≤ D1) (db : D1 ≤ 4294967295)
    (y1 : IntKind.u64.wrap (U * 4294967296) = A1) (y2 : IntKind.u64.wrap (A1 + u1) = A2) (y3 : IntKind.u64.wrap (D1 * Y) = A3) (y4 : IntKind.u64.wrap (A2 - A3) = U1) (U10 : 0 ≤ U1)
    (y5 : IntKind.u64.wrap (U1.tdiv V1) = Q2) (y6 : IntKind.u64.wrap (Q2 * V1) = P2) (y7 : IntKind.u64.wrap (U1 - P2) = R2)
    (ta : 0 ≤ Q2) (tb : Q2 ≤ 8589934592) (sa : 0 ≤ R2) (sb : R2 ≤ 4294967295) (t3 : Hid (Digit U1 V1 V0 u0 Q2 R2))
    (U1V : Hid (U1 < V1 * 4294967296 + V0)) (hD0 : Hid ((U1 * 4294967296 + u0) / (V1 * 4294967296 + V0) = D0)) (ea : 0 ≤ D0) (eb : D0 ≤ 4294967295)
    (z1 : IntKind.u64.wrap (U1 * 4294967296) = B1) (z2 : IntKind.u64.wrap (B1 + u0) = B2) (z3 : IntKind.u64.wrap (D0 * Y) = B3) (z4 : IntKind.u64.wrap (B2 - B3) = R0) :
    Calls Try.prog 35 #[.int .u64 hi, .int .u64 lo, .int .u64 y] w fun e w' => e = .returned (.tuple #[.int .u64 (D1 * 4294967296 + D0), .int .u64 (R0 / 2 ^ s)]) ∧ w = w' := by
  obtain ⟨hs, len, e1, e2, e3, e4, e5, e6, e7, hY, hYV, hZ, hN, U0, hU, v1, v2, v3, v4, u1a, u1b, u0a, u0b⟩ := N
  have hy : ((y : Int) == 0) = false := by rw [beq_eq_false_iff_ne]; omega
  have hv : (V1 == 0) = false := by rw [beq_eq_false_iff_ne]; omega
  have hh : ((hi : Int) == 0) = false := by rw [beq_eq_false_iff_ne]; omega
  have hz : ¬ (y : Int) ≤ hi := by omega
  have C := Try.bits_LeadingZeros64 y w (by omega) (by omega)
  rw [Int.toNat_natCast, len] at C
  have HC := Lib.hid C; clear C len
  clear hY hZ hN hYV hU hhy hyb hh0
  go_enter Try.func35, Try.ntmps35
  go_upto_block 0 with (go_at_call 41; refine HC.out.mono ?_; rintro e w' ⟨rfl, rfl⟩)
  clear e1 e2 e3 e4 e5 e6 e7 hy hh hz x1 x2 x3 HC
  go_cut [15, 16] (fun q r wc' => q = .int .u64 D1 ∧ (∃ x, r = .int .u64 x) ∧ wc' = w')
  case first =>
    clear y1 y2 y3 y4 y5 y6 y7 z1 z2 z3 z4
    go_wp2_with (fail)
    go_loop [15, 16] (fun sq sr => ∃ q r : Int, 0 ≤ q ∧ q ≤ 8589934592 ∧ 0 ≤ r ∧ r ≤ 4294967295 ∧ Hid (Digit U V1 V0 u1 q r) ∧ sq = .int .u64 q ∧ sr = .int .u64 r) (fun sq _ => (intOf sq).toNat)
    case atStart => exact ⟨_, _, qa, qb, ra, rb, q3, rfl, rfl⟩
    case round =>
      obtain ⟨q, r, ha, hb, hc, hd, hdig, rfl, rfl⟩ := hrel
      obtain ⟨p, hp⟩ : ∃ p, q * V0 = p := ⟨_, rfl⟩
      have hp0 : 0 ≤ p := by rw [← hp]; exact Int.mul_nonneg ha v3
      by_cases c1 : 4294967296 ≤ q
      · obtain ⟨hn, h1q⟩ := hdig.out.next UV.out U0 u1a u1b (by omega) v3 ha (.inl c1)
        have Hn := Lib.hid hn; clear hn hp hp0
        by_cases c3 : 4294967296 ≤ r + V1
        · have hD := Hn.out.leave UV.out u1a (by omega) v3 v4 c3
          rw [hD1.out] at hD
          have HD := Lib.hid hD; clear hD
          go_wp2_with (fail)
          go_meet
          case rel => exact ⟨by rw [HD.out], ⟨_, rfl⟩, rfl⟩
        · go_wp2_with (fail)
          go_round
          case rel => exact ⟨q - 1, r + V1, by omega, by omega, by omega, by omega, Hn, rfl, rfl⟩
          case measure => simp [intOf]; omega
      · have hp1 : p ≤ 18446744065119617025 := by
          have h1 := Int.mul_le_mul (show q ≤ 4294967295 by omega) v4 v3 (by omega)
          omega
        by_cases c2 : r * 4294967296 + u1 < p
        · obtain ⟨hn, h1q⟩ := hdig.out.next UV.out U0 u1a u1b (by omega) v3 ha (.inr (by rw [hp]; exact c2))
          have Hn := Lib.hid hn; clear hn
          have c2' : 4294967296 * r + u1 < p := by omega
          by_cases c3 : 4294967296 ≤ r + V1
          · have hD := Hn.out.leave UV.out u1a (by omega) v3 v4 c3
            rw [hD1.out] at hD
            have HD := Lib.hid hD; clear hD
            go_wp2_with (fail)
            go_meet
            case rel => exact ⟨by rw [HD.out], ⟨_, rfl⟩, rfl⟩
          · go_wp2_with (fail)
            go_round
            case rel => exact ⟨q - 1, r + V1, by omega, by omega, by omega, by omega, Hn, rfl, rfl⟩
            case measure => simp [intOf]; omega
        · have hD := hdig.out.done (by omega) v3 (by rw [hp]; omega)
          rw [hD1.out] at hD
          have HD := Lib.hid hD; clear hD
          have c2' : p ≤ 4294967296 * r + u1 := by omega
          go_wp2_with (fail)
          go_meet
          case rel => exact ⟨by rw [HD.out], ⟨_, rfl⟩, rfl⟩
  case rest =>
    obtain ⟨rfl, ⟨x, rfl⟩, rfl⟩ := hcut
    go_upto_block 2 with (fail)
    clear y1 y2 y3 y4 y5 y6 y7 hv
    go_cut [18, 16] (fun q r wc' => q = .int .u64 D0 ∧ (∃ x, r = .int .u64 x) ∧ wc' = wc)
    case first =>
      clear z1 z2 z3 z4
      go_wp2_with (fail)
      go_loop [18, 16] (fun sq sr => ∃ q r : Int, 0 ≤ q ∧ q ≤ 8589934592 ∧ 0 ≤ r ∧ r ≤ 4294967295 ∧ Hid (Digit U1 V1 V0 u0 q r) ∧ sq = .int .u64 q ∧ sr = .int .u64 r) (fun sq _ => (intOf sq).toNat)
      case atStart => exact ⟨_, _, ta, tb, sa, sb, t3, rfl, rfl⟩
      case round =>
        obtain ⟨q, r, ha, hb, hc, hd, hdig, rfl, rfl⟩ := hrel
        obtain ⟨p, hp⟩ : ∃ p, q * V0 = p := ⟨_, rfl⟩
        have hp0 : 0 ≤ p := by rw [← hp]; exact Int.mul_nonneg ha v3
        by_cases c1 : 4294967296 ≤ q
        · obtain ⟨hn, h1q⟩ := hdig.out.next U1V.out U10 u0a u0b (by omega) v3 ha (.inl c1)
          have Hn := Lib.hid hn; clear hn hp hp0
          by_cases c3 : 4294967296 ≤ r + V1
          · have hD := Hn.out.leave U1V.out u0a (by omega) v3 v4 c3
            rw [hD0.out] at hD
            have HD := Lib.hid hD; clear hD
            go_wp2_with (fail)
            go_meet
            case rel => exact ⟨by rw [HD.out], ⟨_, rfl⟩, rfl⟩
          · go_wp2_with (fail)
            go_round
            case rel => exact ⟨q - 1, r + V1, by omega, by omega, by omega, by omega, Hn, rfl, rfl⟩
            case measure => simp [intOf]; omega
        · have hp1 : p ≤ 18446744065119617025 := by
            have h1 := Int.mul_le_mul (show q ≤ 4294967295 by omega) v4 v3 (by omega)
            omega
          by_cases c2 : r * 4294967296 + u0 < p
          · obtain ⟨hn, h1q⟩ := hdig.out.next U1V.out U10 u0a u0b (by omega) v3 ha (.inr (by rw [hp]; exact c2))
            have Hn := Lib.hid hn; clear hn
            have c2' : 4294967296 * r + u0 < p := by omega
            by_cases c3 : 4294967296 ≤ r + V1
            · have hD := Hn.out.leave U1V.out u0a (by omega) v3 v4 c3
              rw [hD0.out] at hD
              have HD := Lib.hid hD; clear hD
              go_wp2_with (fail)
              go_meet
              case rel => exact ⟨by rw [HD.out], ⟨_, rfl⟩, rfl⟩
            · go_wp2_with (fail)
              go_round
              case rel => exact ⟨q - 1, r + V1, by omega, by omega, by omega, by omega, Hn, rfl, rfl⟩
              case measure => simp [intOf]; omega
          · have hD := hdig.out.done (by omega) v3 (by rw [hp]; omega)
            rw [hD0.out] at hD
            have HD := Lib.hid hD; clear hD
            have c2' : p ≤ 4294967296 * r + u0 := by omega
            go_wp2_with (fail)
            go_meet
            case rel => exact ⟨by rw [HD.out], ⟨_, rfl⟩, rfl⟩
    case rest =>
      obtain ⟨rfl, ⟨x, rfl⟩, rfl⟩ := hcut
      go_wp2_with (fail)
      go_ret2
      exact ⟨rfl, rfl⟩


theorem div_any (hi lo y : Int) (a0 : 0 ≤ hi) (a1 : hi < y) (b0 : 0 ≤ lo) (b1 : lo < 18446744073709551616) (c1 : y < 18446744073709551616) (w : World) :
    Calls Try.prog 35 #[.int .u64 hi, .int .u64 lo, .int .u64 y] w fun e w' => e = .returned (.tuple #[.int .u64 ((hi * 18446744073709551616 + lo) / y), .int .u64 ((hi * 18446744073709551616 + lo) % y)]) ∧ Below w.heap.size w w' := by
  by_cases hz : hi = 0
  · subst hz
    simpa using div_small lo y b0 (by omega) (by omega) (by omega) w
  obtain ⟨hi, rfl⟩ := Int.eq_ofNat_of_zero_le a0
  obtain ⟨lo, rfl⟩ := Int.eq_ofNat_of_zero_le b0
  obtain ⟨y, rfl⟩ := Int.eq_ofNat_of_zero_le (show 0 ≤ y by omega)
  obtain ⟨s, Y, V1, V0, U, Z, u1, u0, N⟩ := norm_of hi lo y (by omega) (by omega) (by omega)
  have hU : U < V1 * 4294967296 + V0 := by have := N.hYV; have := N.hU; omega
  have hU0 := N.hU0; have v1 := N.v1; have v2 := N.v2; have v3 := N.v3; have v4 := N.v4; have u1a := N.u1a; have u1b := N.u1b; have u0a := N.u0a; have u0b := N.u0b; have hYV := N.hYV
  have quot : ∀ U : Int, 0 ≤ U → U < V1 * 4294967296 + V0 → 0 ≤ U / V1 ∧ U / V1 ≤ 8589934592 ∧ 0 ≤ U - U / V1 * V1 ∧ U - U / V1 * V1 ≤ 4294967295 ∧ U / V1 * V1 ≤ U ∧ 0 ≤ U / V1 * V1 := by
    intro U k0 k1
    have a := Int.mul_ediv_add_emod U V1
    have b := Int.emod_nonneg U (b := V1) (by omega)
    have c := Int.emod_lt_of_pos U (show 0 < V1 by omega)
    have d : U / V1 ≤ 8589934592 := by
      have : U / V1 < 8589934593 := (Int.ediv_lt_iff_lt_mul (by omega)).2 (by omega)
      omega
    rw [Int.mul_comm] at a
    exact ⟨Int.ediv_nonneg k0 (by omega), d, by omega, by omega, by omega, Int.mul_nonneg (Int.ediv_nonneg k0 (by omega)) (by omega)⟩
  have g1 := digit_bounds hU hU0 u1a u1b
  obtain ⟨p1, p2, p3, p4, p5, p6⟩ := quot U hU0 hU
  have g3 := Digit.start (U := U) (V1 := V1) (V0 := V0) (u1 := u1) (by omega) v3 hU0 u1a u1b
  generalize hD1 : (U * 4294967296 + u1) / (V1 * 4294967296 + V0) = D1 at g1
  obtain ⟨i1, i2, i3, i4⟩ := g1
  rw [← hYV] at i3 i4
  generalize hU1 : U * 4294967296 + u1 - D1 * Y = U1 at i3 i4
  have hU1V : U1 < V1 * 4294967296 + V0 := by omega
  have g2 := digit_bounds hU1V i3 u0a u0b
  obtain ⟨r1, r2, r3, r4, r5, r6⟩ := quot U1 i3 hU1V
  have g4 := Digit.start (U := U1) (V1 := V1) (V0 := V0) (u1 := u0) (by omega) v3 i3 u0a u0b
  generalize hD0 : (U1 * 4294967296 + u0) / (V1 * 4294967296 + V0) = D0 at g2
  obtain ⟨j1, j2, j3, j4⟩ := g2
  rw [← hYV] at j3 j4
  generalize hR0 : U1 * 4294967296 + u0 - D0 * Y = R0 at j3 j4
  have hM : Y < 18446744073709551616 := by omega
  have W := IntKind.wrap_u64
  obtain ⟨f1, f2⟩ := digits_all (N := (hi : Int) * 18446744073709551616 + lo) (y := y) (P := 2 ^ s) (U := U) (Z := Z) (u1 := u1) (u0 := u0) (Y := Y) (D1 := D1) (R1 := U1) (D0 := D0) (R0 := R0) (by have := Nat.two_pow_pos s; rw [show ((2 : Int) ^ s) = ((2 ^ s : Nat) : Int) by simp]; omega) (by omega) N.hY N.hN N.hZ (by omega) (by omega) j3 j4
  rw [f1, f2]
  refine (div_walk hi lo y s Y V1 V0 U Z u1 u0 (U / V1) (U / V1 * V1) (U - U / V1 * V1) D1 _ _ _ U1 (U1 / V1) (U1 / V1 * V1) (U1 - U1 / V1 * V1) D0 _ _ _ R0 N (by omega) (by omega) (by omega) w
    ?_ ?_ ?_ p1 p2 p3 p4 g3 hU hD1 i1 i2 rfl rfl rfl ?_ i3 ?_ ?_ ?_ r1 r2 r3 r4 g4 hU1V hD0 j1 j2 rfl rfl rfl ?_).mono ?_
  · rw [IntWalk.u64_quo _ _ (by omega)]
  · exact IntWalk.u64_in _ (by omega)
  · exact IntWalk.u64_in _ (by omega)
  · rw [W, W, W, W]; omega
  · rw [IntWalk.u64_quo _ _ (by omega)]
  · exact IntWalk.u64_in _ (by omega)
  · exact IntWalk.u64_in _ (by omega)
  · rw [W, W, W, W]; omega
  · rintro e w' ⟨rfl, rfl⟩
    exact ⟨rfl, Below.refl _ _⟩

def mdN (a b c : Int) : Int := if a * b / 18446744073709551616 < c then a * b / c else 0
def mdR (a b c : Int) : Int := if a * b / 18446744073709551616 < c then a * b % c else 0
def mdB (a b c : Int) : Bool := decide (a * b / 18446744073709551616 < c)

set_option maxHeartbeats 400000 in
theorem muldiv_any (a b c : Int) (ha : U64 a) (hb : U64 b) (hc : U64 c) (w : World) :
    Calls Try.prog 23 #[.int .u64 a, .int .u64 b, .int .u64 c] w fun e w' => e = .returned (.tuple #[.int .u64 (mdN a b c), .int .u64 (mdR a b c), .bool (mdB a b c)]) ∧ Below w.heap.size w w' := by
  have M := mul64_any a b ha hb
  have hn := Int.mul_nonneg ha.1 hb.1
  unfold mdN mdR mdB
  have e1 : a * b = (a * b / 18446744073709551616) * 18446744073709551616 + a * b % 18446744073709551616 := by omega
  have e2 : 0 ≤ a * b / 18446744073709551616 := by omega
  have e3 : 0 ≤ a * b % 18446744073709551616 := by omega
  have e4 : a * b % 18446744073709551616 < 18446744073709551616 := by omega
  have hc2 := hc.2
  by_cases h : a * b / 18446744073709551616 < c
  · simp only [h, if_true, decide_true]
    have D := fun w => div_any (a * b / 18446744073709551616) (a * b % 18446744073709551616) c e2 h e3 e4 hc2 w
    rw [← e1] at D
    generalize a * b / 18446744073709551616 = x at M D h
    generalize a * b % 18446744073709551616 = z at M D
    generalize a * b / c = q at D ⊢
    generalize a * b % c = r at D ⊢
    have HM := Lib.hid M; clear M
    have HD := Lib.hid D; clear D
    have h' : ¬ c ≤ x := by omega
    clear e1 e2 e3 e4 hn ha hb hc h hc2
    go_enter Try.func23, Try.ntmps23
    go_wp2_with (first | (go_at_call 30; (with_reducible refine (HM.out _).mono ?_); rintro e w' ⟨rfl, rfl⟩) | (go_at_call 35; (with_reducible refine (HD.out _).mono ?_); rintro e w' ⟨rfl, hw⟩))
    go_ret3
    exact ⟨rfl, hw⟩
  · simp only [h, if_false, decide_false]
    generalize a * b / 18446744073709551616 = x at M h
    generalize a * b % 18446744073709551616 = z at M
    have HM := Lib.hid M; clear M
    have h' : c ≤ x := by omega
    clear e1 e2 e3 e4 hn ha hb hc h hc2
    go_enter Try.func23, Try.ntmps23
    go_wp2_with (go_at_call 30; (with_reducible refine (HM.out _).mono ?_); rintro e w' ⟨rfl, rfl⟩)
    go_ret3
    exact ⟨rfl, Below.refl _ _⟩

end Go.Proofs.Ytlpkilfpjdggeaa
