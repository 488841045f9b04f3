/-
  The plain numbers under the division of two words by one: digits of 32 bits. No program in this text.
-/
import Derived.Test.YtlpkilfpjdggeaaNum
import Derived.Lib.BitFns
import Derived.Lib.ItoaNum
namespace Go.Proofs.Ytlpkilfpjdggeaa
open Go.RowKit

theorem digit_of {T Y q : Int} (hY : 0 < Y) (h1 : q * Y ≤ T) (h2 : T < (q + 1) * Y) : T / Y = q := by
  have a := (Int.le_ediv_iff_mul_le hY).2 h1
  have b := (Int.ediv_lt_iff_lt_mul hY).2 h2
  omega

theorem digit_gap (q r U V1 V0 u1 : Int) (h : q * V1 + r = U) : (U * 4294967296 + u1) - q * (V1 * 4294967296 + V0) = r * 4294967296 + u1 - q * V0 := by
  rw [Int.mul_add, ← Int.mul_assoc]; omega

/-- What holds at the head of each of both loops. -/
structure Digit (U V1 V0 u1 q r : Int) : Prop where
  sum : q * V1 + r = U
  hi : U * 4294967296 + u1 < (q + 1) * (V1 * 4294967296 + V0)

theorem Digit.start {U V1 V0 u1 : Int} (hV : 0 < V1) (hV0 : 0 ≤ V0) (hU : 0 ≤ U) (h1 : 0 ≤ u1) (h2 : u1 ≤ 4294967295) : Digit U V1 V0 u1 (U / V1) (U - U / V1 * V1) := by
  refine ⟨by omega, ?_⟩
  have a := Int.lt_ediv_add_one_mul_self U hV
  have b : 0 ≤ U / V1 := Int.ediv_nonneg hU (by omega)
  have c : 0 ≤ (U / V1 + 1) * V0 := Int.mul_nonneg (by omega) hV0
  rw [Int.mul_add, ← Int.mul_assoc]
  omega

/-- The digit is too great: the next one is looked at. -/
theorem Digit.next {U V1 V0 u1 q r : Int} (h : Digit U V1 V0 u1 q r) (hU : U < V1 * 4294967296 + V0) (hU0 : 0 ≤ U) (h1 : 0 ≤ u1) (h2 : u1 ≤ 4294967295) (_hV : 0 < V1) (_hV0 : 0 ≤ V0)
    (hq : 0 ≤ q) (hc : 4294967296 ≤ q ∨ r * 4294967296 + u1 < q * V0) : Digit U V1 V0 u1 (q - 1) (r + V1) ∧ 1 ≤ q := by
  have hT : U * 4294967296 + u1 < q * (V1 * 4294967296 + V0) := by
    rcases hc with hc | hc
    · have := Int.mul_le_mul_of_nonneg_right hc (show 0 ≤ V1 * 4294967296 + V0 by omega)
      omega
    · have := digit_gap q r U V1 V0 u1 h.sum
      omega
  refine ⟨⟨?_, ?_⟩, ?_⟩
  · rw [Int.sub_mul, Int.one_mul]; have := h.sum; omega
  · rw [Int.sub_add_cancel]; exact hT
  · rcases (show q < 1 ∨ 1 ≤ q by omega) with g | g
    · have : q = 0 := by omega
      subst this
      rw [Int.zero_mul] at hT; omega
    · exact g

/-- It is not too great: it is the digit. -/
theorem Digit.done {U V1 V0 u1 q r : Int} (h : Digit U V1 V0 u1 q r) (hV : 0 < V1) (hV0 : 0 ≤ V0) (hc : q * V0 ≤ r * 4294967296 + u1) :
    (U * 4294967296 + u1) / (V1 * 4294967296 + V0) = q := by
  have := digit_gap q r U V1 V0 u1 h.sum
  exact digit_of (by omega) (by omega) h.hi

/-- The rest is so great that the digit can't be too great. -/
theorem Digit.leave {U V1 V0 u1 q r : Int} (h : Digit U V1 V0 u1 q r) (hU : U < V1 * 4294967296 + V0) (h1 : 0 ≤ u1) (hV : 0 < V1) (hV0 : 0 ≤ V0) (hV0' : V0 ≤ 4294967295) (hr : 4294967296 ≤ r) :
    (U * 4294967296 + u1) / (V1 * 4294967296 + V0) = q := by
  refine h.done hV hV0 ?_
  have hs := h.sum
  have hq : q ≤ 4294967295 := by
    rcases (show q < 4294967296 ∨ 4294967296 ≤ q by omega) with g | g
    · omega
    · have := Int.mul_le_mul_of_nonneg_right g (show 0 ≤ V1 by omega)
      omega
  have := Int.mul_le_mul_of_nonneg_right hq hV0
  omega

theorem digit_bounds {U V1 V0 u1 : Int} (hU : U < V1 * 4294967296 + V0) (hU0 : 0 ≤ U) (h1 : 0 ≤ u1) (h2 : u1 ≤ 4294967295) :
    0 ≤ (U * 4294967296 + u1) / (V1 * 4294967296 + V0) ∧ (U * 4294967296 + u1) / (V1 * 4294967296 + V0) ≤ 4294967295 ∧
    0 ≤ (U * 4294967296 + u1) - (U * 4294967296 + u1) / (V1 * 4294967296 + V0) * (V1 * 4294967296 + V0) ∧
    (U * 4294967296 + u1) - (U * 4294967296 + u1) / (V1 * 4294967296 + V0) * (V1 * 4294967296 + V0) < V1 * 4294967296 + V0 := by
  have hY : 0 < V1 * 4294967296 + V0 := by omega
  generalize V1 * 4294967296 + V0 = Y at *
  have a := Int.mul_ediv_add_emod (U * 4294967296 + u1) Y
  have b := Int.emod_nonneg (U * 4294967296 + u1) (b := Y) (by omega)
  have c := Int.emod_lt_of_pos (U * 4294967296 + u1) hY
  rw [Int.mul_comm] at a
  refine ⟨Int.ediv_nonneg (by omega) (by omega), ?_, by omega, by omega⟩
  have : (U * 4294967296 + u1) / Y < 4294967296 := (Int.ediv_lt_iff_lt_mul hY).2 (by omega)
  omega

/-- Both digits together, and the rest, shifted back. -/
theorem digits_all {N y P U Z u1 u0 Y D1 R1 D0 R0 : Int} (hP : 0 < P) (hy : 0 < y) (hY : Y = y * P) (hN : N * P = U * 18446744073709551616 + Z) (hZ : Z = u1 * 4294967296 + u0)
    (e1 : U * 4294967296 + u1 = D1 * Y + R1) (e0 : R1 * 4294967296 + u0 = D0 * Y + R0) (hr0 : 0 ≤ R0) (hr1 : R0 < Y) :
    N / y = D1 * 4294967296 + D0 ∧ N % y = R0 / P := by
  have h : N * P = (D1 * 4294967296 + D0) * Y + R0 := by
    rw [Int.add_mul, Int.mul_right_comm]
    generalize D1 * Y = x at *
    generalize D0 * Y = z at *
    omega
  generalize hQ : D1 * 4294967296 + D0 = Q at h ⊢
  rw [hY, ← Int.mul_assoc] at h
  have hR : R0 = (N - Q * y) * P := by rw [Int.sub_mul]; omega
  have hd : R0 / P = N - Q * y := by rw [hR]; exact Int.mul_ediv_cancel _ (by omega)
  have k0 : 0 ≤ N - Q * y := by rw [← hd]; exact Int.ediv_nonneg hr0 (by omega)
  have k1 : N - Q * y < y := by
    rw [hR, hY] at hr1
    exact Int.lt_of_mul_lt_mul_right hr1 (by omega)
  have hq : N / y = Q := digit_of hy (by omega) (by rw [Int.add_mul, Int.one_mul]; omega)
  refine ⟨hq, ?_⟩
  rw [hd, Int.emod_def, hq, Int.mul_comm]

theorem bitLen_two (x : Nat) : x ≠ 0 → x < 2 ^ 64 → 2 ^ Lib.bitLen x ≤ 2 * x ∧ x < 2 ^ Lib.bitLen x := by
  induction x using Nat.strongRecOn with
  | _ x ih =>
    intro h0 h
    rw [Lib.bitLen_half x h0 h]
    by_cases hx : x / 2 = 0
    · have : x = 1 := by omega
      subst this
      rw [hx]
      have : Lib.bitLen 0 = 0 := Lib.bitLenAux_zero 64
      rw [this]; omega
    · have := ih (x / 2) (by omega) hx (by omega)
      rw [Nat.pow_add]; omega

/-- What the division's text works with, when the divisor was shifted to its greatest. -/
structure Norm (hi lo y : Nat) (s : Nat) (Y V1 V0 U Z u1 u0 : Int) : Prop where
  hs : s ≤ 63
  len : 64 - (Lib.bitLen y : Int) = s
  e1 : IntKind.u64.wrap ((y : Int) * 2 ^ s) = Y
  e2 : Y / 4294967296 = V1
  e3 : bits .and .u64 Y 4294967295 = V0
  e4 : bits .or .u64 (IntKind.u64.wrap ((hi : Int) * 2 ^ s)) ((lo : Int) / 2 ^ (64 - s)) = U
  e5 : IntKind.u64.wrap ((lo : Int) * 2 ^ s) = Z
  e6 : Z / 4294967296 = u1
  e7 : bits .and .u64 Z 4294967295 = u0
  hY : Y = y * 2 ^ s
  hYV : Y = V1 * 4294967296 + V0
  hZ : Z = u1 * 4294967296 + u0
  hN : ((hi : Int) * 18446744073709551616 + lo) * 2 ^ s = U * 18446744073709551616 + Z
  hU0 : 0 ≤ U
  hU : U < Y
  v1 : 2147483648 ≤ V1
  v2 : V1 ≤ 4294967295
  v3 : 0 ≤ V0
  v4 : V0 ≤ 4294967295
  u1a : 0 ≤ u1
  u1b : u1 ≤ 4294967295
  u0a : 0 ≤ u0
  u0b : u0 ≤ 4294967295

theorem norm_of (hi lo y : Nat) (h : hi < y) (hy : y < 18446744073709551616) (hl : lo < 18446744073709551616) : ∃ s Y V1 V0 U Z u1 u0, Norm hi lo y s Y V1 V0 U Z u1 u0 := by
  have hb := bitLen_two y (by omega) (by omega)
  have hb64 : Lib.bitLen y ≤ 64 := Lib.bitLen_le y 64 (by omega) (by omega)
  have hb1 : 1 ≤ Lib.bitLen y := by
    rcases Nat.eq_zero_or_pos (Lib.bitLen y) with e | e
    · rw [e] at hb; omega
    · exact e
  obtain ⟨s, hs⟩ : ∃ s, Lib.bitLen y + s = 64 := ⟨64 - Lib.bitLen y, by omega⟩
  have hp : 2 ^ Lib.bitLen y * 2 ^ s = 18446744073709551616 := by rw [← Nat.pow_add, hs]
  have hps : 0 < 2 ^ s := Nat.two_pow_pos s
  have hpb : 2 ^ (64 - s) = 2 ^ Lib.bitLen y := by congr 1; omega
  have hY1 : y * 2 ^ s < 18446744073709551616 := by rw [← hp]; exact Nat.mul_lt_mul_of_pos_right hb.2 hps
  have hY2 : 18446744073709551616 ≤ 2 * (y * 2 ^ s) := by rw [← hp, ← Nat.mul_assoc]; exact Nat.mul_le_mul_right _ hb.1
  have hq : lo / 2 ^ Lib.bitLen y < 2 ^ s := by
    rw [Nat.div_lt_iff_lt_mul (Nat.two_pow_pos _), Nat.mul_comm, hp]; exact hl
  have hhi : hi * 2 ^ s + 2 ^ s ≤ y * 2 ^ s := by
    have : (hi + 1) * 2 ^ s ≤ y * 2 ^ s := Nat.mul_le_mul_right _ h
    rw [Nat.add_mul, Nat.one_mul] at this; exact this
  have hlo : lo * 2 ^ s / 18446744073709551616 = lo / 2 ^ Lib.bitLen y := by
    rw [← hp]; exact Nat.mul_div_mul_right _ _ hps
  have cast2 : ∀ k : Nat, ((2 : Int) ^ k) = ((2 ^ k : Nat) : Int) := fun k => by simp
  have hand : ∀ m : Nat, m < 18446744073709551616 → bits .and .u64 (m : Int) 4294967295 = ((m % 4294967296 : Nat) : Int) := by
    intro m hm
    have := bits_and_u64_nat m 4294967295 hm (by omega)
    rw [show m &&& 4294967295 = m % 4294967296 from Nat.and_two_pow_sub_one_eq_mod m 32] at this
    exact this
  have hor : bits .or .u64 ((hi * 2 ^ s : Nat) : Int) ((lo / 2 ^ Lib.bitLen y : Nat) : Int) = ((hi * 2 ^ s + lo / 2 ^ Lib.bitLen y : Nat) : Int) := by
    rw [bits_or_u64_nat _ _ (by omega) (by omega), nat_join s _ _ (Nat.mul_mod_left _ _) hq]
  refine ⟨s, ((y * 2 ^ s : Nat) : Int), ((y * 2 ^ s / 4294967296 : Nat) : Int), ((y * 2 ^ s % 4294967296 : Nat) : Int), ((hi * 2 ^ s + lo / 2 ^ Lib.bitLen y : Nat) : Int), ((lo * 2 ^ s % 18446744073709551616 : Nat) : Int),
    ((lo * 2 ^ s % 18446744073709551616 / 4294967296 : Nat) : Int), ((lo * 2 ^ s % 18446744073709551616 % 4294967296 : Nat) : Int), ?_⟩
  generalize hA : y * 2 ^ s = A at *
  generalize hB : hi * 2 ^ s = B at *
  generalize hC : lo * 2 ^ s = C at *
  generalize hD : lo / 2 ^ Lib.bitLen y = D at *
  have cA : (y : Int) * 2 ^ s = A := by rw [cast2, ← hA]; simp
  have cB : (hi : Int) * 2 ^ s = B := by rw [cast2, ← hB]; simp
  have cC : (lo : Int) * 2 ^ s = C := by rw [cast2, ← hC]; simp
  have cD : (lo : Int) / 2 ^ (64 - s) = D := by rw [cast2, hpb, ← hD]; simp
  generalize 2 ^ s = P at *
  generalize 2 ^ Lib.bitLen y = Q at *
  refine { hs := by omega, len := by omega, e1 := ?_, e2 := by omega, e3 := hand A (by omega), e4 := ?_, e5 := ?_, e6 := by omega, e7 := hand _ (by omega), hY := ?_, hYV := by omega, hZ := by omega, hN := ?_, hU0 := by omega, hU := by omega, v1 := by omega, v2 := by omega, v3 := by omega, v4 := by omega, u1a := by omega, u1b := by omega, u0a := by omega, u0b := by omega }
  · rw [cA]; exact IntWalk.u64_in _ (by omega)
  · rw [cB, cD, IntWalk.u64_in _ (by omega)]; exact hor
  · rw [cC, IntKind.wrap_u64]; omega
  · exact cA.symm
  · rw [Int.add_mul, Int.mul_right_comm, cB, cC]; omega

end Go.Proofs.Ytlpkilfpjdggeaa
