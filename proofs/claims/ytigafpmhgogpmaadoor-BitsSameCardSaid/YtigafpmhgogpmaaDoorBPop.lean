/-
  How many bits of a word are 1, as the masks and shifts of the library's text reckon it: plain numbers, no program in this text.
-/
import Derived.Test.YtigafpmhgogpmaaDoorBNum
namespace Go.Proofs.YtigafpmhgogpmaaDoor

/-- How many of p's first n are true. -/
def cntN (p : Nat → Bool) : Nat → Nat
  | 0 => 0
  | n + 1 => cntN p n + if p n then 1 else 0
theorem cntN_le (p : Nat → Bool) : ∀ n, cntN p n ≤ n
  | 0 => Nat.le_refl _
  | n + 1 => by have := cntN_le p n; simp only [cntN]; split <;> omega
theorem cntN_congr {p q : Nat → Bool} : ∀ {n}, (∀ j, j < n → p j = q j) → cntN p n = cntN q n
  | 0, _ => rfl
  | n + 1, h => by simp only [cntN]; rw [cntN_congr (fun j hj => h j (by omega)), h n (by omega)]
theorem cntN_add (p : Nat → Bool) (m : Nat) : ∀ n, cntN p (m + n) = cntN p m + cntN (fun j => p (m + j)) n
  | 0 => rfl
  | n + 1 => by
    have := cntN_add p m n
    rw [← Nat.add_assoc]
    simp only [cntN]; omega

def M (d : Nat) : Nat → Nat
  | 0 => 0
  | n + 1 => 256 * M d n + d
theorem M_succ (d n : Nat) : M d (n + 1) = 256 * M d n + d := rfl
def sA (x n : Nat) : Nat := (x / 2 &&& M 0x55 n) + (x &&& M 0x55 n)
def sB (x n : Nat) : Nat := (x / 4 &&& M 0x33 n) + (x &&& M 0x33 n)
def sC (x n : Nat) : Nat := (x / 16 + x) &&& M 0x0f n
def pops (x : Nat) : Nat → Nat
  | 0 => 0
  | n + 1 => 256 * pops (x / 256) n + cntN x.testBit 8

theorem and_parts (a b c d : Nat) (hb : b < 256) (hd : d < 256) : (256 * a + b) &&& (256 * c + d) = 256 * (a &&& c) + (b &&& d) := by
  have h1 := Nat.and_div_two_pow (a := 256 * a + b) (b := 256 * c + d) (n := 8)
  have h2 := Nat.and_mod_two_pow (a := 256 * a + b) (b := 256 * c + d) (n := 8)
  have e1 : (256 * a + b) / 2 ^ 8 = a := by rw [show (2 : Nat) ^ 8 = 256 by decide]; omega
  have e2 : (256 * c + d) / 2 ^ 8 = c := by rw [show (2 : Nat) ^ 8 = 256 by decide]; omega
  have e3 : (256 * a + b) % 2 ^ 8 = b := by rw [show (2 : Nat) ^ 8 = 256 by decide]; omega
  have e4 : (256 * c + d) % 2 ^ 8 = d := by rw [show (2 : Nat) ^ 8 = 256 by decide]; omega
  rw [e1, e2] at h1
  rw [e3, e4] at h2
  rw [show (2 : Nat) ^ 8 = 256 by decide] at h1 h2
  generalize a &&& c = u at *
  generalize b &&& d = v at *
  generalize (256 * a + b) &&& (256 * c + d) = z at *
  omega

def bA (d : Nat) : Nat := (d / 2 &&& 0x55) + (d &&& 0x55)
def bB (d : Nat) : Nat := (d / 4 &&& 0x33) + (d &&& 0x33)
theorem bA_far : ∀ r, r < 2 → ∀ d, d < 256 → (128 * r + d / 2) &&& 0x55 = (d / 2 &&& 0x55) := by decide +kernel
theorem bB_far : ∀ r, r < 4 → ∀ d, d < 256 → (64 * r + d / 4) &&& 0x33 = (d / 4 &&& 0x33) := by decide +kernel
theorem bA_lt : ∀ d, d < 256 → bA d < 256 := by decide +kernel
theorem bB_lt : ∀ d, d < 256 → bB (bA d) < 256 ∧ bB (bA d) % 16 ≤ 4 := by decide +kernel
theorem bC_all : ∀ d, d < 256 → ∀ r, r < 5 → (16 * r + bB (bA d) / 16 + bB (bA d)) < 256 ∧ (16 * r + bB (bA d) / 16 + bB (bA d)) &&& 0x0f = cntN d.testBit 8 := by decide +kernel

theorem sA_step (y d n : Nat) (hd : d < 256) : sA (256 * y + d) (n + 1) = 256 * sA y n + bA d := by
  have e : (256 * y + d) / 2 = 256 * (y / 2) + (128 * (y % 2) + d / 2) := by omega
  have f := bA_far (y % 2) (by omega) d hd
  unfold sA bA
  rw [M_succ, e, and_parts _ _ _ _ (by omega) (by omega), and_parts _ _ _ _ hd (by omega), f]
  omega
theorem sB_step (y d n : Nat) (hd : d < 256) : sB (256 * y + d) (n + 1) = 256 * sB y n + bB d := by
  have e : (256 * y + d) / 4 = 256 * (y / 4) + (64 * (y % 4) + d / 4) := by omega
  have f := bB_far (y % 4) (by omega) d hd
  unfold sB bB
  rw [M_succ, e, and_parts _ _ _ _ (by omega) (by omega), and_parts _ _ _ _ hd (by omega), f]
  omega
theorem sC_step (y d n : Nat) (h : 16 * (y % 16) + d / 16 + d < 256) : sC (256 * y + d) (n + 1) = 256 * sC y n + ((16 * (y % 16) + d / 16 + d) &&& 0x0f) := by
  have e : (256 * y + d) / 16 + (256 * y + d) = 256 * (y / 16 + y) + (16 * (y % 16) + d / 16 + d) := by omega
  unfold sC
  rw [M_succ, e, and_parts _ _ _ _ h (by omega)]

theorem low_bits (x : Nat) : cntN x.testBit 8 = cntN (x % 256).testBit 8 :=
  cntN_congr fun j hj => by rw [show (256 : Nat) = 2 ^ 8 by decide, Nat.testBit_mod_two_pow]; simp [hj]

theorem steps : ∀ n x, sC (sB (sA x n) n) n = pops x n ∧ sB (sA x n) n % 16 ≤ 4
  | 0, x => by simp [sC, sB, M, pops]
  | n + 1, x => by
    obtain ⟨h1, h2⟩ := steps n (x / 256)
    have hx : x = 256 * (x / 256) + x % 256 := by omega
    have hd : x % 256 < 256 := Nat.mod_lt _ (by omega)
    have a := bA_lt _ hd
    obtain ⟨b1, b2⟩ := bB_lt _ hd
    obtain ⟨c1, c2⟩ := bC_all _ hd _ (show sB (sA (x / 256) n) n % 16 < 5 by omega)
    have eA : sA x (n + 1) = 256 * sA (x / 256) n + bA (x % 256) := by
      rw [← sA_step _ _ _ hd, ← hx]
    rw [eA, sB_step _ _ _ a, sC_step _ _ _ c1, h1, c2]
    refine ⟨?_, by omega⟩
    show _ = 256 * pops (x / 256) n + cntN x.testBit 8
    rw [low_bits x]

theorem high_bits (x n : Nat) : cntN x.testBit (8 + n) = cntN x.testBit 8 + cntN (x / 256).testBit n := by
  rw [cntN_add]
  congr 1
  exact cntN_congr fun j _ => by rw [show (256 : Nat) = 2 ^ 8 by decide, Nat.testBit_div_two_pow, Nat.add_comm]

theorem fold64 (x : Nat) : cntN x.testBit 64 < 128 ∧ ∃ b0 b1 b2 b3 b4 b5 b6 b7 : Nat, pops x 8 = b0 + 256 * (b1 + 256 * (b2 + 256 * (b3 + 256 * (b4 + 256 * (b5 + 256 * (b6 + 256 * b7)))))) ∧ b0 ≤ 8 ∧ b1 ≤ 8 ∧ b2 ≤ 8 ∧ b3 ≤ 8 ∧ b4 ≤ 8 ∧ b5 ≤ 8 ∧ b6 ≤ 8 ∧ b7 ≤ 8 ∧ cntN x.testBit 64 = b0 + b1 + b2 + b3 + b4 + b5 + b6 + b7 := by
  have l := fun y : Nat => cntN_le y.testBit 8
  refine ⟨by have := cntN_le x.testBit 64; omega, _, _, _, _, _, _, _, _, ?_, l x, l (x / 256), l (x / 256 / 256), l (x / 256 / 256 / 256), l (x / 256 / 256 / 256 / 256), l (x / 256 / 256 / 256 / 256 / 256), l (x / 256 / 256 / 256 / 256 / 256 / 256), l (x / 256 / 256 / 256 / 256 / 256 / 256 / 256), ?_⟩
  · simp only [pops]; omega
  · rw [high_bits x 56, high_bits _ 48, high_bits _ 40, high_bits _ 32, high_bits _ 24, high_bits _ 16, high_bits _ 8]; omega

theorem div_part {A B c : Nat} (h : A < c) : (A + c * B) / c = B := by
  rw [Nat.add_mul_div_left _ _ (by omega), Nat.div_eq_of_lt h, Nat.zero_add]

theorem lin1 (b0 b1 b2 b3 b4 b5 b6 b7 : Nat) : (b0 + 256 * (b1 + 256 * (b2 + 256 * (b3 + 256 * (b4 + 256 * (b5 + 256 * (b6 + 256 * b7))))))) + (b1 + 256 * (b2 + 256 * (b3 + 256 * (b4 + 256 * (b5 + 256 * (b6 + 256 * b7)))))) = ((b0 + b1) + 256 * (b1 + b2)) + 65536 * ((b2 + b3) + 256 * (b3 + b4) + 65536 * ((b4 + b5) + 256 * (b5 + b6) + 65536 * ((b6 + b7) + 256 * b7))) := by omega
theorem lin2 (b0 b1 b2 b3 b4 b5 b6 b7 : Nat) : ((b0 + b1) + 256 * (b1 + b2)) + 65536 * ((b2 + b3) + 256 * (b3 + b4) + 65536 * ((b4 + b5) + 256 * (b5 + b6) + 65536 * ((b6 + b7) + 256 * b7))) + ((b2 + b3) + 256 * (b3 + b4) + 65536 * ((b4 + b5) + 256 * (b5 + b6) + 65536 * ((b6 + b7) + 256 * b7))) = ((b0 + b1 + b2 + b3) + 256 * (b1 + b2 + b3 + b4) + 65536 * ((b2 + b3 + b4 + b5) + 256 * (b3 + b4 + b5 + b6))) + 4294967296 * ((b4 + b5 + b6 + b7) + 256 * (b5 + b6 + b7) + 65536 * ((b6 + b7) + 256 * b7)) := by omega
theorem lin3 (b0 b1 b2 b3 b4 b5 b6 b7 : Nat) : ((b0 + b1 + b2 + b3) + 256 * (b1 + b2 + b3 + b4) + 65536 * ((b2 + b3 + b4 + b5) + 256 * (b3 + b4 + b5 + b6))) + 4294967296 * ((b4 + b5 + b6 + b7) + 256 * (b5 + b6 + b7) + 65536 * ((b6 + b7) + 256 * b7)) + ((b4 + b5 + b6 + b7) + 256 * (b5 + b6 + b7) + 65536 * ((b6 + b7) + 256 * b7)) = (b0 + b1 + b2 + b3 + b4 + b5 + b6 + b7) + 128 * (2 * ((b1 + b2 + b3 + b4 + b5 + b6 + b7) + 256 * (b2 + b3 + b4 + b5 + b6 + b7) + 65536 * (b3 + b4 + b5 + b6 + b7) + 16777216 * ((b4 + b5 + b6 + b7) + 256 * (b5 + b6 + b7) + 65536 * ((b6 + b7) + 256 * b7)))) := by omega

/-- The last steps: the eight bytes are added up. -/
theorem sum_bytes (y b0 b1 b2 b3 b4 b5 b6 b7 : Nat) (e : y = b0 + 256 * (b1 + 256 * (b2 + 256 * (b3 + 256 * (b4 + 256 * (b5 + 256 * (b6 + 256 * b7)))))))
    (h0 : b0 ≤ 8) (h1 : b1 ≤ 8) (h2 : b2 ≤ 8) (h3 : b3 ≤ 8) (h4 : b4 ≤ 8) (h5 : b5 ≤ 8) (h6 : b6 ≤ 8) (h7 : b7 ≤ 8) :
    ∃ y1 y2 y3, y1 = y + y / 256 ∧ y2 = y1 + y1 / 65536 ∧ y3 = y2 + y2 / 4294967296 ∧ y < 18446744073709551616 ∧ y1 < 18446744073709551616 ∧ y2 < 18446744073709551616 ∧ y3 < 9223372036854775808 ∧ y3 % 128 = b0 + b1 + b2 + b3 + b4 + b5 + b6 + b7 := by
  have e1 : y / 256 = b1 + 256 * (b2 + 256 * (b3 + 256 * (b4 + 256 * (b5 + 256 * (b6 + 256 * b7))))) := by rw [e]; exact div_part (by omega)
  obtain ⟨y1, hy1⟩ : ∃ y1, y1 = y + y / 256 := ⟨_, rfl⟩
  have f1 : y1 = ((b0 + b1) + 256 * (b1 + b2)) + 65536 * ((b2 + b3) + 256 * (b3 + b4) + 65536 * ((b4 + b5) + 256 * (b5 + b6) + 65536 * ((b6 + b7) + 256 * b7))) := by rw [hy1, e1, e]; exact lin1 ..
  have g1 : y1 / 65536 = (b2 + b3) + 256 * (b3 + b4) + 65536 * ((b4 + b5) + 256 * (b5 + b6) + 65536 * ((b6 + b7) + 256 * b7)) := by rw [f1]; exact div_part (by omega)
  obtain ⟨y2, hy2⟩ : ∃ y2, y2 = y1 + y1 / 65536 := ⟨_, rfl⟩
  have f2 : y2 = ((b0 + b1 + b2 + b3) + 256 * (b1 + b2 + b3 + b4) + 65536 * ((b2 + b3 + b4 + b5) + 256 * (b3 + b4 + b5 + b6))) + 4294967296 * ((b4 + b5 + b6 + b7) + 256 * (b5 + b6 + b7) + 65536 * ((b6 + b7) + 256 * b7)) := by rw [hy2, g1, f1]; exact lin2 ..
  have g2 : y2 / 4294967296 = (b4 + b5 + b6 + b7) + 256 * (b5 + b6 + b7) + 65536 * ((b6 + b7) + 256 * b7) := by rw [f2]; exact div_part (by omega)
  obtain ⟨y3, hy3⟩ : ∃ y3, y3 = y2 + y2 / 4294967296 := ⟨_, rfl⟩
  have f3 : y3 = (b0 + b1 + b2 + b3 + b4 + b5 + b6 + b7) + 128 * (2 * ((b1 + b2 + b3 + b4 + b5 + b6 + b7) + 256 * (b2 + b3 + b4 + b5 + b6 + b7) + 65536 * (b3 + b4 + b5 + b6 + b7) + 16777216 * ((b4 + b5 + b6 + b7) + 256 * (b5 + b6 + b7) + 65536 * ((b6 + b7) + 256 * b7)))) := by rw [hy3, g2, f2]; exact lin3 ..
  have k0 : y < 18446744073709551616 := by rw [e]; clear e e1 hy1 f1 g1 hy2 f2 g2 hy3 f3; omega
  have k1 : y1 < 18446744073709551616 := by rw [f1]; clear e e1 hy1 f1 g1 hy2 f2 g2 hy3 f3; omega
  have k2 : y2 < 18446744073709551616 := by rw [f2]; clear e e1 hy1 f1 g1 hy2 f2 g2 hy3 f3; omega
  have k3 : y3 < 9223372036854775808 := by rw [f3]; clear e e1 hy1 f1 g1 hy2 f2 g2 hy3 f3; omega
  have km : y3 % 128 = b0 + b1 + b2 + b3 + b4 + b5 + b6 + b7 := by rw [f3, Nat.add_mul_mod_self_left, Nat.mod_eq_of_lt (by clear e e1 hy1 f1 g1 hy2 f2 g2 hy3 f3 k0 k1 k2 k3; omega)]
  exact ⟨y1, y2, y3, hy1, hy2, hy3, k0, k1, k2, k3, km⟩

theorem M55 : M 0x55 8 = 6148914691236517205 := by decide +kernel
theorem M33 : M 0x33 8 = 3689348814741910323 := by decide +kernel
theorem M0f : M 0x0f 8 = 1085102592571150095 := by decide +kernel

/-- All the steps, with what they need to be: none of them passes 64 bits. -/
theorem pop_steps (x : Nat) : ∃ a b c d e f : Nat,
    (x / 2 &&& 6148914691236517205) + (x &&& 6148914691236517205) = a ∧ a < 18446744073709551616 ∧
    (a / 4 &&& 3689348814741910323) + (a &&& 3689348814741910323) = b ∧ b < 18446744073709551616 ∧ b / 16 + b < 18446744073709551616 ∧
    (b / 16 + b) &&& 1085102592571150095 = c ∧ c + c / 256 = d ∧ d + d / 65536 = e ∧ e + e / 4294967296 = f ∧
    c < 18446744073709551616 ∧ d < 18446744073709551616 ∧ e < 18446744073709551616 ∧ f < 9223372036854775808 ∧ f % 128 = cntN x.testBit 64 := by
  obtain ⟨h1, _⟩ := steps 8 x
  obtain ⟨_, b0, b1, b2, b3, b4, b5, b6, b7, hp, l0, l1, l2, l3, l4, l5, l6, l7, hs⟩ := fold64 x
  obtain ⟨y1, y2, y3, e1, e2, e3, k0, k1, k2, k3, hm⟩ := sum_bytes _ b0 b1 b2 b3 b4 b5 b6 b7 hp l0 l1 l2 l3 l4 l5 l6 l7
  have q1 : ∀ z : Nat, (z &&& 6148914691236517205) ≤ 6148914691236517205 := fun z => Nat.and_le_right
  have q2 : ∀ z : Nat, (z &&& 3689348814741910323) ≤ 3689348814741910323 := fun z => Nat.and_le_right
  have r1 := q1 (x / 2); have r2 := q1 x
  refine ⟨sA x 8, sB (sA x 8) 8, pops x 8, y1, y2, y3, by unfold sA; rw [M55], ?_, by unfold sB; rw [M33], ?_, ?_, by rw [← h1]; unfold sC; rw [M0f], e1.symm, e2.symm, e3.symm, k0, k1, k2, k3, by rw [hm, hs]⟩
  · unfold sA; rw [M55]; generalize x / 2 &&& 6148914691236517205 = u at *; generalize x &&& 6148914691236517205 = v at *; omega
  · have r3 := q2 (sA x 8 / 4); have r4 := q2 (sA x 8)
    unfold sB; rw [M33]; generalize sA x 8 / 4 &&& 3689348814741910323 = u at *; generalize sA x 8 &&& 3689348814741910323 = v at *; omega
  · have r3 := q2 (sA x 8 / 4); have r4 := q2 (sA x 8)
    unfold sB; rw [M33]; generalize sA x 8 / 4 &&& 3689348814741910323 = u at *; generalize sA x 8 &&& 3689348814741910323 = v at *; omega

end Go.Proofs.YtigafpmhgogpmaaDoor
