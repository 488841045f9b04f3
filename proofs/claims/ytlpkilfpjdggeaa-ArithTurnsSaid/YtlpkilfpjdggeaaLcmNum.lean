/-
  Plain numbers: the greatest divisor and the least multiple of a row. No program in this text.
-/
import Derived.Test.YtlpkilfpjdggeaaNum
namespace Go.Proofs.Ytlpkilfpjdggeaa

theorem gcd_row (L : List Int) : ∀ s : Int, 0 ≤ s → (∀ z ∈ L, 0 ≤ z) →
    0 ≤ (foldR gcdN (fun _ _ => true) s L).1 ∧ (foldR gcdN (fun _ _ => true) s L).1.toNat ∣ s.toNat ∧ (∀ z ∈ L, (foldR gcdN (fun _ _ => true) s L).1.toNat ∣ z.toNat) ∧
    ∀ d : Nat, d ∣ s.toNat → (∀ z ∈ L, d ∣ z.toNat) → d ∣ (foldR gcdN (fun _ _ => true) s L).1.toNat := by
  induction L with
  | nil => intro s hs _; exact ⟨hs, Nat.dvd_refl _, by simp, fun d h _ => h⟩
  | cons z r ih =>
    intro s hs hz
    rw [foldR_yes rfl]
    have h0 : 0 ≤ gcdN s z := by unfold gcdN; omega
    have e : (gcdN s z).toNat = Nat.gcd s.toNat z.toNat := by unfold gcdN; omega
    obtain ⟨a, b, c, d⟩ := ih (gcdN s z) h0 (fun x hx => hz x (List.mem_cons_of_mem _ hx))
    rw [e] at b d
    refine ⟨a, Nat.dvd_trans b (Nat.gcd_dvd_left _ _), ?_, ?_⟩
    · intro x hx
      rcases List.mem_cons.1 hx with h | h
      · rw [h]; exact Nat.dvd_trans b (Nat.gcd_dvd_right _ _)
      · exact c x h
    · intro k hk hall
      exact d k (Nat.dvd_gcd hk (hall z List.mem_cons_self)) (fun x hx => hall x (List.mem_cons_of_mem _ hx))

theorem lcm_step (x y : Nat) (hy : 0 < y) : lcmN x y = (if Nat.lcm x y < 18446744073709551616 then ((Nat.lcm x y : Nat) : Int) else 0) ∧ lcmB x y = decide (Nat.lcm x y < 18446744073709551616) := by
  have hy' : ¬ (y : Int) = 0 := by omega
  have e : (x : Int) / (Nat.gcd x y : Nat) * y = ((Nat.lcm x y : Nat) : Int) := by
    have : Nat.lcm x y = x / Nat.gcd x y * y := by
      unfold Nat.lcm; exact (Nat.div_mul_right_comm (Nat.gcd_dvd_left x y) y).symm
    rw [this]; simp
  unfold lcmN lcmB mulN mulB
  rw [if_neg hy', if_neg hy', Int.toNat_natCast, Int.toNat_natCast, e]
  constructor
  · split <;> split <;> omega
  · congr 1
    exact propext ⟨fun h => by omega, fun h => by omega⟩

/-- The fold over multiples: what it answers if it is one, and why it is none. -/
theorem lcm_row (L : List Int) : ∀ s : Int, 0 < s → (∀ z ∈ L, 0 ≤ z) →
    ((foldR lcmN lcmB s L).2 = true → 0 < (foldR lcmN lcmB s L).1 ∧ s.toNat ∣ (foldR lcmN lcmB s L).1.toNat ∧ (∀ z ∈ L, 0 < z ∧ z.toNat ∣ (foldR lcmN lcmB s L).1.toNat) ∧
      (L ≠ [] → (foldR lcmN lcmB s L).1 < 18446744073709551616) ∧ ∀ m : Nat, s.toNat ∣ m → (∀ z ∈ L, z.toNat ∣ m) → (foldR lcmN lcmB s L).1.toNat ∣ m) ∧
    ((foldR lcmN lcmB s L).2 = false → (foldR lcmN lcmB s L).1 = 0 ∧ ((∃ z ∈ L, z = 0) ∨ ∀ m : Nat, 0 < m → s.toNat ∣ m → (∀ z ∈ L, z.toNat ∣ m) → 18446744073709551616 ≤ m)) := by
  induction L with
  | nil =>
    intro s hs _
    rw [foldR_nil]
    exact ⟨fun _ => ⟨hs, Nat.dvd_refl _, by simp, fun h => absurd rfl h, fun m h _ => h⟩, fun h => by cases h⟩
  | cons z r ih =>
    intro s hs hz
    have hz0 := hz z List.mem_cons_self
    obtain ⟨x, rfl⟩ := Int.eq_ofNat_of_zero_le (Int.le_of_lt hs)
    obtain ⟨y, rfl⟩ := Int.eq_ofNat_of_zero_le hz0
    by_cases hy : y = 0
    · subst hy
      have hB : lcmB x ((0 : Nat) : Int) = false := by simp [lcmB]
      have hN : lcmN x ((0 : Nat) : Int) = 0 := by simp [lcmN]
      rw [foldR_no hB, hN]
      exact ⟨fun h => (by cases h), fun _ => ⟨rfl, .inl ⟨_, List.mem_cons_self, rfl⟩⟩⟩
    · obtain ⟨hN, hB⟩ := lcm_step x y (by omega)
      by_cases h : Nat.lcm x y < 18446744073709551616
      · have hB' : lcmB x y = true := by rw [hB]; exact decide_eq_true h
        rw [foldR_yes hB', hN, if_pos h]
        have hl : 0 < Nat.lcm x y := Nat.lcm_pos (by omega) (by omega)
        obtain ⟨i1, i2⟩ := ih ((Nat.lcm x y : Nat) : Int) (by omega) (fun x hx => hz x (List.mem_cons_of_mem _ hx))
        refine ⟨fun ht => ?_, fun hf => ?_⟩
        · obtain ⟨a, b, c, d, e⟩ := i1 ht
          rw [Int.toNat_natCast] at b e ⊢
          refine ⟨a, Nat.dvd_trans (Nat.dvd_lcm_left x y) b, ?_, fun _ => ?_, ?_⟩
          · intro u hu
            rcases List.mem_cons.1 hu with g | g
            · rw [g, Int.toNat_natCast]; exact ⟨by omega, Nat.dvd_trans (Nat.dvd_lcm_right x y) b⟩
            · exact c u g
          · cases r with
            | nil => rw [foldR_nil]; show ((Nat.lcm x y : Nat) : Int) < _; omega
            | cons _ _ => exact d (by simp)
          · intro m hm hall
            refine e m (Nat.lcm_dvd hm ?_) (fun u hu => hall u (List.mem_cons_of_mem _ hu))
            have := hall y List.mem_cons_self
            rwa [Int.toNat_natCast] at this
        · obtain ⟨a, b⟩ := i2 hf
          refine ⟨a, ?_⟩
          rcases b with ⟨u, hu, hu0⟩ | b
          · exact .inl ⟨u, List.mem_cons_of_mem _ hu, hu0⟩
          · right
            intro m hm hsm hall
            refine b m hm ?_ (fun u hu => hall u (List.mem_cons_of_mem _ hu))
            rw [Int.toNat_natCast] at hsm ⊢
            have := hall y List.mem_cons_self
            rw [Int.toNat_natCast] at this
            exact Nat.lcm_dvd hsm this
      · have hB' : lcmB x y = false := by rw [hB]; exact decide_eq_false h
        rw [foldR_no hB', hN, if_neg h]
        refine ⟨fun ht => (by cases ht), fun _ => ⟨rfl, .inr ?_⟩⟩
        intro m hm hsm hall
        rw [Int.toNat_natCast] at hsm
        have := hall y List.mem_cons_self
        rw [Int.toNat_natCast] at this
        have := Nat.le_of_dvd hm (Nat.lcm_dvd hsm this)
        omega

/-- Of two numbers below 2^31 and 1: divisor and multiple. -/
theorem pair_row (x y : Nat) (hx : 0 < x) (hy : 0 < y) (hx1 : x ≤ 2147483648) (hy1 : y ≤ 2147483648) :
    ∃ h t u k : Nat, foldR gcdN (fun _ _ => true) 0 [(x : Int), (y : Int)] = ((h : Int), true) ∧ foldR lcmN lcmB 1 [(x : Int), (y : Int)] = ((k : Int), true) ∧
      0 < h ∧ h ≤ x ∧ 0 < k ∧ k < 18446744073709551616 ∧ k / h = t ∧ h * t = k ∧ k / x = u ∧ u * h = y := by
  have hh : 0 < Nat.gcd x y := Nat.gcd_pos_of_pos_left y hx
  obtain ⟨a, ha⟩ := Nat.gcd_dvd_left x y
  obtain ⟨b, hb⟩ := Nat.gcd_dvd_right x y
  have hk : Nat.lcm x y = x * b := by
    unfold Nat.lcm
    generalize Nat.gcd x y = g at *
    rw [hb, Nat.mul_comm g b, ← Nat.mul_assoc]
    exact Nat.mul_div_cancel _ hh
  have hkpos : 0 < Nat.lcm x y := Nat.lcm_pos hx hy
  have hkle : Nat.lcm x y ≤ 2147483648 * 2147483648 := Nat.le_trans (Nat.le_of_dvd (Nat.mul_pos hx hy) (Nat.lcm_dvd (Nat.dvd_mul_right x y) (Nat.dvd_mul_left y x))) (Nat.mul_le_mul hx1 hy1)
  have e1 : foldR gcdN (fun _ _ => true) 0 [(x : Int), (y : Int)] = (((Nat.gcd x y : Nat) : Int), true) := by
    rw [foldR_yes rfl, foldR_yes rfl, foldR_nil]
    simp [gcdN]
  obtain ⟨s1, s2⟩ := lcm_step 1 x hx
  obtain ⟨s3, s4⟩ := lcm_step x y hy
  rw [Nat.lcm_one_left] at s1 s2
  rw [if_pos (by omega)] at s1 s3
  have e2 : foldR lcmN lcmB 1 [(x : Int), (y : Int)] = (((Nat.lcm x y : Nat) : Int), true) := by
    have q1 : lcmB 1 (x : Int) = true := by rw [show (1 : Int) = ((1 : Nat) : Int) from rfl, s2]; exact decide_eq_true (by omega)
    rw [foldR_yes q1, show (1 : Int) = ((1 : Nat) : Int) from rfl, s1]
    have q2 : lcmB (x : Int) (y : Int) = true := by rw [s4]; exact decide_eq_true (by omega)
    rw [foldR_yes q2, foldR_nil, s3]
  refine ⟨Nat.gcd x y, Nat.lcm x y / Nat.gcd x y, b, Nat.lcm x y, e1, e2, hh, Nat.gcd_le_left y hx, hkpos, by omega, rfl, ?_, ?_, ?_⟩
  · exact Nat.mul_div_cancel' (Nat.dvd_trans (Nat.gcd_dvd_left x y) (Nat.dvd_lcm_left x y))
  · rw [hk]; exact Nat.mul_div_cancel_left _ hx
  · rw [Nat.mul_comm]; exact hb.symm

end Go.Proofs.Ytlpkilfpjdggeaa
