/-
  Plain numbers: sums, divisors and multiples hang on no order. No program in this text.
-/
import Derived.Test.YtlpkilfpjdggeaaLcmNum
namespace Go.Proofs.Ytlpkilfpjdggeaa

theorem add_row (L : List Int) : ∀ s : Int, U64 s → (∀ z ∈ L, U64 z) → foldR addN addB s L = if s + L.sum < 18446744073709551616 then (s + L.sum, true) else (0, false) := by
  induction L with
  | nil => intro s hs _; rw [foldR_nil]; have := hs.2; simp; omega
  | cons z r ih =>
    intro s hs hz
    have hz0 := hz z List.mem_cons_self
    have hr : 0 ≤ r.sum := by
      have : ∀ l : List Int, (∀ x ∈ l, 0 ≤ x) → 0 ≤ l.sum := by
        intro l; induction l with
        | nil => intro _; simp
        | cons y t iht => intro h; rw [List.sum_cons]; have := h y List.mem_cons_self; have := iht (fun x hx => h x (List.mem_cons_of_mem _ hx)); omega
      exact this r (fun x hx => (hz x (List.mem_cons_of_mem _ hx)).1)
    rw [List.sum_cons]
    by_cases h : s + z < 18446744073709551616
    · have hB : addB s z = true := decide_eq_true h
      have hN : addN s z = s + z := if_pos h
      rw [foldR_yes hB, hN, ih (s + z) ⟨by have := hs.1; have := hz0.1; omega, h⟩ (fun x hx => hz x (List.mem_cons_of_mem _ hx)), Int.add_assoc]
    · have hB : addB s z = false := decide_eq_false h
      have hN : addN s z = 0 := if_neg h
      rw [foldR_no hB, hN, if_neg (by omega)]

theorem sum_turn (A B : List Int) : (B ++ A).sum = (A ++ B).sum := by
  rw [List.sum_append, List.sum_append, Int.add_comm]

theorem adds_turn {A B : List Int} (hA : ∀ z ∈ A ++ B, U64 z) : foldR addN addB 0 (B ++ A) = foldR addN addB 0 (A ++ B) := by
  rw [add_row _ 0 ⟨by omega, by omega⟩ hA, add_row _ 0 ⟨by omega, by omega⟩ (fun z h => hA z (by simp at h ⊢; exact h.symm)), sum_turn]

theorem nat_eq_of_int {a b : Int} (ha : 0 ≤ a) (hb : 0 ≤ b) (h1 : a.toNat ∣ b.toNat) (h2 : b.toNat ∣ a.toNat) : a = b := by
  have := Nat.dvd_antisymm h1 h2; omega

theorem gcds_same {L M : List Int} (hL : ∀ z ∈ L, 0 ≤ z) (h : ∀ z, z ∈ L ↔ z ∈ M) : (foldR gcdN (fun _ _ => true) 0 M).1 = (foldR gcdN (fun _ _ => true) 0 L).1 := by
  obtain ⟨a1, a2, a3, a4⟩ := gcd_row L 0 (by omega) hL
  obtain ⟨b1, b2, b3, b4⟩ := gcd_row M 0 (by omega) (fun z hz => hL z ((h z).2 hz))
  refine nat_eq_of_int b1 a1 ?_ ?_
  · exact a4 _ b2 (fun z hz => b3 z ((h z).1 hz))
  · exact b4 _ a2 (fun z hz => a3 z ((h z).2 hz))

theorem gcds_parts {A B : List Int} (hL : ∀ z ∈ A ++ B, 0 ≤ z) :
    (foldR gcdN (fun _ _ => true) 0 [(foldR gcdN (fun _ _ => true) 0 A).1, (foldR gcdN (fun _ _ => true) 0 B).1]).1 = (foldR gcdN (fun _ _ => true) 0 (A ++ B)).1 := by
  have hA : ∀ z ∈ A, 0 ≤ z := fun z h => hL z (by simp [h])
  have hB : ∀ z ∈ B, 0 ≤ z := fun z h => hL z (by simp [h])
  obtain ⟨a1, a2, a3, a4⟩ := gcd_row A 0 (by omega) hA
  obtain ⟨b1, b2, b3, b4⟩ := gcd_row B 0 (by omega) hB
  obtain ⟨c1, c2, c3, c4⟩ := gcd_row (A ++ B) 0 (by omega) hL
  generalize (foldR gcdN (fun _ _ => true) 0 A).1 = x at *
  generalize (foldR gcdN (fun _ _ => true) 0 B).1 = y at *
  obtain ⟨d1, d2, d3, d4⟩ := gcd_row [x, y] 0 (by omega) (by intro z hz; simp at hz; rcases hz with rfl | rfl <;> assumption)
  have hx := d3 x (by simp)
  have hy := d3 y (by simp)
  refine nat_eq_of_int d1 c1 ?_ ?_
  · refine c4 _ d2 (fun z hz => ?_)
    rcases List.mem_append.1 hz with h | h
    · exact Nat.dvd_trans hx (a3 z h)
    · exact Nat.dvd_trans hy (b3 z h)
  · refine d4 _ c2 (fun z hz => ?_)
    simp at hz
    rcases hz with rfl | rfl
    · exact a4 _ c2 (fun u hu => c3 u (by simp [hu]))
    · exact b4 _ c2 (fun u hu => c3 u (by simp [hu]))

theorem lcms_same {L M : List Int} (hL : ∀ z ∈ L, 0 ≤ z) (h : ∀ z, z ∈ L ↔ z ∈ M) (hne : L ≠ []) : foldR lcmN lcmB 1 M = foldR lcmN lcmB 1 L := by
  have hM : ∀ z ∈ M, 0 ≤ z := fun z hz => hL z ((h z).2 hz)
  have hneM : M ≠ [] := by
    cases L with
    | nil => exact absurd rfl hne
    | cons x t => intro e; have := (h x).1 List.mem_cons_self; rw [e] at this; cases this
  obtain ⟨a1, a2⟩ := lcm_row L 1 (by omega) hL
  obtain ⟨b1, b2⟩ := lcm_row M 1 (by omega) hM
  generalize foldR lcmN lcmB 1 L = x at *
  generalize foldR lcmN lcmB 1 M = y at *
  obtain ⟨x, p⟩ := x
  obtain ⟨y, q⟩ := y
  have no : ∀ {K : List Int} {n : Int}, 0 < n → n < 18446744073709551616 → (∀ z ∈ K, 0 < z ∧ z.toNat ∣ n.toNat) →
      ¬ ((∃ z ∈ K, z = 0) ∨ ∀ m : Nat, 0 < m → (1 : Int).toNat ∣ m → (∀ z ∈ K, z.toNat ∣ m) → 18446744073709551616 ≤ m) := by
    intro K n h0 h1 h2 h3
    rcases h3 with ⟨z, hz, e⟩ | h3
    · have := (h2 z hz).1; omega
    · have := h3 n.toNat (by omega) (Nat.one_dvd _) (fun z hz => (h2 z hz).2); omega
  cases p <;> cases q
  · have e1 := (a2 rfl).1; have e2 := (b2 rfl).1; simp only at e1 e2; rw [e1, e2]
  · obtain ⟨c1, _, c3, c4, _⟩ := b1 rfl
    exact absurd (a2 rfl).2 (no c1 (c4 hneM) (fun z hz => c3 z ((h z).1 hz)))
  · obtain ⟨c1, _, c3, c4, _⟩ := a1 rfl
    exact absurd (b2 rfl).2 (no c1 (c4 hne) (fun z hz => c3 z ((h z).2 hz)))
  · obtain ⟨c1, c2, c3, _, c5⟩ := a1 rfl
    obtain ⟨d1, d2, d3, _, d5⟩ := b1 rfl
    have e : y = x := nat_eq_of_int (Int.le_of_lt d1) (Int.le_of_lt c1) (d5 _ c2 (fun z hz => (c3 z ((h z).2 hz)).2)) (c5 _ d2 (fun z hz => (d3 z ((h z).1 hz)).2))
    rw [e]

end Go.Proofs.Ytlpkilfpjdggeaa
