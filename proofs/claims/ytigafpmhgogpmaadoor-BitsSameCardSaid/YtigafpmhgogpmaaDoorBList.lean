/-
  The numbers of a set, one by one, rising: plain numbers, no program in this text.
-/
import Derived.Test.YtigafpmhgogpmaaDoorBPop
namespace Go.Proofs.YtigafpmhgogpmaaDoor

/-- The bits of a word that are 1, rising. -/
def ones (v : Nat) : List Nat := (List.range 64).filter v.testBit
/-- The numbers below n of a set, rising. -/
def below (p : Nat → Bool) (n : Nat) : List Nat := (List.range n).filter p

theorem filter_first {q q' : Nat → Bool} {j : Nat} (hj : q j = true) (hlo : ∀ i, i < j → q i = false) (hq : ∀ i, q' i = (q i && decide (i ≠ j))) :
    ∀ n, j < n → (List.range n).filter q = j :: (List.range n).filter q'
  | 0, h => absurd h (Nat.not_lt_zero _)
  | n + 1, h => by
    rw [List.range_succ, List.filter_append, List.filter_append]
    by_cases e : j = n
    · subst e
      have h1 : (List.range j).filter q = [] := List.filter_eq_nil_iff.2 fun i hi => by rw [hlo i (List.mem_range.1 hi)]; simp
      have h2 : (List.range j).filter q' = [] := List.filter_eq_nil_iff.2 fun i hi => by rw [hq, hlo i (List.mem_range.1 hi)]; simp
      rw [h1, h2]; simp [hj, hq]
    · rw [filter_first hj hlo hq n (by omega)]
      simp only [List.cons_append, List.cons.injEq, true_and]
      congr 1
      simp only [List.filter_cons, List.filter_nil, hq n]
      simp [show n ≠ j by omega]

theorem ones_zero : ones 0 = [] := List.filter_eq_nil_iff.2 fun i _ => by simp

theorem ones_next {v : Nat} (h0 : v ≠ 0) (h : v < 18446744073709551616) :
    Lib.ctz 64 v < 64 ∧ ones v = Lib.ctz 64 v :: ones (v &&& (v - 1)) := by
  obtain ⟨m, hm, hk⟩ := Lib.ctzFrom_spec 64 v (by omega) h
  have hc : Lib.ctz 64 v = Lib.ctzFrom 64 v := by unfold Lib.ctz; rw [if_neg h0]
  rw [hc]
  generalize Lib.ctzFrom 64 v = j at hm hk
  have hp : 0 < 2 ^ j := Nat.two_pow_pos j
  have hb : ∀ i, v.testBit i = (decide (j ≤ i) && (2 * m + 1).testBit (i - j)) := fun i => by rw [hm, Nat.testBit_two_pow_mul]
  have hv1 : v - 1 = 2 ^ j * (2 * m) + (2 ^ j - 1) := by rw [hm, Nat.mul_add]; omega
  have hb1 : ∀ i, (v - 1).testBit i = if i < j then (2 ^ j - 1).testBit i else (2 * m).testBit (i - j) := fun i => by rw [hv1, Nat.testBit_two_pow_mul_add _ (by omega)]
  refine ⟨hk, filter_first (j := j) ?_ ?_ ?_ 64 hk⟩
  · rw [hb]; simp
  · intro i hi; rw [hb]; simp; omega
  · intro i
    rw [Nat.testBit_and, hb, hb1]
    rcases Nat.lt_trichotomy i j with g | g | g
    · simp [show ¬ j ≤ i by omega]
    · subst g; simp
    · obtain ⟨d, rfl⟩ : ∃ d, i = j + 1 + d := ⟨i - j - 1, by omega⟩
      have e : j + 1 + d - j = d + 1 := by omega
      rw [e, Nat.testBit_succ, Nat.testBit_succ, show (2 * m + 1) / 2 = m by omega, show 2 * m / 2 = m by omega]
      simp [show ¬ j + 1 + d < j by omega, show j + 1 + d ≠ j by omega]

theorem ones_wd (p : Nat → Bool) (k : Nat) : below p (64 * (k + 1)) = below p (64 * k) ++ (ones (wd p k)).map (64 * k + ·) := by
  unfold below ones
  rw [show 64 * (k + 1) = 64 * k + 64 by omega, List.range_add, List.filter_append]
  congr 1
  rw [List.filter_map]
  congr 1
  refine List.filter_congr fun j hj => ?_
  rw [wd_bit p k (List.mem_range.1 hj)]; rfl

theorem below_length (p : Nat → Bool) : ∀ n, (below p n).length = cntN p n
  | 0 => rfl
  | n + 1 => by
    have := below_length p n
    unfold below at this ⊢
    rw [List.range_succ, List.filter_append, List.length_append, this]
    simp only [cntN, List.filter_cons, List.filter_nil]
    split <;> rfl

theorem mem_below {p : Nat → Bool} {n x : Nat} : x ∈ below p n ↔ x < n ∧ p x = true := by unfold below; simp
theorem below_pairwise (p : Nat → Bool) (n : Nat) : (below p n).Pairwise (· < ·) := List.Pairwise.filter _ List.pairwise_lt_range

/-- A set's numbers. -/
def els (p : Nat → Bool) : List Int := (below p 256).map fun x : Nat => (x : Int)

end Go.Proofs.YtigafpmhgogpmaaDoor
