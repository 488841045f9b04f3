/-
  A row of keys with numbers in heap order: plain numbers, no program in this text.
-/
namespace Go.Proofs.Ytbmmigaabhnnfaa

/-- One stands ahead of another: its number is less, or the same, and its key is less. -/
def lt2 (a b : Int × Int) : Bool := decide (a.2 < b.2) || (decide (a.2 = b.2) && decide (a.1 < b.1))
theorem lt2_iff {a b : Int × Int} : lt2 a b = true ↔ a.2 < b.2 ∨ (a.2 = b.2 ∧ a.1 < b.1) := by simp [lt2]
theorem lt2_no {a b : Int × Int} : lt2 a b = false ↔ b.2 < a.2 ∨ (a.2 = b.2 ∧ b.1 ≤ a.1) := by
  rw [← Bool.not_eq_true, lt2_iff]; omega

def par (i : Nat) : Nat := (i - 1) / 2
/-- Two places changed. -/
def sw (e : Nat → Int × Int) (i j : Nat) (k : Nat) : Int × Int := if k = i then e j else if k = j then e i else e k

/-- None stands ahead of the one before it. -/
def Ord (n : Nat) (e : Nat → Int × Int) : Prop := ∀ j, 0 < j → j < n → lt2 (e j) (e (par j)) = false
/-- .. but for the one at i. -/
def UpInv (n : Nat) (e : Nat → Int × Int) (i : Nat) : Prop :=
  (∀ j, 0 < j → j < n → j ≠ i → lt2 (e j) (e (par j)) = false) ∧ ∀ j, 0 < j → j < n → par j = i → 0 < i → lt2 (e j) (e (par i)) = false
/-- .. but for those behind the one at i. -/
def DownInv (n : Nat) (e : Nat → Int × Int) (i : Nat) : Prop :=
  (∀ j, 0 < j → j < n → par j ≠ i → lt2 (e j) (e (par j)) = false) ∧ ∀ j, 0 < j → j < n → par j = i → 0 < i → lt2 (e j) (e (par i)) = false
/-- .. but for both. -/
def MidInv (n : Nat) (e : Nat → Int × Int) (i : Nat) : Prop :=
  (∀ j, 0 < j → j < n → j ≠ i → par j ≠ i → lt2 (e j) (e (par j)) = false) ∧ ∀ j, 0 < j → j < n → par j = i → 0 < i → lt2 (e j) (e (par i)) = false

theorem par_lt {j : Nat} (h : 0 < j) : par j < j := by unfold par; omega

theorem up_stop {n : Nat} {e : Nat → Int × Int} {i : Nat} (h : UpInv n e i) (hs : i = 0 ∨ lt2 (e i) (e (par i)) = false) : Ord n e := by
  intro j h0 hj
  by_cases hji : j = i
  · subst hji
    rcases hs with hs | hs
    · omega
    · exact hs
  · exact h.1 j h0 hj hji

theorem up_step {n : Nat} {e : Nat → Int × Int} {i : Nat} (h : UpInv n e i) (h0 : 0 < i) (hi : i < n) (hs : lt2 (e i) (e (par i)) = true) : UpInv n (sw e i (par i)) (par i) := by
  have hp := par_lt h0
  have hs' := lt2_iff.1 hs
  constructor
  · intro j j0 hj hne
    by_cases hji : j = i
    · subst hji
      have e1 : sw e j (par j) j = e (par j) := by simp [sw]
      have e2 : sw e j (par j) (par j) = e j := by unfold sw; rw [if_neg (by omega), if_pos rfl]
      rw [e1, e2, lt2_no]; omega
    · have hpj := par_lt j0
      have e1 : sw e i (par i) j = e j := by simp [sw, hji, hne]
      rw [e1]
      by_cases q1 : par j = i
      · have e2 : sw e i (par i) (par j) = e (par i) := by simp [sw, q1]
        rw [e2]; exact h.2 j j0 hj q1 h0
      · by_cases q2 : par j = par i
        · have e2 : sw e i (par i) (par j) = e i := by unfold sw; rw [if_neg (by omega), if_pos q2]
          rw [e2]
          have := lt2_no.1 (h.1 j j0 hj hji)
          rw [q2] at this
          rw [lt2_no]; omega
        · have e2 : sw e i (par i) (par j) = e (par j) := by simp [sw, q1, q2]
          rw [e2]; exact h.1 j j0 hj hji
  · intro j j0 hj hpj hpp
    have hq := par_lt hpp
    have e2 : sw e i (par i) (par (par i)) = e (par (par i)) := by
      have : par (par i) ≠ i := by omega
      have : par (par i) ≠ par i := by omega
      simp [sw, *]
    rw [e2]
    have hb := lt2_no.1 (h.1 (par i) hpp (by omega) (by omega))
    by_cases hji : j = i
    · subst hji
      have e1 : sw e j (par j) j = e (par j) := by simp [sw]
      rw [e1, lt2_no]; omega
    · have hjp : j ≠ par i := by have := par_lt j0; omega
      have e1 : sw e i (par i) j = e j := by simp [sw, hji, hjp]
      rw [e1]
      have := lt2_no.1 (h.1 j j0 hj hji)
      rw [hpj] at this
      rw [lt2_no]; omega

theorem par_kid {j i : Nat} (j0 : 0 < j) : par j = i ↔ j = 2 * i + 1 ∨ j = 2 * i + 2 := by unfold par; omega

theorem down_stop {n : Nat} {e : Nat → Int × Int} {i : Nat} (h : DownInv n e i) (hs : ∀ j, 0 < j → j < n → par j = i → lt2 (e j) (e i) = false) : Ord n e := by
  intro j h0 hj
  by_cases hji : par j = i
  · have := hs j h0 hj hji
    rw [hji]; exact this
  · exact h.1 j h0 hj hji

theorem down_step {n : Nat} {e : Nat → Int × Int} {i c : Nat} (h : DownInv n e i) (hc0 : 0 < c) (hc : c < n) (hpc : par c = i) (hs : lt2 (e c) (e i) = true)
    (hm : ∀ j, 0 < j → j < n → par j = i → lt2 (e j) (e c) = false) : DownInv n (sw e i c) c := by
  have hs' := lt2_iff.1 hs
  have hic := par_lt hc0
  rw [hpc] at hic
  have ei : sw e i c i = e c := by simp [sw]
  have ec : sw e i c c = e i := by simp [sw]; intro h; omega
  have eo : ∀ k, k ≠ i → k ≠ c → sw e i c k = e k := fun k h1 h2 => by simp [sw, h1, h2]
  constructor
  · intro j j0 hj hne
    have hpj := par_lt j0
    by_cases q : par j = i
    · rw [q, ei]
      by_cases hjc : j = c
      · rw [hjc, ec, lt2_no]; omega
      · rw [eo j (by omega) hjc]; exact hm j j0 hj q
    · rw [eo (par j) q hne]
      by_cases hji : j = i
      · subst hji
        rw [ei]; exact h.2 c hc0 hc hpc j0
      · rw [eo j hji (by intro e; rw [e] at q; exact q hpc)]
        exact h.1 j j0 hj q
  · intro j j0 hj hpj _
    rw [hpc, ei]
    have := par_lt j0
    rw [eo j (by omega) (by omega)]
    have := h.1 j j0 hj (by omega)
    rw [hpj] at this; exact this

theorem mid_up {n : Nat} {e : Nat → Int × Int} {i : Nat} (h : MidInv n e i) (h0 : 0 < i) (hs : lt2 (e i) (e (par i)) = true) : UpInv n e i := by
  refine ⟨fun j j0 hj hne => ?_, h.2⟩
  by_cases q : par j = i
  · have h1 := lt2_no.1 (h.2 j j0 hj q h0)
    have h2 := lt2_iff.1 hs
    rw [q, lt2_no]; omega
  · exact h.1 j j0 hj hne q
theorem mid_down {n : Nat} {e : Nat → Int × Int} {i : Nat} (h : MidInv n e i) (hs : i = 0 ∨ lt2 (e i) (e (par i)) = false) : DownInv n e i := by
  refine ⟨fun j j0 hj hne => ?_, h.2⟩
  by_cases q : j = i
  · subst q
    rcases hs with hs | hs
    · omega
    · exact hs
  · exact h.1 j j0 hj q hne
theorem ord_down {n : Nat} {e : Nat → Int × Int} {i : Nat} (h : Ord n e) : DownInv n e i := by
  refine ⟨fun j j0 hj _ => h j j0 hj, fun j j0 hj hp hi => ?_⟩
  have h1 := lt2_no.1 (h j j0 hj)
  have hl := par_lt j0
  have h2 := lt2_no.1 (h i hi (by omega))
  rw [hp] at h1
  rw [lt2_no]; omega

/-- The first one stands ahead of all others. -/
theorem ord_first {n : Nat} {e : Nat → Int × Int} (h : Ord n e) : ∀ j, j < n → lt2 (e j) (e 0) = false := by
  intro j
  induction j using Nat.strongRecOn with
  | _ j ih =>
    intro hj
    by_cases h0 : 0 < j
    · have hp := par_lt h0
      have h1 := lt2_no.1 (ih (par j) hp (by omega))
      have h2 := lt2_no.1 (h j h0 hj)
      rw [lt2_no]; omega
    · obtain rfl : j = 0 := by omega
      rw [lt2_no]; omega

/-- Behind the last one put in: the row's order but for it. -/
theorem put_up {n : Nat} {e : Nat → Int × Int} (h : Ord n e) (x : Int × Int) : UpInv (n + 1) (fun k => if k = n then x else e k) n := by
  refine ⟨fun j j0 hj hne => ?_, fun j j0 hj hp hn => ?_⟩
  · have := par_lt j0
    simp only [if_neg hne, if_neg (show par j ≠ n by omega)]
    exact h j j0 (by omega)
  · have := par_lt j0
    omega
/-- A number lowered at i. -/
theorem low_up {n : Nat} {e : Nat → Int × Int} (h : Ord n e) {i : Nat} {x : Int × Int} (hx : lt2 (e i) x = false) : UpInv n (fun k => if k = i then x else e k) i := by
  have hd := ord_down (i := i) h
  refine ⟨fun j j0 hj hne => ?_, fun j j0 hj hp hn => ?_⟩
  · simp only [if_neg hne]
    by_cases q : par j = i
    · rw [if_pos q]
      have h1 := lt2_no.1 (h j j0 hj)
      rw [q] at h1
      have h2 := lt2_no.1 hx
      rw [lt2_no]; omega
    · rw [if_neg q]; exact h j j0 hj
  · have := par_lt hn
    have hl := par_lt j0
    simp only [if_neg (show j ≠ i by omega), if_neg (show par i ≠ i by omega)]
    exact hd.2 j j0 hj hp hn
/-- The last one put at the place of the one at i, which is gone. -/
theorem cut_mid {n : Nat} {e : Nat → Int × Int} (h : Ord (n + 1) e) {i : Nat} : MidInv n (sw e i n) i := by
  have hd := ord_down (i := i) h
  have eo : ∀ k, k ≠ i → k < n → sw e i n k = e k := fun k h1 h2 => by simp [sw, h1]; intro h; omega
  refine ⟨fun j j0 hj hne hp => ?_, fun j j0 hj hp hn => ?_⟩
  · have := par_lt j0
    rw [eo j hne hj, eo (par j) hp (by omega)]
    exact h j j0 (by omega)
  · have := par_lt hn
    have hl := par_lt j0
    rw [eo j (by omega) hj, eo (par i) (by omega) (by omega)]
    exact hd.2 j j0 (by omega) hp hn
theorem cut_ord {n : Nat} {e : Nat → Int × Int} (h : Ord (n + 1) e) : Ord n (sw e n n) := by
  intro j j0 hj
  have := par_lt j0
  have eo : ∀ k, k < n → sw e n n k = e k := fun k h => by unfold sw; rw [if_neg (by omega), if_neg (by omega)]
  rw [eo j hj, eo (par j) (by omega)]
  exact h j j0 (by omega)

/-- Each key once. -/
def Once (n : Nat) (e : Nat → Int × Int) : Prop := ∀ i j, i < n → j < n → (e i).1 = (e j).1 → i = j
/-- The same keys with the same numbers, in another order. -/
def Same (n : Nat) (e e' : Nat → Int × Int) : Prop := (∀ x, (∃ i, i < n ∧ e i = x) ↔ (∃ i, i < n ∧ e' i = x)) ∧ (Once n e → Once n e')
theorem Same.refl (n : Nat) (e : Nat → Int × Int) : Same n e e := ⟨fun _ => Iff.rfl, id⟩
theorem Same.trans {n : Nat} {a b c : Nat → Int × Int} (h : Same n a b) (k : Same n b c) : Same n a c := ⟨fun x => (h.1 x).trans (k.1 x), fun o => k.2 (h.2 o)⟩
theorem sw_at {e : Nat → Int × Int} {i j : Nat} (k : Nat) : sw e i j k = e (if k = i then j else if k = j then i else k) := by
  unfold sw; split
  · rfl
  · split <;> rfl
theorem sw_same {n : Nat} {e : Nat → Int × Int} {i j : Nat} (hi : i < n) (hj : j < n) : Same n e (sw e i j) := by
  have sl : ∀ k, k < n → (if k = i then j else if k = j then i else k) < n := by
    intro k hk
    split
    · exact hj
    · split
      · exact hi
      · exact hk
  refine ⟨fun x => ⟨?_, ?_⟩, fun o a b ha hb hab => ?_⟩
  · rintro ⟨k, hk, rfl⟩
    refine ⟨if k = i then j else if k = j then i else k, sl k hk, ?_⟩
    rw [sw_at]
    congr 1
    split <;> (try split) <;> (try split) <;> simp_all
  · rintro ⟨k, hk, rfl⟩
    exact ⟨_, sl k hk, (sw_at k).symm⟩
  · rw [sw_at, sw_at] at hab
    have := o _ _ (sl a ha) (sl b hb) hab
    by_cases a1 : a = i <;> by_cases a2 : a = j <;> by_cases b1 : b = i <;> by_cases b2 : b = j <;> simp only [a1, a2, b1, b2, if_true, if_false] at this <;> (try split at this) <;> omega

end Go.Proofs.Ytbmmigaabhnnfaa
