/-
  The pieces of a text between commas, in plain words.
-/
import Derived.Test.YtbipjilpogbicaaDoorLW4
namespace Go.Proofs.YtbipjilpogbicaaDoor
open Go.RowKit Go.Maps

def prun (s : ByteArray) : Nat → List ByteArray × Nat
  | 0 => ([], 0)
  | i + 1 => if i < s.size ∧ byteAt s i ≠ 44 then prun s i else ((prun s i).1 ++ [s.extract (prun s i).2 i], i + 1)
def pieces (s : ByteArray) : List ByteArray := (prun s (s.size + 1)).1
theorem prun_len (s : ByteArray) : ∀ i, (prun s i).1.length ≤ i
  | 0 => by simp [prun]
  | i + 1 => by
    have := prun_len s i
    rw [prun]
    split
    · omega
    · simp; omega
theorem prun_pre (s : ByteArray) (i : Nat) : ∀ j, i ≤ j → (prun s i).1 <+: (prun s j).1 := by
  intro j
  induction j with
  | zero => intro h; obtain rfl : i = 0 := by omega
            exact List.prefix_rfl
  | succ j ih =>
    intro h
    rcases Nat.lt_or_ge j i with q | q
    · obtain rfl : i = j + 1 := by omega
      exact List.prefix_rfl
    · rw [prun]
      split
      · exact ih q
      · exact (ih q).trans (List.prefix_append _ _)
theorem prun_on (s : ByteArray) (f : Nat) : ∀ k, (∀ j, f ≤ j → j < f + k → j < s.size ∧ byteAt s j ≠ 44) → prun s (f + k) = prun s f
  | 0, _ => rfl
  | k + 1, h => by
    rw [← Nat.add_assoc, prun, if_pos (h (f + k) (by omega) (by omega))]
    exact prun_on s f k (fun j h1 h2 => h j h1 (by omega))
/-- The numbers of a row of texts. -/
def numsL (most : Int) : List ByteArray → Option (List Int)
  | [] => some []
  | x :: r => match numOf x most with
    | none => none
    | some n => (numsL most r).map fun l => (n : Int) :: l
theorem numsL_snoc (most : Int) (x : ByteArray) : ∀ l : List ByteArray, numsL most (l ++ [x]) = match numsL most l with
    | none => none
    | some q => match numOf x most with
      | none => none
      | some n => some (q ++ [(n : Int)])
  | [] => by
    rw [List.nil_append, numsL, numsL]
    cases numOf x most <;> rfl
  | y :: l => by
    rw [List.cons_append, numsL, numsL, numsL_snoc most x l]
    cases numOf y most with
    | none => rfl
    | some m =>
      cases numsL most l with
      | none => rfl
      | some q =>
        cases numOf x most with
        | none => rfl
        | some n => rfl
theorem numsL_pre (most : Int) {a b : List ByteArray} (h : a <+: b) (ha : numsL most a = none) : numsL most b = none := by
  obtain ⟨t, rfl⟩ := h
  induction a with
  | nil => cases ha
  | cons x a ih =>
    rw [List.cons_append, numsL]
    rw [numsL] at ha
    cases hx : numOf x most with
    | none => rfl
    | some n =>
      rw [hx] at ha
      simp only [Option.map_eq_none_iff] at ha
      simp only []
      rw [ih ha]; rfl
theorem nsrun_is (s : ByteArray) (most : Int) : ∀ i, nsrun s most i = (numsL most (prun s i).1).map fun l => (l, (prun s i).2)
  | 0 => rfl
  | i + 1 => by
    rw [nsrun, nsrun_is s most i]
    by_cases h : i < s.size ∧ byteAt s i ≠ 44
    · rw [prun, if_pos h]
      cases numsL most (prun s i).1 with
      | none => rfl
      | some l => simp only [Option.map_some, if_pos h]
    · rw [prun, if_neg h, numsL_snoc]
      cases numsL most (prun s i).1 with
      | none => rfl
      | some l =>
        simp only [Option.map_some, if_neg h]
        cases numOf (s.extract (prun s i).2 i) most with
        | none => rfl
        | some n => rfl
theorem numsOf_is (s : ByteArray) (most : Int) : numsOf s most = numsL most (pieces s) := by
  unfold numsOf pieces
  rw [nsrun_is]
  cases numsL most (prun s (s.size + 1)).1 with
  | none => rfl
  | some l => rfl
theorem ex_ex (s : ByteArray) (f i k : Nat) (hk : f + k ≤ s.size) : (s.extract f s.size).extract i k = s.extract (f + i) (f + k) := by
  apply ByteArray.ext
  rw [ByteArray.data_extract, ByteArray.data_extract, ByteArray.data_extract, Array.extract_extract]
  congr 1
  have : s.data.size = s.size := rfl
  omega
theorem byteAt_ex (s : ByteArray) (f : Nat) {j : Nat} (hj : f + j < s.size) : byteAt (s.extract f s.size) j = byteAt s (f + j) := by
  have h1 : j < (s.extract f s.size).size := by rw [ByteArray.size_extract]; omega
  rw [(byteAt_in _ h1).2, (byteAt_in s hj).2]
  congr 1
  exact ByteArray.getElem_extract ..
/-- A comma further. -/
theorem piece_step (s : ByteArray) {f i : Nat} (hf : (prun s f).2 = f) (hle : f ≤ s.size) (h : FirstByte (s.extract f s.size) 44 i) :
    f + i + 1 ≤ s.size ∧ prun s (f + i + 1) = ((prun s f).1 ++ [(s.extract f s.size).extract 0 i], f + i + 1) ∧ (s.extract f s.size).extract (i + 1) (s.extract f s.size).size = s.extract (f + i + 1) s.size := by
  obtain ⟨h1, h2, h3⟩ := h
  have hsz : (s.extract f s.size).size = s.size - f := by rw [ByteArray.size_extract]; omega
  rw [hsz] at h1
  refine ⟨by omega, ?_, ?_⟩
  · rw [prun, if_neg, prun_on s f i, hf, ex_ex s f 0 i (by omega)]
    · rfl
    · intro j a b
      refine ⟨by omega, ?_⟩
      have := h3 (j - f) (by omega)
      rw [byteAt_ex s f (by omega)] at this
      rwa [show f + (j - f) = j by omega] at this
    · rintro ⟨a, b⟩
      rw [byteAt_ex s f (by omega)] at h2
      exact b h2
  · rw [hsz, ex_ex s f (i + 1) (s.size - f) (by omega)]
    congr 1
    omega
theorem piece_last (s : ByteArray) {f : Nat} (hf : (prun s f).2 = f) (hle : f ≤ s.size) (h : NoByte (s.extract f s.size) 44) : pieces s = (prun s f).1 ++ [s.extract f s.size] := by
  have hsz : (s.extract f s.size).size = s.size - f := by rw [ByteArray.size_extract]; omega
  have e : prun s s.size = prun s f := by
    have := prun_on s f (s.size - f) (fun j a b => ⟨by omega, ?_⟩)
    · rwa [show f + (s.size - f) = s.size by omega] at this
    · have := h (j - f) (by rw [hsz]; omega)
      rw [byteAt_ex s f (by omega)] at this
      rwa [show f + (j - f) = j by omega] at this
  unfold pieces
  rw [prun, if_neg (by omega), e, hf]
end Go.Proofs.YtbipjilpogbicaaDoor
