/-
  Words of texts that are put together, in plain words.
-/
import Derived.Test.YtbipjilpogbicaaDoorLNum
namespace Go.Proofs.YtbipjilpogbicaaDoor
open Go.RowKit Go.Maps

theorem byteAt_left (a c : ByteArray) {i : Nat} (h : i < a.size) : byteAt (a ++ c) i = byteAt a i := by
  have h2 : i < (a ++ c).size := by rw [ByteArray.size_append]; omega
  rw [(byteAt_in _ h2).2, (byteAt_in a h).2, ByteArray.getElem_append_left h]
theorem byteAt_right (a c : ByteArray) (i : Nat) : byteAt (a ++ c) (a.size + i) = byteAt c i := by
  rcases Nat.lt_or_ge i c.size with h | h
  · have h2 : a.size + i < (a ++ c).size := by rw [ByteArray.size_append]; omega
    rw [(byteAt_in _ h2).2, (byteAt_in c h).2, ByteArray.getElem_append_right (by omega)]
    simp only [Nat.add_sub_cancel_left]
  · rw [byteAt_end c h, byteAt_end (a ++ c) (by rw [ByteArray.size_append]; omega)]
theorem ba_nil {x : ByteArray} (h : x.size = 0) : x = ByteArray.empty := by
  apply ByteArray.ext
  have : x.data.size = 0 := h
  rw [Array.size_eq_zero_iff.1 this]; rfl
theorem ba_add_nil (x : ByteArray) : x ++ ByteArray.empty = x := by
  apply ByteArray.ext
  rw [ByteArray.data_append]
  show x.data ++ #[] = x.data
  simp
theorem ba_nil_add (x : ByteArray) : ByteArray.empty ++ x = x := by
  apply ByteArray.ext
  rw [ByteArray.data_append]
  show #[] ++ x.data = x.data
  simp
theorem ex_left (a c : ByteArray) {f k : Nat} (h : k ≤ a.size) : (a ++ c).extract f k = a.extract f k := by
  rw [ByteArray.extract_append, show k - a.size = 0 by omega, ba_nil (x := c.extract (f - a.size) 0) (by rw [ByteArray.size_extract]; omega), ba_add_nil]
theorem ex_right (a c : ByteArray) (f k : Nat) : (a ++ c).extract (a.size + f) (a.size + k) = c.extract f k := by
  rw [ByteArray.extract_append, ba_nil (x := a.extract (a.size + f) (a.size + k)) (by rw [ByteArray.size_extract]; omega), ba_nil_add, Nat.add_sub_cancel_left, Nat.add_sub_cancel_left]

/-- What the answer knows at a place depends on the bytes ahead alone. -/
theorem wrun_same (s t : ByteArray) : ∀ i, (∀ j, j < i → byteAt s j = byteAt t j) → (∀ f k, k < i → s.extract f k = t.extract f k) → wrun s i = wrun t i
  | 0, _, _ => rfl
  | i + 1, h, e => by
    rw [wrun, wrun, wrun_same s t i (fun j hj => h j (by omega)) (fun f k hk => e f k (by omega))]
    unfold wstep
    rw [h i (by omega), e _ i (by omega)]
/-- How many lines' ends stand ahead of a place. -/
def ends (s : ByteArray) : Nat → Nat
  | 0 => 0
  | i + 1 => ends s i + if byteAt s i = 10 then 1 else 0
theorem wrun_ln (s : ByteArray) : ∀ i, (wrun s i).ln = 1 + (ends s i : Nat)
  | 0 => rfl
  | i + 1 => by
    rw [wrun, ends]
    have ih := wrun_ln s i
    generalize wrun s i = q at ih ⊢
    unfold wstep
    simp only []
    split
    · simp only []
      split <;> omega
    · rename_i h
      have : ¬ byteAt s i = 10 := fun q => h (.inl q)
      rw [if_neg this]
      simp only []; omega
/-- Behind a line's end nothing is under way. -/
theorem wrun_nl (s : ByteArray) {i : Nat} (h : byteAt s i = 10) : (wrun s (i + 1)).fr = -1 ∧ (wrun s (i + 1)).off = false := by
  rw [wrun]; unfold wstep
  simp only []
  rw [if_pos (.inl h)]
  simp only []
  exact ⟨trivial, by rw [if_pos h]⟩
def shiftW (p : Nat) (k : Int) (x : WV) : WV := ⟨x.at_ + p, x.ln + k, x.tx⟩
/-- What the answer knows behind a first text that ends a line. -/
theorem wrun_on (s b : ByteArray) (p : Nat) (q : LS) (hq : wrun s p = q) (hf : q.fr = -1) (ho : q.off = false) (hb : ∀ j, byteAt s (p + j) = byteAt b j) (he : ∀ f k, s.extract (p + f) (p + k) = b.extract f k) : ∀ j, j ≤ b.size + 1 →
    wrun s (p + j) = ⟨q.out ++ (wrun b j).out.map (shiftW p (q.ln - 1)), q.ln - 1 + (wrun b j).ln, if (wrun b j).fr < 0 then -1 else (wrun b j).fr + p, (wrun b j).off⟩
  | 0, _ => by
    rw [Nat.add_zero, hq]
    obtain ⟨o, l, f, n⟩ := q
    simp only [] at hf ho
    subst hf ho
    simp [wrun]
  | j + 1, hj => by
    rw [← Nat.add_assoc, wrun, wrun_on s b p q hq hf ho hb he j (by omega), wrun]
    have iv := wrun_inv b j (by omega)
    generalize wrun b j = r at iv ⊢
    obtain ⟨o, l, f, n⟩ := r
    simp only [] at iv
    unfold wstep
    rw [hb j]
    simp only []
    by_cases h1 : byteAt b j = 10 ∨ (n || decide (byteAt b j = 35)) = true ∨ byteAt b j = 32 ∨ byteAt b j = 9
    · rw [if_pos h1, if_pos h1]
      simp only [LS.mk.injEq]
      refine ⟨?_, ?_, by rw [if_pos (by omega)], trivial⟩
      · by_cases hneg : f < 0
        · rw [if_pos hneg, if_pos hneg, if_pos (by omega)]
        · rw [if_neg hneg, if_neg hneg, if_neg (by omega), List.map_append, List.append_assoc]
          have e1 : (f + (p : Int)).toNat = p + f.toNat := by omega
          rw [e1, he]
          simp only [List.map_cons, List.map_nil, shiftW]
          congr 2
          congr 2
          omega
      · split <;> omega
    · rw [if_neg h1, if_neg h1]
      simp only [LS.mk.injEq, true_and, and_true]
      by_cases hneg : f < 0
      · rw [if_pos hneg, if_pos hneg, if_pos (by omega), if_neg (by omega)]
        omega
      · rw [if_neg hneg, if_neg hneg, if_neg (by omega), if_neg (by omega)]
def nl : ByteArray := ⟨#[10]⟩
/-- The words of two texts with a line's end between them. -/
theorem words_parts (a b : ByteArray) : wordsOf (a ++ nl ++ b) = wordsOf a ++ (wordsOf b).map (shiftW (a.size + 1) (ends a a.size + 1 : Nat)) := by
  have hn : nl.size = 1 := rfl
  have h1 : wrun (a ++ nl ++ b) (a.size + 1) = wrun a (a.size + 1) := by
    have hs : byteAt (a ++ nl ++ b) a.size = 10 := by
      rw [byteAt_left _ _ (by rw [ByteArray.size_append]; omega)]
      have := byteAt_right a nl 0
      rw [Nat.add_zero] at this
      rw [this]; rfl
    refine wrun_same _ _ _ (fun j hj => ?_) (fun f k hk => ?_)
    · rcases Nat.lt_or_ge j a.size with q | q
      · rw [byteAt_left _ _ (by rw [ByteArray.size_append]; omega), byteAt_left _ _ q]
      · rw [show j = a.size by omega, hs, byteAt_end a (Nat.le_refl _)]
    · rw [ex_left _ _ (by rw [ByteArray.size_append]; omega), ex_left _ _ (by omega)]
  have hz := wrun_nl a (byteAt_end a (Nat.le_refl _))
  have hp : (a ++ nl).size = a.size + 1 := by rw [ByteArray.size_append, hn]
  have hl := wrun_ln a (a.size + 1)
  rw [ends, byteAt_end a (Nat.le_refl _), if_pos rfl] at hl
  have := wrun_on (a ++ nl ++ b) b (a.size + 1) _ h1 hz.1 hz.2 (fun j => by rw [← hp]; exact byteAt_right _ _ j) (fun f k => by rw [← hp]; exact ex_right _ _ f k) (b.size + 1) (by omega)
  unfold wordsOf
  rw [ByteArray.size_append, hp, show a.size + 1 + b.size + 1 = a.size + 1 + (b.size + 1) by omega, this, hl]
  simp only []
  congr 3
  omega
end Go.Proofs.YtbipjilpogbicaaDoor
