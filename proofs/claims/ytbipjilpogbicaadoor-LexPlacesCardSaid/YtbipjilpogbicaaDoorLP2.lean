/-
  Words of texts with a note, in plain words.
-/
import Derived.Test.YtbipjilpogbicaaDoorLP1
namespace Go.Proofs.YtbipjilpogbicaaDoor
open Go.RowKit Go.Maps

/-- Behind a note's mark nothing counts up to the line's end. -/
theorem wrun_off (s : ByteArray) (p : Nat) (hf : (wrun s p).fr = -1) (ho : (wrun s p).off = true) : ∀ n, (∀ j, j < n → byteAt s (p + j) ≠ 10) → wrun s (p + n) = wrun s p
  | 0, _ => rfl
  | n + 1, h => by
    rw [← Nat.add_assoc, wrun, wrun_off s p hf ho n (fun j hj => h j (by omega))]
    have h10 := h n (by omega)
    generalize wrun s p = q at hf ho ⊢
    obtain ⟨o, l, f, b⟩ := q
    simp only [] at hf ho
    subst hf ho
    unfold wstep
    simp only [Bool.true_or]
    rw [if_pos (.inr (.inl trivial)), if_pos (by omega), if_neg h10, if_neg h10]
/-- The mark of a note. -/
theorem wrun_mark (s : ByteArray) {p : Nat} (h : byteAt s p = 35) : (wrun s (p + 1)).fr = -1 ∧ (wrun s (p + 1)).off = true := by
  rw [wrun]; unfold wstep
  simp only []
  have e : ((wrun s p).off || decide (byteAt s p = 35)) = true := by rw [h]; simp
  rw [if_pos (.inr (.inl e)), e]
  simp only []
  exact ⟨trivial, by rw [if_neg (by omega)]⟩
/-- At the text's end, where no word is under way, nothing is added. -/
theorem words_end (s : ByteArray) (h : (wrun s s.size).fr = -1) : wordsOf s = (wrun s s.size).out := by
  unfold wordsOf
  rw [wrun]; unfold wstep
  simp only []
  rw [if_pos (.inl (byteAt_end s (Nat.le_refl _))), h]
  simp
def mark : ByteArray := ⟨#[35]⟩
def gap : ByteArray := ⟨#[32, 9]⟩
/-- A note behind a text changes no word of it. -/
theorem words_note (x y : ByteArray) (hy : ∀ j, j < y.size → byteAt y j ≠ 10) : wordsOf (x ++ mark ++ y) = (wrun (x ++ mark) (x.size + 1)).out := by
  have hm : mark.size = 1 := rfl
  have hp : (x ++ mark).size = x.size + 1 := by rw [ByteArray.size_append, hm]
  have hz : (x ++ mark ++ y).size = x.size + 1 + y.size := by rw [ByteArray.size_append, hp]
  have h1 : wrun (x ++ mark ++ y) (x.size + 1) = wrun (x ++ mark) (x.size + 1) := by
    refine wrun_same _ _ _ (fun j hj => ?_) (fun f k hk => ?_)
    · rw [byteAt_left _ _ (by omega)]
    · rw [ex_left _ _ (by omega)]
  have hs : byteAt (x ++ mark) x.size = 35 := by
    have := byteAt_right x mark 0
    rw [Nat.add_zero] at this
    rw [this]; rfl
  obtain ⟨f1, f2⟩ := wrun_mark (x ++ mark) hs
  rw [← h1] at f1 f2 ⊢
  have := wrun_off (x ++ mark ++ y) (x.size + 1) f1 f2 y.size (fun j hj => by
    have e := byteAt_right (x ++ mark) y j
    rw [hp] at e
    rw [e]; exact hy j hj)
  rw [words_end, hz, this]
  rw [hz, this]; exact f1
theorem words_note_same (x y : ByteArray) (hy : ∀ j, j < y.size → byteAt y j ≠ 10) : wordsOf (x ++ mark ++ y) = wordsOf (x ++ mark) := by
  rw [words_note x y hy, ← words_note x ByteArray.empty (fun j hj => absurd hj (Nat.not_lt_zero _)), ba_add_nil]
/-- Blanks and a note behind a text change no word of it. -/
theorem words_gap (x y : ByteArray) (hy : ∀ j, j < y.size → byteAt y j ≠ 10) : wordsOf (x ++ gap ++ mark ++ y) = wordsOf x := by
  rw [words_note (x ++ gap) y hy]
  have hg : gap.size = 2 := rfl
  have hm : mark.size = 1 := rfl
  have h0 : wrun (x ++ gap ++ mark) x.size = wrun x x.size := by
    refine wrun_same _ _ _ (fun j hj => ?_) (fun f k hk => ?_)
    · rw [byteAt_left _ _ (by rw [ByteArray.size_append]; omega), byteAt_left _ _ (by omega)]
    · rw [ex_left _ _ (by rw [ByteArray.size_append]; omega), ex_left _ _ (by omega)]
  have hs : (x ++ gap).size = x.size + 2 := by rw [ByteArray.size_append, hg]
  have hex : ∀ f, (x ++ gap ++ mark).extract f x.size = x.extract f x.size := fun f => by
    rw [ex_left _ _ (by omega), ex_left _ _ (by omega)]
  have b0 : byteAt (x ++ gap ++ mark) x.size = 32 := by
    rw [byteAt_left _ _ (by omega)]
    have := byteAt_right x gap 0
    rw [Nat.add_zero] at this
    rw [this]; rfl
  have b1 : byteAt (x ++ gap ++ mark) (x.size + 1) = 9 := by
    rw [byteAt_left _ _ (by omega), byteAt_right x gap 1]; rfl
  have b2 : byteAt (x ++ gap ++ mark) (x.size + 1 + 1) = 35 := by
    have := byteAt_right (x ++ gap) mark 0
    rw [hs, Nat.add_zero] at this
    rw [this]; rfl
  have be := byteAt_end x (Nat.le_refl x.size)
  rw [hs]
  unfold wordsOf
  rw [show x.size + 2 + 1 = x.size + 1 + 1 + 1 by omega]
  simp only [wrun]
  rw [h0]
  generalize wrun x x.size = q
  obtain ⟨o, l, f, b⟩ := q
  unfold wstep
  rw [b0, b1, b2, be, hex]
  simp
/-- A text without a line's end. -/
theorem ends_none (s : ByteArray) : ∀ i, (∀ j, j < i → byteAt s j ≠ 10) → ends s i = 0
  | 0, _ => rfl
  | i + 1, h => by rw [ends, ends_none s i (fun j hj => h j (by omega)), if_neg (h i (by omega))]
end Go.Proofs.YtbipjilpogbicaaDoor
