/-
  Where the words of a text stand, in plain words.
-/
import Derived.Test.YtbipjilpogbicaaDoorLP2
namespace Go.Proofs.YtbipjilpogbicaaDoor
open Go.RowKit Go.Maps

/-- A byte that no word has. -/
def Sep (c : Nat) : Prop := c = 10 ∨ c = 35 ∨ c = 32 ∨ c = 9
/-- A word that stands in a text, up to a place. -/
structure Stands (s : ByteArray) (i : Nat) (x : WV) : Prop where
  lo : 0 ≤ x.at_
  hi : x.at_.toNat + x.tx.size ≤ i
  is : x.tx = s.extract x.at_.toNat (x.at_.toNat + x.tx.size)
  some : 0 < x.tx.size
  ln : x.ln = 1 + (ends s x.at_.toNat : Nat)
  no : ∀ k, x.at_.toNat ≤ k → k < x.at_.toNat + x.tx.size → ¬ Sep (byteAt s k)
def WV.till (x : WV) : Nat := x.at_.toNat + x.tx.size
/-- Blanks and tabs alone. -/
def Blank (s : ByteArray) (f k : Nat) : Prop := ∀ j, f ≤ j → j < k → byteAt s j = 32 ∨ byteAt s j = 9
/-- What stands between a word and the next one. -/
structure Next (s : ByteArray) (x : WV) (p : Nat) (ln : Int) : Prop where
  le : x.till ≤ p
  lnle : x.ln ≤ ln
  same : x.ln = ln → x.till < p ∧ Blank s x.till p
theorem ends_mono (s : ByteArray) {i j : Nat} (h : i ≤ j) : ends s i ≤ ends s j := by
  induction j with
  | zero => have : i = 0 := by omega
            subst this; exact Nat.le_refl _
  | succ j ih =>
    rcases Nat.lt_or_ge j i with q | q
    · have : i = j + 1 := by omega
      subst this; exact Nat.le_refl _
    · rw [ends]; have := ih q; omega
theorem ends_same (s : ByteArray) (i : Nat) : ∀ k, (∀ j, i ≤ j → j < i + k → byteAt s j ≠ 10) → ends s (i + k) = ends s i
  | 0, _ => rfl
  | k + 1, h => by
    rw [← Nat.add_assoc, ends, ends_same s i k (fun j h1 h2 => h j h1 (by omega)), if_neg (h (i + k) (by omega) (by omega)), Nat.add_zero]
/-- What holds of the words at each place of the text. -/
structure Found (s : ByteArray) (i : Nat) (q : LS) : Prop where
  all : ∀ x ∈ q.out, Stands s i x
  row : ∀ (k : Nat) (x y : WV), q.out[k]? = some x → q.out[k + 1]? = some y → Next s x y.at_.toNat y.ln
  off : q.off = true → q.fr < 0
  run : 0 ≤ q.fr → q.fr < i ∧ (∀ j, q.fr.toNat ≤ j → j < i → ¬ Sep (byteAt s j)) ∧ ∀ x, q.out.getLast? = some x → Next s x q.fr.toNat q.ln
  rest : q.fr < 0 → ∀ x, q.out.getLast? = some x → x.till < i ∧ x.ln ≤ q.ln ∧ (x.ln = q.ln → q.off = false → Blank s x.till i)
theorem Stands.up {s : ByteArray} {i j : Nat} {x : WV} (h : Stands s i x) (hj : i ≤ j) : Stands s j x := ⟨h.lo, by have := h.hi; omega, h.is, h.some, h.ln, h.no⟩
theorem row_add {s : ByteArray} {l : List WV} {z : WV} (h : ∀ (k : Nat) (x y : WV), l[k]? = some x → l[k + 1]? = some y → Next s x y.at_.toNat y.ln) (hz : ∀ x, l.getLast? = some x → Next s x z.at_.toNat z.ln) :
    ∀ (k : Nat) (x y : WV), (l ++ [z])[k]? = some x → (l ++ [z])[k + 1]? = some y → Next s x y.at_.toNat y.ln := by
  intro k x y hx hy
  rcases Nat.lt_or_ge (k + 1) l.length with q | q
  · rw [List.getElem?_append_left (by omega)] at hx
    rw [List.getElem?_append_left q] at hy
    exact h k x y hx hy
  · have h2 : k + 1 = l.length := by
      have := (List.getElem?_eq_some_iff.1 hy).1
      simp at this; omega
    rw [List.getElem?_append_left (by omega)] at hx
    rw [h2, List.getElem?_append_right (Nat.le_refl _)] at hy
    simp at hy; subst hy
    refine hz x ?_
    rw [List.getLast?_eq_getElem?, show l.length - 1 = k by omega]; exact hx
theorem found (s : ByteArray) : ∀ i, i ≤ s.size + 1 → Found s i (wrun s i)
  | 0, _ => ⟨fun x h => by simp [wrun] at h, fun k x y h => by simp [wrun] at h, fun h => by simp [wrun] at h, fun h => by simp [wrun] at h, fun _ x h => by simp [wrun] at h⟩
  | i + 1, h => by
    have ih := found s i (by omega)
    have il := wrun_ln s i
    rw [wrun]
    generalize wrun s i = q at ih il ⊢
    obtain ⟨o, l, f, b⟩ := q
    obtain ⟨hall, hrow, hoff, hrun, hrest⟩ := ih
    simp only [] at hall hrow hoff hrun hrest il
    unfold wstep
    simp only []
    by_cases hc : byteAt s i = 10 ∨ (b || decide (byteAt s i = 35)) = true ∨ byteAt s i = 32 ∨ byteAt s i = 9
    · rw [if_pos hc]
      by_cases hf : f < 0
      · rw [if_pos hf]
        refine ⟨fun x hx => (hall x hx).up (by omega), hrow, fun _ => by simp only []; omega, fun z => by simp only [] at z; omega, fun _ x hx => ?_⟩
        obtain ⟨r1, r2, r3⟩ := hrest hf x hx
        simp only []
        by_cases h10 : byteAt s i = 10
        · rw [if_pos h10]
          exact ⟨by omega, by omega, fun z => by omega⟩
        · rw [if_neg h10, if_neg h10]
          refine ⟨by omega, r2, fun z zo => ?_⟩
          simp only [Bool.or_eq_false_iff, decide_eq_false_iff_not] at zo
          intro j hj1 hj2
          rcases Nat.lt_or_ge j i with q | q
          · exact r3 z zo.1 j hj1 q
          · have : j = i := by omega
            subst this
            rcases hc with g | g | g | g
            · exact absurd g h10
            · simp [zo] at g
            · exact .inl g
            · exact .inr g
      · rw [if_neg hf]
        obtain ⟨g1, g2, g3⟩ := hrun (by omega)
        obtain ⟨p, rfl⟩ : ∃ p : Nat, f = p := ⟨f.toNat, by omega⟩
        have hbf : b = false := by
          cases b with
          | false => rfl
          | true => have := hoff rfl; omega
        simp only [Int.toNat_natCast] at g2 g3 ⊢
        have hip : i ≤ s.size := by omega
        have hsz : (s.extract p i).size = i - p := by rw [ByteArray.size_extract]; omega
        have hend : ends s i = ends s p := by
          have := ends_same s p (i - p) (fun j h1 h2 q => g2 j h1 (by omega) (.inl q))
          rwa [show p + (i - p) = i by omega] at this
        have hnew : Stands s (i + 1) ⟨p, l, s.extract p i⟩ := by
          refine ⟨by simp, ?_, ?_, ?_, ?_, ?_⟩
          · simp only [Int.toNat_natCast, hsz]; omega
          · simp only [Int.toNat_natCast, hsz]; rw [show p + (i - p) = i by omega]
          · simp only [hsz]; omega
          · simp only [Int.toNat_natCast]; rw [il, hend]
          · simp only [Int.toNat_natCast, hsz]; exact fun k h1 h2 => g2 k h1 (by omega)
        have htill : WV.till ⟨p, l, s.extract p i⟩ = i := by
          unfold WV.till; simp only [Int.toNat_natCast, hsz]; omega
        refine ⟨fun x hx => ?_, row_add hrow (fun x hx => by simpa using g3 x hx), fun _ => by simp only []; omega, fun z => by simp only [] at z; omega, fun _ x hx => ?_⟩
        · rcases List.mem_append.1 hx with q | q
          · exact (hall x q).up (by omega)
          · simp at q; subst q; exact hnew
        · simp only [List.getLast?_append, List.getLast?_singleton, Option.some_or, Option.some.injEq] at hx
          subst hx
          simp only []
          rw [htill]
          by_cases h10 : byteAt s i = 10
          · rw [if_pos h10]
            exact ⟨by omega, by omega, fun z => by omega⟩
          · rw [if_neg h10, if_neg h10]
            refine ⟨by omega, Int.le_refl _, fun z zo => ?_⟩
            simp only [Bool.or_eq_false_iff, decide_eq_false_iff_not] at zo
            intro j hj1 hj2
            have : j = i := by omega
            subst this
            rcases hc with g | g | g | g
            · exact absurd g h10
            · simp [zo] at g
            · exact .inl g
            · exact .inr g
    · rw [if_neg hc]
      simp only [not_or, Bool.or_eq_true, decide_eq_true_eq] at hc
      obtain ⟨n1, ⟨n2, n3⟩, n4, n5⟩ := hc
      have hbf : b = false := by simpa using n2
      have hns : ¬ Sep (byteAt s i) := by
        rintro (g | g | g | g)
        · exact n1 g
        · exact n3 g
        · exact n4 g
        · exact n5 g
      by_cases hf : f < 0
      · rw [if_pos hf]
        refine ⟨fun x hx => (hall x hx).up (by omega), hrow, (fun z => by simp only [] at z; rw [hbf] at z; cases z), fun _ => ?_, fun z => by simp only [] at z; omega⟩
        simp only [Int.toNat_natCast]
        refine ⟨by omega, fun j h1 h2 => ?_, fun x hx => ?_⟩
        · have : j = i := by omega
          subst this; exact hns
        · obtain ⟨r1, r2, r3⟩ := hrest hf x hx
          exact ⟨by omega, r2, fun z => ⟨r1, r3 z hbf⟩⟩
      · rw [if_neg hf]
        obtain ⟨g1, g2, g3⟩ := hrun (by omega)
        refine ⟨fun x hx => (hall x hx).up (by omega), hrow, (fun z => by simp only [] at z; rw [hbf] at z; cases z), fun _ => ?_, fun z => by simp only [] at z; omega⟩
        simp only []
        refine ⟨by omega, fun j h1 h2 => ?_, g3⟩
        rcases Nat.lt_or_ge j i with q | q
        · exact g2 j h1 q
        · have : j = i := by omega
          subst this; exact hns
theorem Stands.in_ {s : ByteArray} {i : Nat} {x : WV} (h : Stands s i x) : x.till ≤ s.size := by
  have h1 := h.is
  have h2 := h.some
  have h3 : x.tx.size = min (x.at_.toNat + x.tx.size) s.size - x.at_.toNat := by
    have := congrArg ByteArray.size h1
    rwa [ByteArray.size_extract] at this
  unfold WV.till; omega
/-- Where the words of a text stand. -/
theorem words_found (s : ByteArray) : (∀ x ∈ wordsOf s, Stands s (s.size + 1) x) ∧ ∀ (k : Nat) (x y : WV), (wordsOf s)[k]? = some x → (wordsOf s)[k + 1]? = some y → Next s x y.at_.toNat y.ln :=
  ⟨(found s (s.size + 1) (Nat.le_refl _)).all, (found s (s.size + 1) (Nat.le_refl _)).row⟩
end Go.Proofs.YtbipjilpogbicaaDoor
