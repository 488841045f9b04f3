/-
  Words and numbers of a text, in plain words: what the document's answer is at each place.
-/
import Derived.Test.YtbipjilpogbicaaDoorLMem
namespace Go.Proofs.YtbipjilpogbicaaDoor
open Go.RowKit Go.Maps

/-- The byte at a place; at the text's end a line's end. -/
def byteAt (s : ByteArray) (i : Nat) : Nat := match s[i]? with
  | some c => c.toNat
  | none => 10
theorem byteAt_end (s : ByteArray) {i : Nat} (h : s.size ≤ i) : byteAt s i = 10 := by
  unfold byteAt
  rw [getElem?_neg s i (by omega)]
theorem byteAt_in (s : ByteArray) {i : Nat} (h : i < s.size) : s[i]? = some s[i] ∧ byteAt s i = s[i].toNat := by
  unfold byteAt
  rw [getElem?_pos s i h]
  exact ⟨rfl, rfl⟩
/-- How far the document's answer has come: the words, the line, where a word has begun (or -1), whether a note runs. -/
structure LS where
  out : List WV
  ln : Int
  fr : Int
  off : Bool
def wstep (s : ByteArray) (i : Nat) (q : LS) : LS :=
  let c := byteAt s i
  let off1 := q.off || decide (c = 35)
  if c = 10 ∨ off1 = true ∨ c = 32 ∨ c = 9 then
    ⟨if q.fr < 0 then q.out else q.out ++ [⟨q.fr, q.ln, s.extract q.fr.toNat i⟩], if c = 10 then q.ln + 1 else q.ln, -1, if c = 10 then false else off1⟩
  else ⟨q.out, q.ln, if q.fr < 0 then (i : Int) else q.fr, q.off⟩
def wrun (s : ByteArray) : Nat → LS
  | 0 => ⟨[], 1, -1, false⟩
  | i + 1 => wstep s i (wrun s i)
/-- The words of a text. -/
def wordsOf (s : ByteArray) : List WV := (wrun s (s.size + 1)).out
/-- What holds at each place. -/
theorem wrun_inv (s : ByteArray) : ∀ i, i ≤ s.size + 1 → (wrun s i).out.length ≤ i ∧ 1 ≤ (wrun s i).ln ∧ (wrun s i).ln ≤ (i : Int) + 1 ∧ -1 ≤ (wrun s i).fr ∧ (wrun s i).fr < i
  | 0, _ => by simp [wrun]
  | i + 1, h => by
    have ih := wrun_inv s i (by omega)
    rw [wrun]
    generalize wrun s i = q at ih ⊢
    obtain ⟨h1, h2, h3, h4, h5⟩ := ih
    unfold wstep
    simp only []
    split
    · refine ⟨?_, ?_, ?_, ?_, ?_⟩
      · split
        · simp only []; omega
        · simp only [List.length_append, List.length_singleton]; omega
      · simp only []; split <;> omega
      · simp only []; split <;> omega
      · simp only []; omega
      · simp only []; omega
    · refine ⟨?_, ?_, ?_, ?_, ?_⟩
      · simp only []; omega
      · simp only []; omega
      · simp only []; omega
      · simp only []; split <;> omega
      · simp only []; split <;> omega
end Go.Proofs.YtbipjilpogbicaaDoor
