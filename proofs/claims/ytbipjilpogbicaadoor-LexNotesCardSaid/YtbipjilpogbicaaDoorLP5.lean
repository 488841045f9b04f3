/-
  The last line of a text, in plain words.
-/
import Derived.Test.YtbipjilpogbicaaDoorLP3
import Derived.Test.YtbipjilpogbicaaDoorLW8
namespace Go.Proofs.YtbipjilpogbicaaDoor
open Go.RowKit Go.Maps

def tb : ByteArray := ⟨#[98]⟩
theorem words_b : wordsOf tb = [⟨0, 1, tb⟩] := by kernel_rfl
/-- A text of one line has words of its first line alone. -/
theorem words_one (t : ByteArray) (h : ∀ j, j < t.size → byteAt t j ≠ 10) : ∀ x ∈ wordsOf t, x.ln = 1 := by
  intro x hx
  have q := (words_found t).1 x hx
  have hi := q.in_
  unfold WV.till at hi
  rw [q.ln, ends_none t _ (fun j hj => h j (by have := q.some; omega))]
  rfl
theorem last_line (t : ByteArray) (h : ∀ j, j < t.size → byteAt t j ≠ 10) : ∃ G, linesOf (t ++ nl ++ tb) = G ++ [[(⟨(t.size + 1 : Nat), 2, tb⟩ : WV)]] := by
  unfold linesOf
  rw [words_parts, words_b, ends_none t _ h]
  have h1 := words_one t h
  generalize wordsOf t = L at h1 ⊢
  have e : ([⟨0, 1, tb⟩] : List WV).map (shiftW (t.size + 1) ((0 + 1 : Nat) : Int)) = [⟨(t.size + 1 : Nat), 2, tb⟩] := by
    simp [shiftW]
  rw [e, List.length_append, List.length_singleton, lrun]
  have hx : (L ++ [(⟨(t.size + 1 : Nat), 2, tb⟩ : WV)])[L.length]? = some ⟨(t.size + 1 : Nat), 2, tb⟩ := by simp
  rw [if_pos, hx]
  · exact ⟨_, rfl⟩
  · rcases Nat.eq_zero_or_pos L.length with z | z
    · exact .inl z
    · right
      obtain ⟨x, hy⟩ := nth_of (rfl : L.length = L.length) (show L.length - 1 < L.length by omega)
      rw [lnAt_of hx, lnAt_of (x := x) (by rw [List.getElem?_append_left (by omega)]; exact hy), h1 x (List.mem_of_getElem? hy)]
      show (2 : Int) ≠ 1
      decide
end Go.Proofs.YtbipjilpogbicaaDoor
