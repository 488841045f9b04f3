/-
  Lines of words, as they grow word by word.
-/
import Derived.Test.YtbipjilpogbicaaDoorLBr
namespace Go.Proofs.YtbipjilpogbicaaDoor
open Go.RowKit Go.Maps Go.Shelf

theorem lnAt_app (L t : List WV) {i : Nat} (h : i < L.length) : lnAt (L ++ t) i = lnAt L i := by unfold lnAt; rw [List.getElem?_append_left h]
theorem lrun_app (L t : List WV) : ∀ i, i ≤ L.length → lrun (L ++ t) i = lrun L i
  | 0, _ => rfl
  | i + 1, h => by
    rw [lrun, lrun, lrun_app L t i (by omega), List.getElem?_append_left (by omega), lnAt_app L t (show i < L.length by omega), lnAt_app L t (show i - 1 < L.length by omega)]
/-- The lines of the words that have come, and the last one's line. -/
def LG (L : List WV) : List (List WV) := lrun L L.length
def lineNo (L : List WV) : Int := (L.getLast?.map WV.ln).getD 0
theorem lg_step (L : List WV) (x : WV) (hx : 1 ≤ x.ln) {N : Bool} (hN : decide (¬ x.ln = lineNo L) = N) : ∃ G0 y, LG (L ++ [x]) = G0 ++ [y ++ [x]] ∧ if N = true then G0 = LG L ∧ y = [] else LG L = G0 ++ [y] := by
  have hg : (L ++ [x])[L.length]? = some x := by simp
  have hl : lnAt (L ++ [x]) L.length = x.ln := lnAt_of hg
  have hN2 : decide (L.length = 0 ∨ lnAt (L ++ [x]) L.length ≠ lnAt (L ++ [x]) (L.length - 1)) = N := by
    rw [← hN, hl]
    rcases List.eq_nil_or_concat L with rfl | ⟨L0, z, rfl⟩
    · have : ¬ x.ln = lineNo [] := by unfold lineNo; simp; omega
      simp [this]
    · rw [List.concat_eq_append] at hg ⊢
      have e : lnAt (L0 ++ [z] ++ [x]) ((L0 ++ [z]).length - 1) = z.ln := lnAt_of (by simp)
      have e2 : lineNo (L0 ++ [z]) = z.ln := by unfold lineNo; simp
      rw [e, e2]
      simp
  obtain ⟨G0, y, h1, h2⟩ := next_row (L ++ [x]) L.length x hg N hN2
  refine ⟨G0, y, ?_, ?_⟩
  · unfold LG; rw [List.length_append, List.length_singleton]; exact h1
  · have e : lrun (L ++ [x]) L.length = LG L := lrun_app L [x] L.length (Nat.le_refl _)
    cases N with
    | true => rw [if_pos rfl] at h2 ⊢; rw [← e]; exact h2
    | false => rw [if_neg (by simp)] at h2 ⊢; rw [← e]; exact h2.2.2
theorem lineNo_snoc (L : List WV) (x : WV) : lineNo (L ++ [x]) = x.ln := by unfold lineNo; simp

/-! ### rows of rows through others' steps -/
theorem Rows.keep {X Y : World} {B : Nat} {v : Value} {cs : List Value} {G : List (List WV)} {row : Option Nat} (h : Rows X B v cs G) (hg : X.grownBy Y row) (hr2 : ∀ r, row = some r → ∀ c T fr, X.heap[r]? = some (.cells c T fr) → T ≠ RTy ∧ T ≠ WT) : Rows Y B v cs G := by
  refine ⟨h.own.grown hg (fun k hk e => ?_), h.len, fun j x hx => ?_, h.apart⟩
  · obtain ⟨c, hc⟩ := h.own.blk hk
    exact (hr2 k e _ _ _ hc).1 rfl
  · obtain ⟨a, c, h1, h2⟩ := h.each j x hx
    refine ⟨a, c, h1, h2.grown hg (fun k hk e => ?_)⟩
    obtain ⟨c', hc⟩ := h2.blk hk
    exact (hr2 k e _ _ _ hc).2 rfl
theorem Rows.aside {X Y : World} {B : Nat} {v : Value} {cs : List Value} {G : List (List WV)} {row : Option Nat} (h : Rows X B v cs G) (hg : X.grownBy Y row) (hr : ∀ r, row = some r → ∃ o : Obj, X.heap[r]? = some o ∧ o.isCells = false) : Rows Y B v cs G :=
  h.keep hg (fun r e c T fr hc => by
    obtain ⟨o, ho, hn⟩ := hr r e
    rw [ho] at hc; cases hc; cases hn)
theorem Rows.box {X : World} {B b : Nat} {T : TypeId} {u u' : Value} {v : Value} {cs : List Value} {G : List (List WV)} (h : Rows X B v cs G) (hb : Boxed X b T u) (h1 : T ≠ RTy) (h2 : T ≠ WT) : Rows (X.setCell ⟨b, 0, none⟩ u') B v cs G :=
  h.keep (grownBy_setCell' X b u') (fun r e c T' fr hc => by cases e; rw [show X.heap[b]? = _ from hb] at hc; cases hc; exact ⟨h1, h2⟩)
theorem ownR_same {w : World} {B B' : Nat} {v : Value} {cs cs' : List Value} (h : OwnR w B v cs) (h' : OwnR w B' v cs') : cs = cs' := by
  obtain ⟨a, c, e, _, _, hj⟩ := h.slice
  obtain ⟨a', c', e', _, _, hj'⟩ := h'.slice
  rw [e] at e'
  simp only [Value.slice.injEq] at e'
  obtain ⟨rfl, hl, _⟩ := e'
  apply List.ext_getElem?
  intro j
  rcases Nat.lt_or_ge j cs.length with q | q
  · obtain ⟨g, e1, h1, _⟩ := hj j cs[j] (List.getElem?_eq_getElem q)
    obtain ⟨g', e2, h2, _⟩ := hj' j (cs'[j]'(by omega)) (List.getElem?_eq_getElem (by omega))
    rw [e1] at e2
    simp only [Option.some.injEq, Addr.mk.injEq] at e2
    obtain ⟨rfl, _⟩ := e2
    rw [h1] at h2
    rw [List.getElem?_eq_getElem q, List.getElem?_eq_getElem (show j < cs'.length by omega)]
    exact h2
  · rw [List.getElem?_eq_none q, List.getElem?_eq_none (by omega)]
end Go.Proofs.YtbipjilpogbicaaDoor
