/- Texts of this claim, put together: YTx4, YLine, YPrg, YLaw2, YLaw3, YLaw4, YLaw5, LTied, LTied5. -/
import Derived.Test.YtlpffgmfgkleiaaDoorRows
import Derived.Test.YtlpffgmfgkleiaaDoorMS1
import Derived.ProofKit
import Derived.LaidMore
import Derived.Lib.LaidTab
import Derived.Stop.Joined
import Derived.Lay
set_option linter.unusedVariables false
set_option linter.unusedSimpArgs false

/-
  Where a text is wrong; texts that go on, that are cut, and with blanks and notes put in.
-/
namespace Go.Proofs.YtlpffgmfgkleiaaDoor
open Go.RowKit Go.Maps

/-! ### places -/
theorem lrun_mem (L : List WV) : ∀ i, i ≤ L.length → ∀ g ∈ lrun L i, g ≠ [] ∧ ∀ x ∈ g, x ∈ L
  | 0, _, g, h => by simp [lrun] at h
  | i + 1, hi, g, h => by
    have ih := lrun_mem L i (by omega)
    obtain ⟨y, hy⟩ : ∃ y, L[i]? = some y := ⟨L[i], List.getElem?_eq_getElem (by omega)⟩
    have hm : y ∈ L := List.mem_of_getElem? hy
    rw [lrun, hy] at h
    split at h
    · rcases List.mem_append.1 h with h | h
      · exact ih g h
      · rw [List.mem_singleton] at h
        subst h
        exact ⟨by simp, fun x hx => by simp at hx; subst hx; exact hm⟩
    · rcases List.mem_append.1 h with h | h
      · exact ih g (List.dropLast_subset _ h)
      · rw [List.mem_singleton] at h
        subst h
        refine ⟨by simp, fun x hx => ?_⟩
        rcases List.mem_append.1 hx with hx | hx
        · cases q : (lrun L i).getLast? with
          | none => rw [q] at hx; simp at hx
          | some g' => rw [q] at hx; exact (ih g' (List.mem_of_getLast? q)).2 x hx
        · simp at hx; subst hx; exact hm
theorem lines_mem {s : ByteArray} {W : List WV} (h : W ∈ linesOf s) : W ≠ [] ∧ ∀ x ∈ W, 0 ≤ x.at_ ∧ x.at_ + (x.tx.size : Int) ≤ s.size := by
  obtain ⟨h1, h2⟩ := lrun_mem _ _ (Nat.le_refl _) W h
  refine ⟨h1, fun x hx => ?_⟩
  have q := (words_found s).1 x (h2 x hx)
  have := q.in_
  have := q.lo
  unfold WV.till at *
  omega
/-- All its places lie between two. -/
theorem place_in {W : List WV} {lo hi : Int} (h0 : W ≠ []) (h : ∀ x ∈ W, lo ≤ x.at_ ∧ x.at_ + (x.tx.size : Int) ≤ hi) (hl : 0 ≤ lo) (hh : hi ≤ 4611686018427387904) (i : Nat) : lo ≤ placeAt W i ∧ placeAt W i ≤ hi := by
  unfold placeAt
  cases q : W[i]? with
  | some x =>
    have := h x (List.mem_of_getElem? q)
    simp only []
    omega
  | none =>
    simp only []
    obtain ⟨k, hk⟩ : ∃ k, W.length = k + 1 := ⟨W.length - 1, by have := List.length_pos_iff.2 h0; omega⟩
    have hx : W[k]? = some (W[k]'(by omega)) := List.getElem?_eq_getElem (by omega)
    have := h _ (List.mem_of_getElem? hx)
    rw [hk, endAt_succ hx]
    unfold endOf
    rw [IntWalk.wrap64_in _ (by omega)]
    omega
theorem line_err {W : List WV} {p : Int} (h : lineOf W = .error p) : ∃ i, p = placeAt W i := by
  unfold lineOf at h
  split at h
  · cases h; exact ⟨_, rfl⟩
  split at h
  · cases h; exact ⟨_, rfl⟩
  split at h
  · cases h; exact ⟨_, rfl⟩
  split at h
  · cases h; exact ⟨_, rfl⟩
  split at h
  · cases h; exact ⟨_, rfl⟩
  split at h
  · cases h; exact ⟨_, rfl⟩
  split at h
  · cases h; exact ⟨_, rfl⟩
  · cases h
theorem cache_err {W : List WV} {p : Int} (h : cacheOf W = .error p) : ∃ i, p = placeAt W i := by
  unfold cacheOf at h
  split at h
  · cases h; exact ⟨_, rfl⟩
  split at h
  · cases h; exact ⟨_, rfl⟩
  split at h
  · cases h; exact ⟨_, rfl⟩
  split at h
  · cases h; exact ⟨_, rfl⟩
  · cases h
theorem tail_err {S R : Int} : ∀ (L : List (List WV)) (acc : List Tk) (p e : Int), tailOf S R acc L = .error (p, e) → e ≠ 0 ∧ ∃ W ∈ L, ∃ i, p = placeAt W i
  | [], _, _, _, h => by cases h
  | W :: L, acc, p, e, h => by
    rw [tailOf] at h
    cases q : lineOf W with
    | error x =>
      rw [q] at h; cases h
      obtain ⟨i, rfl⟩ := line_err q
      exact ⟨by decide, W, List.mem_cons_self .., i, rfl⟩
    | ok t =>
      rw [q] at h
      simp only [] at h
      by_cases b : checkT S R (acc ++ [t]) = 0
      · rw [if_pos b] at h
        obtain ⟨h1, V, h2, h3⟩ := tail_err L _ p e h
        exact ⟨h1, V, List.mem_cons_of_mem _ h2, h3⟩
      · rw [if_neg b] at h
        cases h
        exact ⟨b, W, List.mem_cons_self .., 0, rfl⟩
/-- What is wrong with a text lies within it. -/
theorem parse_err {s : ByteArray} {p e : Int} (hs : (s.size : Int) ≤ 4611686018427387904) (h : parseOf s = .error (p, e)) : e ≠ 0 ∧ 0 ≤ p ∧ p ≤ s.size := by
  have pin {W : List WV} (hW : W ∈ linesOf s) (i : Nat) : 0 ≤ placeAt W i ∧ placeAt W i ≤ s.size := place_in (lines_mem hW).1 (lines_mem hW).2 (by omega) hs i
  unfold parseOf at h
  cases q : linesOf s with
  | nil => rw [q] at h; cases h; exact ⟨by decide, by omega, by omega⟩
  | cons W L =>
    rw [q] at h pin
    simp only [] at h
    cases c : cacheOf W with
    | error x =>
      rw [c] at h; cases h
      obtain ⟨i, rfl⟩ := cache_err c
      exact ⟨by decide, pin (List.mem_cons_self ..) i⟩
    | ok x =>
      obtain ⟨S, R⟩ := x
      rw [c] at h
      simp only [] at h
      cases z : tailOf S R [] L with
      | error y =>
        rw [z] at h; cases h
        obtain ⟨h1, V, h2, i, rfl⟩ := tail_err L _ _ _ z
        exact ⟨h1, pin (List.mem_cons_of_mem _ h2) i⟩
      | ok l =>
        rw [z] at h
        cases l with
        | nil => cases h; exact ⟨by decide, by omega, by omega⟩
        | cons t l => cases h
theorem tail_oks {S R : Int} : ∀ (L : List (List WV)) (acc l : List Tk), tailOf S R acc L = .ok l → l.length = acc.length + L.length ∧ (L ≠ [] → checkT S R l = 0)
  | [], _, _, h => by cases h; exact ⟨rfl, fun q => absurd rfl q⟩
  | W :: L, acc, l, h => by
    rw [tailOf] at h
    cases q : lineOf W with
    | error x => rw [q] at h; cases h
    | ok t =>
      rw [q] at h
      simp only [] at h
      by_cases b : checkT S R (acc ++ [t]) = 0
      · rw [if_pos b] at h
        obtain ⟨h1, h2⟩ := tail_oks L _ l h
        refine ⟨by rw [h1]; simp; omega, fun _ => ?_⟩
        cases L with
        | nil => cases h; exact b
        | cons V L => exact h2 (by simp)
      · rw [if_neg b] at h; cases h
/-- What a text says, line after line. -/
theorem parse_parts {s : ByteArray} {S R : Nat} {l : List Tk} (h : parseOf s = .ok (S, R, l)) : ∃ W L, linesOf s = W :: L ∧ cacheOf W = .ok (S, R) ∧ tailOf S R [] L = .ok l ∧ l ≠ [] ∧ checkT S R l = 0 ∧ L.length = l.length := by
  unfold parseOf at h
  cases q : linesOf s with
  | nil => rw [q] at h; cases h
  | cons W L =>
    rw [q] at h
    simp only [] at h
    cases c : cacheOf W with
    | error x => rw [c] at h; cases h
    | ok x =>
      obtain ⟨S', R'⟩ := x
      rw [c] at h
      simp only [] at h
      cases z : tailOf S' R' [] L with
      | error y => rw [z] at h; cases h
      | ok m =>
        rw [z] at h
        cases m with
        | nil => cases h
        | cons t m =>
          cases h
          obtain ⟨h1, h2⟩ := tail_oks L _ _ z
          refine ⟨W, L, rfl, c, z, by simp, h2 (fun e => by rw [e] at h1; simp at h1), by rw [h1]; simp⟩

/-! ### a text that goes on -/
theorem lrun_two (L M : List WV) (h : ∀ x ∈ L, ∀ y ∈ M, x.ln ≠ y.ln) : ∀ j, j ≤ M.length → lrun (L ++ M) (L.length + j) = lrun L L.length ++ lrun M j
  | 0, _ => by rw [Nat.add_zero, lrun_same (L ++ M) L _ (fun j hj => List.getElem?_append_left hj), lrun, List.append_nil]
  | j + 1, hj => by
    have at_ : ∀ i, (L ++ M)[L.length + i]? = M[i]? := fun i => by rw [List.getElem?_append_right (by omega), Nat.add_sub_cancel_left]
    obtain ⟨y, hy⟩ : ∃ y, M[j]? = some y := ⟨M[j], List.getElem?_eq_getElem (by omega)⟩
    have ih := lrun_two L M h j (by omega)
    rw [← Nat.add_assoc, lrun, lrun, ih, at_ j, hy]
    by_cases j0 : j = 0
    · subst j0
      have c : L.length + 0 = 0 ∨ lnAt (L ++ M) (L.length + 0) ≠ lnAt (L ++ M) (L.length + 0 - 1) := by
        rcases List.eq_nil_or_concat L with rfl | ⟨L', x, rfl⟩
        · exact .inl rfl
        · rw [List.concat_eq_append] at h at_ ⊢
          refine .inr ?_
          rw [lnAt_of ((at_ 0).trans hy)]
          have hx : (L' ++ [x] ++ M)[(L' ++ [x]).length + 0 - 1]? = some x := by simp
          rw [lnAt_of hx]
          exact fun e => h x (by simp) y (List.mem_of_getElem? hy) e.symm
      rw [if_pos c, if_pos (.inl rfl), List.append_assoc]
    · have e1 : lnAt (L ++ M) (L.length + j) = lnAt M j := by unfold lnAt; rw [at_]
      have e2 : lnAt (L ++ M) (L.length + j - 1) = lnAt M (j - 1) := by unfold lnAt; rw [show L.length + j - 1 = L.length + (j - 1) by omega, at_]
      rw [e1, e2]
      by_cases c : lnAt M j ≠ lnAt M (j - 1)
      · rw [if_pos (.inr c), if_pos (.inr c), List.append_assoc]
      · rw [if_neg (by rintro (q | q); omega; exact c q), if_neg (by rintro (q | q); omega; exact c q)]
        have hne : lrun M j ≠ [] := fun e => by
          obtain ⟨i, rfl⟩ : ∃ i, j = i + 1 := ⟨j - 1, by omega⟩
          rw [lrun] at e
          split at e <;> simp at e
        have hg : (lrun L L.length ++ lrun M j).getLast? = (lrun M j).getLast? := by
          rw [List.getLast?_append]
          cases q : (lrun M j).getLast? with
          | none => exact absurd (List.getLast?_eq_none_iff.1 q) hne
          | some x => rfl
        rw [List.dropLast_append_of_ne_nil hne, hg, List.append_assoc]
theorem lrun_shift (L : List WV) (p : Nat) (k : Int) : ∀ i, i ≤ L.length → lrun (L.map (shiftW p k)) i = (lrun L i).map (·.map (shiftW p k))
  | 0, _ => rfl
  | i + 1, hi => by
    have at_ : ∀ j, (L.map (shiftW p k))[j]? = (L[j]?).map (shiftW p k) := fun j => List.getElem?_map
    obtain ⟨y, hy⟩ : ∃ y, L[i]? = some y := ⟨L[i], List.getElem?_eq_getElem (by omega)⟩
    rw [lrun, lrun, lrun_shift L p k i (by omega), at_, hy]
    have hc : (i = 0 ∨ lnAt (L.map (shiftW p k)) i ≠ lnAt (L.map (shiftW p k)) (i - 1)) ↔ (i = 0 ∨ lnAt L i ≠ lnAt L (i - 1)) := by
      by_cases i0 : i = 0
      · simp [i0]
      · obtain ⟨z, hz⟩ : ∃ z, L[i - 1]? = some z := ⟨L[i - 1], List.getElem?_eq_getElem (by omega)⟩
        rw [lnAt_of hy, lnAt_of hz, lnAt_of (x := shiftW p k y) (by rw [at_, hy]; rfl), lnAt_of (x := shiftW p k z) (by rw [at_, hz]; rfl)]
        unfold shiftW
        simp only []
        omega
    by_cases c : i = 0 ∨ lnAt L i ≠ lnAt L (i - 1)
    · rw [if_pos c, if_pos (hc.2 c), List.map_append]; rfl
    · rw [if_neg c, if_neg (fun q => c (hc.1 q)), List.map_append, List.map_dropLast, List.getLast?_map]
      congr 1
      cases (lrun L i).getLast? <;> simp
theorem lines_parts (a b : ByteArray) : linesOf (a ++ nl ++ b) = linesOf a ++ (linesOf b).map (·.map (shiftW (a.size + 1) (ends a a.size + 1 : Nat))) := by
  unfold linesOf
  rw [words_parts, List.length_append, List.length_map]
  rw [lrun_two _ _ (fun x hx y hy => ?_) _ (by rw [List.length_map]; exact Nat.le_refl _), lrun_shift _ _ _ _ (Nat.le_refl _)]
  obtain ⟨z, hz, rfl⟩ := List.mem_map.1 hy
  have q := (words_found a).1 x hx
  have q2 := (words_found b).1 z hz
  have h1 := q.ln
  have h2 := q2.ln
  have h3 := ends_mono a (i := x.at_.toNat) (j := a.size) (by have := q.in_; unfold WV.till at this; omega)
  unfold shiftW
  simp only []
  omega
theorem lines_nil : linesOf ByteArray.empty = [] := by kernel_rfl
theorem lines_end (a : ByteArray) : linesOf (a ++ nl) = linesOf a := by
  have := lines_parts a ByteArray.empty
  rw [lines_nil, List.map_nil, List.append_nil, ba_add_nil] at this
  exact this
theorem tail_on {S R : Int} : ∀ (L M : List (List WV)) (acc l : List Tk), tailOf S R acc L = .ok l → tailOf S R acc (L ++ M) = tailOf S R l M
  | [], M, acc, l, h => by cases h; rfl
  | W :: L, M, acc, l, h => by
    rw [List.cons_append, tailOf]
    rw [tailOf] at h
    cases q : lineOf W with
    | error x => rw [q] at h; cases h
    | ok t =>
      rw [q] at h
      simp only [] at h ⊢
      by_cases b : checkT S R (acc ++ [t]) = 0
      · rw [if_pos b] at h ⊢; exact tail_on L M _ l h
      · rw [if_neg b] at h; cases h
theorem shift_tx (W : List WV) (p : Nat) (k : Int) : (W.map (shiftW p k)).map WV.tx = W.map WV.tx := by rw [List.map_map]; rfl
/-- A line that is wrong behind a system's text: where, and whatever follows. -/
theorem parse_first {t bad : ByteArray} {S R : Nat} {l : List Tk} (h : parseOf (t ++ nl) = .ok (S, R, l)) {W : List WV} (hW : linesOf bad = [W]) (hb : ∀ x, lineOf W = .ok x → rightOf x.tv 256 ≠ 0) (hs : ((t ++ nl ++ bad).size : Int) ≤ 4611686018427387904) :
    ∃ p e, e ≠ 0 ∧ ((t ++ nl).size : Int) ≤ p ∧ p ≤ ((t ++ nl ++ bad).size : Int) ∧ parseOf (t ++ nl ++ bad) = .error (p, e) ∧ ∀ rest, parseOf (t ++ nl ++ bad ++ nl ++ rest) = .error (p, e) := by
  obtain ⟨W0, L, e1, e2, e3, e4, e5, _⟩ := parse_parts h
  rw [lines_end] at e1
  obtain ⟨V, hV⟩ : ∃ V, W.map (shiftW (t.size + 1) (ends t t.size + 1 : Nat)) = V := ⟨_, rfl⟩
  have la : linesOf (t ++ nl ++ bad) = W0 :: (L ++ [V]) := by rw [lines_parts, e1, hW, List.map_cons, List.map_nil, hV]; rfl
  have hm : W ∈ linesOf bad := by rw [hW]; exact List.mem_singleton.2 rfl
  have hz : (t ++ nl).size = t.size + 1 := by rw [ByteArray.size_append]; rfl
  have pin (i : Nat) : ((t ++ nl).size : Int) ≤ placeAt V i ∧ placeAt V i ≤ ((t ++ nl ++ bad).size : Int) := by
    refine place_in (fun e => (lines_mem hm).1 (List.map_eq_nil_iff.1 (hV.trans e))) (fun x hx => ?_) (by omega) hs i
    rw [← hV] at hx
    obtain ⟨y, hy, rfl⟩ := List.mem_map.1 hx
    have := (lines_mem hm).2 y hy
    have hz2 : (t ++ nl ++ bad).size = t.size + 1 + bad.size := by rw [ByteArray.size_append, hz]
    unfold shiftW
    simp only []
    omega
  have hS : (S : Int) ≤ 256 := (check_pass e5).s.2
  obtain ⟨p, e, h1, ⟨i, rfl⟩, h3⟩ : ∃ p e, e ≠ 0 ∧ (∃ i, p = placeAt V i) ∧ ∀ M, tailOf S R l (V :: M) = .error (p, e) := by
    cases q : lineOf V with
    | error x =>
      obtain ⟨i, rfl⟩ := line_err q
      exact ⟨_, 10, by decide, ⟨i, rfl⟩, fun M => by rw [tailOf, q]⟩
    | ok x =>
      have hx := hb x (line_same (by rw [← hV, shift_tx]) q)
      have hc : checkT S R (l ++ [x]) ≠ 0 := fun c => hx (right_up ((check_pass c).all x.tv (List.mem_map_of_mem (List.mem_append_right _ (List.mem_singleton.2 rfl)))) hS)
      refine ⟨_, _, hc, ⟨0, rfl⟩, fun M => ?_⟩
      rw [tailOf, q]
      simp only []
      rw [if_neg hc]
  refine ⟨_, e, h1, (pin i).1, (pin i).2, ?_, fun rest => ?_⟩
  · unfold parseOf
    rw [la]
    simp only []
    rw [e2]
    simp only []
    rw [tail_on L [V] [] l e3, h3]
  · unfold parseOf
    rw [lines_parts (t ++ nl ++ bad) rest, la]
    simp only [List.cons_append]
    rw [e2]
    simp only []
    rw [List.append_assoc, tail_on L _ [] l e3, List.cons_append, h3]

/-! ### a text that is cut -/
theorem astep_on (q : AQ) (c : UInt8) : ∃ e, (astep q c).done = q.done ++ e := by
  unfold astep
  split
  · unfold AQ.lines
    split
    · exact ⟨[], by simp⟩
    · exact ⟨_, rfl⟩
  · split
    · exact ⟨[], by simp⟩
    · split
      · exact ⟨[], by simp⟩
      · exact ⟨[], by simp⟩
theorem close_none : ∀ (d : List (List ByteArray)) (c : List ByteArray) (o : Bool), (AQ.mk d c noB o).close = c := fun d c o => by unfold AQ.close; rw [if_pos (show noB.size = 0 from rfl)]
theorem astep_more (q : AQ) (c : UInt8) : q.lines.length ≤ (astep q c).lines.length := by
  by_cases c1 : c.toNat = 10
  · rw [astep_nl q c1]
    unfold AQ.lines
    rw [close_none, if_pos rfl]
    exact Nat.le_refl _
  · by_cases c2 : (q.off || decide (c.toNat = 35)) = true
    · rw [astep_off q c1 c2]
      show _ ≤ (AQ.lines _).length
      unfold AQ.lines
      rw [close_none]
      exact Nat.le_refl _
    · by_cases c3 : c.toNat = 32 ∨ c.toNat = 9
      · rw [astep_sp q c1 c2 c3]
        unfold AQ.lines
        rw [close_none]
        exact Nat.le_refl _
      · rw [astep_in q c1 c2 c3]
        have : (AQ.mk q.done q.cur (q.word ++ ⟨#[c]⟩) q.off).close ≠ [] := by
          unfold AQ.close
          rw [if_neg (by rw [ByteArray.size_append]; show ¬ q.word.size + 1 = 0; omega)]
          simp
        unfold AQ.lines
        rw [if_neg this]
        split <;> simp
theorem arunL_on : ∀ (l : List UInt8) (q : AQ), (∃ e, (arunL l q).done = q.done ++ e) ∧ q.lines.length ≤ (arunL l q).lines.length
  | [], q => ⟨⟨[], by simp [arunL]⟩, Nat.le_refl _⟩
  | c :: l, q => by
    obtain ⟨⟨e, h1⟩, h2⟩ := arunL_on l (astep q c)
    obtain ⟨e0, h0⟩ := astep_on q c
    rw [show arunL (c :: l) q = arunL l (astep q c) from rfl]
    exact ⟨⟨e0 ++ e, by rw [h1, h0, List.append_assoc]⟩, Nat.le_trans (astep_more q c) h2⟩
theorem lines_first (q : AQ) (h : 2 ≤ q.lines.length) : q.done ≠ [] := fun e => by
  unfold AQ.lines at h
  rw [e] at h
  split at h <;> simp at h
theorem lines_head (q : AQ) {d : List (List ByteArray)} {x : List ByteArray} (h : q.done = x :: d) : q.lines.head? = some x := by
  unfold AQ.lines
  rw [h]
  split <;> rfl
/-- Of a text that is cut: no more lines; and, where two are left, the same first one. -/
theorem cut_lines (a b : ByteArray) : (linesTx a).length ≤ (linesTx (a ++ b)).length ∧ (2 ≤ (linesTx a).length → (linesTx a).head? = (linesTx (a ++ b)).head?) := by
  unfold linesTx
  rw [arun_append]
  obtain ⟨⟨e, h1⟩, h2⟩ := arunL_on b.data.toList (arun a (aZ []))
  refine ⟨h2, fun h => ?_⟩
  cases q : (arun a (aZ [])).done with
  | nil => exact absurd q (lines_first _ h)
  | cons x d =>
    rw [lines_head _ q]
    refine (lines_head (d := d ++ e) _ ?_).symm
    show (arunL _ _).done = _
    rw [h1, q]; rfl
theorem parse_cut {a b : ByteArray} {S R : Nat} {l : List Tk} {S' R' : Nat} {m : List Tk} (h : parseOf (a ++ b) = .ok (S, R, l)) (k : parseOf a = .ok (S', R', m)) : S' = S ∧ m.length ≤ l.length ∧ 0 < m.length := by
  obtain ⟨W, L, e1, e2, _, _, _, e6⟩ := parse_parts h
  obtain ⟨V, M, k1, k2, _, k4, _, k6⟩ := parse_parts k
  obtain ⟨c1, c2⟩ := cut_lines a b
  rw [← lines_tx, ← lines_tx, e1, k1] at c1 c2
  simp only [List.map_cons, List.length_cons, List.length_map, List.head?_cons] at c1 c2
  have hm := List.length_pos_iff.2 k4
  have := c2 (by omega)
  rw [Option.some.injEq] at this
  have := cache_same this k2
  rw [e2] at this
  cases this
  exact ⟨rfl, by omega, hm⟩

/-! ### blanks and notes put in -/
abbrev sNote : ByteArray := ⟨#[32, 35, 32, 110, 111, 116, 101, 61, 49]⟩
abbrev sTab : ByteArray := ⟨#[9]⟩
abbrev sBlank : ByteArray := ⟨#[32, 10]⟩
/-- What stands for a byte. -/
def repOf (c : Nat) : ByteArray := (if c = 10 then sNote else noB) ++ (if c = 32 then sTab else noB)
def repEnd (c : Nat) : ByteArray := if c = 10 then sBlank else noB
def altTo (t : ByteArray) : Nat → ByteArray
  | 0 => noB
  | i + 1 => altTo t i ++ repOf (byteAt t i) ++ ⟨#[UInt8.ofNat (byteAt t i)]⟩ ++ repEnd (byteAt t i)
theorem close_close (q : AQ) (o : Bool) : (AQ.mk q.done q.close noB o).lines = q.lines := by unfold AQ.lines; rw [close_none]
theorem off_run (d : List (List ByteArray)) (cur : List ByteArray) : ∀ l : List UInt8, (∀ c ∈ l, c.toNat ≠ 10) → arunL l ⟨d, cur, noB, true⟩ = ⟨d, cur, noB, true⟩
  | [], _ => rfl
  | c :: l, h => by
    have : astep ⟨d, cur, noB, true⟩ c = ⟨d, cur, noB, true⟩ := by
      rw [astep_off _ (h c (List.mem_cons_self ..)) (by simp), close_none]
    rw [show arunL (c :: l) ⟨d, cur, noB, true⟩ = arunL l (astep ⟨d, cur, noB, true⟩ c) from rfl, this]
    exact off_run d cur l (fun x hx => h x (List.mem_cons_of_mem _ hx))
theorem blank_step (q : AQ) {c : UInt8} (h : c.toNat = 32 ∨ c.toNat = 9) : astep q c = ⟨q.done, q.close, noB, q.off⟩ := by
  have h10 : c.toNat ≠ 10 := by omega
  have h35 : c.toNat ≠ 35 := by omega
  cases ho : q.off with
  | true => rw [astep_off q h10 (by simp [ho])]
  | false => rw [astep_sp q h10 (by simp [ho, h35]) h]
theorem rep_run (q : AQ) (c : UInt8) : arun (repOf c.toNat ++ ⟨#[c]⟩ ++ repEnd c.toNat) q = astep q c := by
  rw [arun_append, arun_append]
  by_cases c1 : c.toNat = 10
  · have e1 : repOf c.toNat = sNote := by unfold repOf; rw [if_pos c1, if_neg (by omega)]; exact ba_add_nil _
    have e2 : repEnd c.toNat = sBlank := by unfold repEnd; rw [if_pos c1]
    rw [e1, e2]
    have h1 : arun sNote q = ⟨q.done, q.close, noB, true⟩ := by
      have e3 : arun sNote q = arunL [32, 110, 111, 116, 101, 61, 49] (astep (astep q 32) 35) := by unfold arun arunL; rw [List.foldl_cons, List.foldl_cons]
      rw [e3, blank_step q (c := 32) (.inl (by decide)), astep_off _ (show (35 : UInt8).toNat ≠ 10 by decide) (by simp), close_none]
      exact off_run _ _ _ (by decide)
    have h2 (z : AQ) : arun sBlank z = astep (astep z 32) 10 := by unfold arun arunL; rw [List.foldl_cons, List.foldl_cons, List.foldl_nil]
    rw [h1, h2, arun_byte, astep_nl _ c1, close_close, astep_nl q c1, blank_step _ (c := 32) (.inl (by decide)), close_none, astep_nl _ (show (10 : UInt8).toNat = 10 by decide)]
    unfold AQ.lines
    rw [close_none, if_pos rfl]
  · have e2 : repEnd c.toNat = noB := by unfold repEnd; rw [if_neg c1]
    rw [e2, arun_none]
    by_cases c2 : c.toNat = 32
    · have e1 : repOf c.toNat = sTab := by unfold repOf; rw [if_neg c1, if_pos c2]; exact ba_nil_add _
      have h2 : arun sTab q = astep q 9 := by unfold arun arunL; rw [List.foldl_cons, List.foldl_nil]
      rw [e1, h2, arun_byte, blank_step q (c := 9) (.inr (by decide)), blank_step _ (.inl c2), blank_step q (.inl c2), close_none]
    · have e1 : repOf c.toNat = noB := by unfold repOf; rw [if_neg c1, if_neg c2]; exact ba_nil_add _
      rw [e1, arun_none, arun_byte]
theorem alt_run (t : ByteArray) (q : AQ) : ∀ i, i ≤ t.size → arun (altTo t i) q = arunL (t.data.toList.take i) q
  | 0, _ => rfl
  | i + 1, h => by
    have hb := (byteAt_in t (i := i) (by omega)).2
    have ht : t.data.toList.take (i + 1) = t.data.toList.take i ++ [t[i]] := by
      rw [List.take_add_one, List.getElem?_eq_getElem (by rw [Array.length_toList]; exact h)]
      rfl
    have hu : UInt8.ofNat (byteAt t i) = t[i] := by rw [hb]; simp
    rw [altTo, hu, hb, ByteArray.append_assoc, ByteArray.append_assoc, arun_append, ← ByteArray.append_assoc, rep_run, alt_run t q i (by omega), ht]
    unfold arunL
    rw [List.foldl_append]; rfl
/-- Blanks, notes and empty lines between change no word. -/
theorem alt_lines (t : ByteArray) : linesTx (altTo t t.size) = linesTx t := by
  unfold linesTx
  rw [alt_run t _ _ (Nat.le_refl _), List.take_of_length_le (by rw [Array.length_toList]; exact Nat.le_refl _)]
  rfl
end Go.Proofs.YtlpffgmfgkleiaaDoor

/-
  The walk over a task as a text, as the program writes it.
-/
namespace Go.Proofs.YtlpffgmfgkleiaaDoor
open Go.RowKit Go.Maps

theorem ownz_six_low {N : Nat} {u w : World} (hb : Below u.heap.size u w) (hN : N ≤ u.heap.size) (x0 x1 x2 x3 x4 x5 : ByteArray) : OwnZ (w.alloc (.cells #[.string x0, .string x1, .string x2, .string x3, .string x4, .string x5] 9)) N (.slice (some ⟨w.heap.size, 0, none⟩) 6 6) [x0, x1, x2, x3, x4, x5] :=
  ⟨rfl, .inr ⟨w.heap.size, 6, #[.string x0, .string x1, .string x2, .string x3, .string x4, .string x5], rfl, Nat.le_trans hN hb.size, heap_alloc_new w _, Nat.le_refl _, by unfold maxLen; omega, rfl, rfl⟩⟩
theorem OwnZ.some_ {w : World} {B n c : Nat} {a : Option Addr} {l : List ByteArray} (h : OwnZ w B (.slice a n c) l) (hl : 0 < l.length) : ∃ g, a = some ⟨g, 0, none⟩ ∧ Strs w (some ⟨g, 0, none⟩) l ∧ l.length = n ∧ n ≤ c := by
  rcases h.2 with ⟨e, h0⟩ | ⟨g, cap, cur, e, _, _, h1, _, _, _⟩
  · omega
  · cases e
    obtain ⟨a', cap', e', hs, _⟩ := h.slice
    cases e'
    exact ⟨g, rfl, hs, rfl, h1⟩

set_option maxRecDepth 100000 in
set_option maxHeartbeats 4000000 in
theorem line_any (x : TV) (w : World) (hx : x.ok w) (hT : PT w) : Calls Tryd.prog 31 #[x.val] w fun e w' => e = .returned (.string (lineText x.tk)) ∧ Below w.heap.size w w' := by
  have CR : Hid (∀ v, Below w.heap.size w v → Calls Tryd.prog 53 #[x.val, .int .i64 256] v fun e w' => e = .returned (.int .i64 (rightOf x 256)) ∧ Below v.heap.size v w') := fun v hb => right_any x 256 v (hx.below hb)
  have HX := Lib.hid hx
  have HPT : Hid (PT w) := hT
  have HLT : Hid (lineText x.tk = if rightOf x 256 = 0 then wholeOf x.tk else ⟨#[]⟩) := rfl
  unfold TV.val at CR ⊢
  by_cases hr : rightOf x 256 = 0
  rotate_left
  · obtain ⟨E, hE⟩ : ∃ E, rightOf x 256 = E := ⟨_, rfl⟩
    rw [hE] at CR hr
    have HL : Hid (lineText x.tk = ⟨#[]⟩) := by show _ = _; rw [HLT.out, if_neg (by rw [hE]; exact hr)]
    have d1 : (E == 0) = false := by rw [beq_eq_false_iff_ne]; exact hr
    have d2 : (E != 0) = true := by rw [bne, d1]; rfl
    clear HLT hE hr hx hT
    go_enter Tryd.func31, Tryd.ntmps31
    go_upto_region 1 with fail
    refine gen_world (fun v => Below w.heap.size w v ∧ AtB v w.heap.size x) ⟨bw_alloc (Below.refl _ _) _, atB_new w x _⟩ ?_
    intro u0 ⟨hb0, ⟨c0, c1, c2, c3, c4, c5, c6⟩⟩
    have B0 := Lib.hid hb0
    clear hb0
    go_wp2_with (go_at_call 53; (with_reducible refine (CR.out _ B0.out).mono ?_); rintro e u1 ⟨rfl, b1⟩; have B1 := Lib.hid (below_up B0.out b1); clear b1)
    go_ret
    exact ⟨by rw [HL.out]; rfl, B1.out⟩
  · have hsm := small_of hr (by omega)
    have HL : Hid (lineText x.tk = wholeOf x.tk) := by show _ = _; rw [HLT.out, if_pos hr]
    rw [hr] at CR
    have hchI : ∀ y ∈ x.ch, I64 y := fun y hy => by have := hsm.ch y hy; have := hsm.c; have := hsm.d; unfold I64; omega
    have husI : ∀ y ∈ x.us, I64 y := fun y hy => by have := hsm.us y hy; unfold I64; omega
    have i1 : I64 x.id := by have := hsm.id; unfold I64; omega
    have i2 : I64 x.c := by have := hsm.c; have := hsm.d; unfold I64; omega
    have i3 : I64 x.d := by have := hsm.c; have := hsm.d; unfold I64; omega
    have i4 : I64 x.t := by have := hsm.c; have := hsm.d; unfold I64; omega
    have i5 : I64 x.p := by have := hsm.p; unfold I64; omega
    obtain ⟨g1, hg1⟩ : ∃ g, digOf x.id = g := ⟨_, rfl⟩
    have z1 : g1.size ≤ 22 := by rw [← hg1]; exact digOf_size _ i1
    have D1 : Hid (∀ v, PT v → Calls Tryd.prog 30 #[.int .i64 x.id] v fun e w' => e = .returned (.string g1) ∧ Below v.heap.size v w') := fun v hT => by have := digits_any x.id i1 v hT; rwa [hg1] at this
    obtain ⟨g2, hg2⟩ : ∃ g, digOf x.c = g := ⟨_, rfl⟩
    have z2 : g2.size ≤ 22 := by rw [← hg2]; exact digOf_size _ i2
    have D2 : Hid (∀ v, PT v → Calls Tryd.prog 30 #[.int .i64 x.c] v fun e w' => e = .returned (.string g2) ∧ Below v.heap.size v w') := fun v hT => by have := digits_any x.c i2 v hT; rwa [hg2] at this
    obtain ⟨h2, hh2⟩ : ∃ h, tC ++ g2 = h := ⟨_, rfl⟩
    have y2 : tC.size = 2 := rfl
    have A2 := Lib.hid (add_str tC g2 h2 hh2 (by omega))
    obtain ⟨g3, hg3⟩ : ∃ g, digOf x.d = g := ⟨_, rfl⟩
    have z3 : g3.size ≤ 22 := by rw [← hg3]; exact digOf_size _ i3
    have D3 : Hid (∀ v, PT v → Calls Tryd.prog 30 #[.int .i64 x.d] v fun e w' => e = .returned (.string g3) ∧ Below v.heap.size v w') := fun v hT => by have := digits_any x.d i3 v hT; rwa [hg3] at this
    obtain ⟨h3, hh3⟩ : ∃ h, tD ++ g3 = h := ⟨_, rfl⟩
    have y3 : tD.size = 2 := rfl
    have A3 := Lib.hid (add_str tD g3 h3 hh3 (by omega))
    obtain ⟨g4, hg4⟩ : ∃ g, digOf x.t = g := ⟨_, rfl⟩
    have z4 : g4.size ≤ 22 := by rw [← hg4]; exact digOf_size _ i4
    have D4 : Hid (∀ v, PT v → Calls Tryd.prog 30 #[.int .i64 x.t] v fun e w' => e = .returned (.string g4) ∧ Below v.heap.size v w') := fun v hT => by have := digits_any x.t i4 v hT; rwa [hg4] at this
    obtain ⟨h4, hh4⟩ : ∃ h, tT ++ g4 = h := ⟨_, rfl⟩
    have y4 : tT.size = 2 := rfl
    have A4 := Lib.hid (add_str tT g4 h4 hh4 (by omega))
    obtain ⟨g5, hg5⟩ : ∃ g, digOf x.p = g := ⟨_, rfl⟩
    have z5 : g5.size ≤ 22 := by rw [← hg5]; exact digOf_size _ i5
    have D5 : Hid (∀ v, PT v → Calls Tryd.prog 30 #[.int .i64 x.p] v fun e w' => e = .returned (.string g5) ∧ Below v.heap.size v w') := fun v hT => by have := digits_any x.p i5 v hT; rwa [hg5] at this
    obtain ⟨h5, hh5⟩ : ∃ h, tP ++ g5 = h := ⟨_, rfl⟩
    have y5 : tP.size = 2 := rfl
    have A5 := Lib.hid (add_str tP g5 h5 hh5 (by omega))
    have HSIX : Hid (sixOf x.tk = [bTask, g1, h2, h3, h4, h5]) := by
      show _ = _
      unfold sixOf TV.tk
      simp only []
      rw [hg1, hg2, hg3, hg4, hg5, hh2, hh3, hh4, hh5]
    have HCH := Lib.hid hchI
    have HUS := Lib.hid husI
    have HSM := Lib.hid hsm
    have HZS : Hid ((joinZ (sixOf x.tk ++ chZ x.tk ++ usZ x.tk)).size ≤ 3400) := by
      show _ ≤ _
      rw [← whole_words, ← HL.out]
      have := HL.out
      exact line_size x
    have HWZ := Lib.hid (whole_words x.tk)
    clear hchI husI hsm i1 i2 i3 i4 i5 hg1 z1 hg2 z2 hh2 y2 hg3 z3 hh3 y3 hg4 z4 hh4 y4 hg5 z5 hh5 y5 hr hx HLT hT
    go_enter Tryd.func31, Tryd.ntmps31
    go_upto_region 1 with fail
    refine gen_world (fun v => Below w.heap.size w v ∧ AtB v w.heap.size x) ⟨bw_alloc (Below.refl _ _) _, atB_new w x _⟩ ?_
    intro u0 ⟨hb0, ht0⟩
    have B0 := Lib.hid hb0
    have T0 := Lib.hid ht0
    obtain ⟨c0, c1, c2, c3, c4, c5, c6⟩ := ht0
    clear hb0
    go_upto_region 3 with (go_at_call 53; (with_reducible refine (CR.out _ B0.out).mono ?_); rintro e u1 ⟨rfl, b1⟩; have B1 := Lib.hid (below_up B0.out b1); have T1 := Lib.hid (T0.out.below b1); clear b1)
    clear CR B0 T0 c0 c1 c2 c3 c4 c5 c6
    have HP1 : Hid (PT u1) := HPT.out.below B1.out
    have HN1 : Hid (w.heap.size + 1 ≤ u1.heap.size) := block_of_cell T1.out.c0
    have MK : Hid (∀ v, Below u1.heap.size u1 v → (Below u1.heap.size u1 v ∧ v.cell? ⟨w.heap.size, 0, none⟩ = some (.int .i64 x.id) ∧ v.cell? ⟨w.heap.size, 1, none⟩ = some (.int .i64 x.c) ∧ v.cell? ⟨w.heap.size, 2, none⟩ = some (.int .i64 x.d) ∧ v.cell? ⟨w.heap.size, 3, none⟩ = some (.int .i64 x.t) ∧ v.cell? ⟨w.heap.size, 4, none⟩ = some (.int .i64 x.p))) := fun v hb => ⟨hb, kept_cell hb T1.out.c0, kept_cell hb T1.out.c1, kept_cell hb T1.out.c2, kept_cell hb T1.out.c3, kept_cell hb T1.out.c4⟩
    have E1 : Hid (∀ v, Below u1.heap.size u1 v → Calls Tryd.prog 30 #[.int .i64 x.id] v fun e w' => e = .returned (.string g1) ∧ Below u1.heap.size u1 w') := fun v hb => (D1.out v (HP1.out.below hb)).mono fun _ _ ⟨h1, h2⟩ => ⟨h1, below_up hb h2⟩
    have E2 : Hid (∀ v, Below u1.heap.size u1 v → Calls Tryd.prog 30 #[.int .i64 x.c] v fun e w' => e = .returned (.string g2) ∧ Below u1.heap.size u1 w') := fun v hb => (D2.out v (HP1.out.below hb)).mono fun _ _ ⟨h1, h2⟩ => ⟨h1, below_up hb h2⟩
    have E3 : Hid (∀ v, Below u1.heap.size u1 v → Calls Tryd.prog 30 #[.int .i64 x.d] v fun e w' => e = .returned (.string g3) ∧ Below u1.heap.size u1 w') := fun v hb => (D3.out v (HP1.out.below hb)).mono fun _ _ ⟨h1, h2⟩ => ⟨h1, below_up hb h2⟩
    have E4 : Hid (∀ v, Below u1.heap.size u1 v → Calls Tryd.prog 30 #[.int .i64 x.t] v fun e w' => e = .returned (.string g4) ∧ Below u1.heap.size u1 w') := fun v hb => (D4.out v (HP1.out.below hb)).mono fun _ _ ⟨h1, h2⟩ => ⟨h1, below_up hb h2⟩
    have E5 : Hid (∀ v, Below u1.heap.size u1 v → Calls Tryd.prog 30 #[.int .i64 x.p] v fun e w' => e = .returned (.string g5) ∧ Below u1.heap.size u1 w') := fun v hb => (D5.out v (HP1.out.below hb)).mono fun _ _ ⟨h1, h2⟩ => ⟨h1, below_up hb h2⟩
    have a2 := A2.out
    have a3 := A3.out
    have a4 := A4.out
    have a5 := A5.out
    go_cut [3] from 7 to 27 (fun u wx => ∃ g : Nat, u = .slice (some ⟨g, 0, none⟩) 6 6 ∧ Hid (Below u1.heap.size u1 wx) ∧ Hid (OwnZ wx (w.heap.size + 1) (.slice (some ⟨g, 0, none⟩) 6 6) [bTask, g1, h2, h3, h4, h5]))
    case first =>
      go_region_held3 (fun v => Below u1.heap.size u1 v ∧ v.cell? ⟨w.heap.size, 0, none⟩ = some (.int .i64 x.id) ∧ v.cell? ⟨w.heap.size, 1, none⟩ = some (.int .i64 x.c) ∧ v.cell? ⟨w.heap.size, 2, none⟩ = some (.int .i64 x.d) ∧ v.cell? ⟨w.heap.size, 3, none⟩ = some (.int .i64 x.t) ∧ v.cell? ⟨w.heap.size, 4, none⟩ = some (.int .i64 x.p)) (exact MK.out _ (by repeat (first | exact Below.refl _ _ | (with_reducible assumption) | refine bw_alloc ?_ _ | refine bw_drew ?_))) (first
        | (go_at_call 30; (with_reducible refine (E1.out _ (by repeat (first | exact Below.refl _ _ | (with_reducible assumption) | refine bw_alloc ?_ _ | refine bw_drew ?_))).mono ?_); rintro e wx ⟨rfl, bx⟩)
        | (go_at_call 30; (with_reducible refine (E2.out _ (by repeat (first | exact Below.refl _ _ | (with_reducible assumption) | refine bw_alloc ?_ _ | refine bw_drew ?_))).mono ?_); rintro e wx ⟨rfl, bx⟩)
        | (go_at_call 30; (with_reducible refine (E3.out _ (by repeat (first | exact Below.refl _ _ | (with_reducible assumption) | refine bw_alloc ?_ _ | refine bw_drew ?_))).mono ?_); rintro e wx ⟨rfl, bx⟩)
        | (go_at_call 30; (with_reducible refine (E4.out _ (by repeat (first | exact Below.refl _ _ | (with_reducible assumption) | refine bw_alloc ?_ _ | refine bw_drew ?_))).mono ?_); rintro e wx ⟨rfl, bx⟩)
        | (go_at_call 30; (with_reducible refine (E5.out _ (by repeat (first | exact Below.refl _ _ | (with_reducible assumption) | refine bw_alloc ?_ _ | refine bw_drew ?_))).mono ?_); rintro e wx ⟨rfl, bx⟩))
      all_goals
        go_wp2_with fail
        go_meet
        exact ⟨_, rfl, Lib.hid (by repeat (first | exact Below.refl _ _ | (with_reducible assumption) | refine bw_alloc ?_ _ | refine bw_drew ?_)), Lib.hid (ownz_six_low (u := u1) (by repeat (first | exact Below.refl _ _ | (with_reducible assumption) | refine bw_alloc ?_ _ | refine bw_drew ?_)) HN1.out _ _ _ _ _ _)⟩
    case rest =>
      obtain ⟨g6, rfl, HB2, HO2⟩ := hcut
      have T2 := Lib.hid (T1.out.below HB2.out)
      have B2 := Lib.hid (below_up B1.out HB2.out)
      clear MK E1 E2 E3 E4 E5 D1 D2 D3 D4 D5 A2 A3 A4 A5 a2 a3 a4 a5 T1 B1 HB2 HP1 HN1
      have c5 := T2.out.c5
      obtain ⟨N, hN⟩ : ∃ N, x.ch.length = N := ⟨_, rfl⟩
      rw [hN] at c5
      go_upto_if 30 with fail
      go_cut [3] from 27 to 38 (fun u wy => ∃ (a' : Option Addr) (n' cp' : Nat), u = .slice a' n' cp' ∧ Hid (Below w.heap.size w wy) ∧ Hid (AtB wy w.heap.size x) ∧ Hid (OwnZ wy (w.heap.size + 1) (.slice a' n' cp') (sixOf x.tk ++ chZ x.tk)))
      case first =>
        by_cases hc : x.ch = []
        · have hM : Hid (sixOf x.tk ++ chZ x.tk = [bTask, g1, h2, h3, h4, h5]) := by show _ = _; unfold chZ; rw [if_pos (show x.tk.ch = [] from hc), HSIX.out]; rfl
          have hl0 : N = 0 := by rw [← hN, hc]; rfl
          have hl1 : ¬ (0 : Int) < (N : Int) := by omega
          clear hl0 hc hN
          go_wp2_with fail
          go_meet
          exact ⟨_, _, _, rfl, B2, T2, by rw [hM.out]; exact HO2⟩
        · have hlp : 0 < x.ch.length := List.length_pos_iff.2 hc
          obtain ⟨q, hq⟩ : ∃ q, joinOf x.ch = q := ⟨_, rfl⟩
          obtain ⟨m1, hm1⟩ : ∃ m, tChunks ++ q = m := ⟨_, rfl⟩
          have hM : Hid (sixOf x.tk ++ chZ x.tk = [bTask, g1, h2, h3, h4, h5] ++ [m1]) := by show _ = _; unfold chZ; rw [if_neg (show ¬ x.tk.ch = [] from hc), HSIX.out]; show _ ++ [tChunks ++ joinOf x.ch] = _; rw [hq, hm1]
          have hqs : q.size ≤ 1472 := by rw [← hq]; exact size_join HCH.out HSM.out.chl
          have k8 : tChunks.size = 7 := rfl
          have CJ : Hid (∀ v, Below w.heap.size w v → Calls Tryd.prog 54 #[.slice x.a1 N x.c1] v fun e w' => e = .returned (.string q) ∧ Below v.heap.size v w') := fun v hb => by
            have := join_any x.a1 N x.c1 x.ch hN (by have := HSM.out.chl; omega) HCH.out v (HX.out.one.below hb) (HPT.out.below hb)
            rwa [hq] at this
          have b1 := add_str tChunks q m1 hm1 (by omega)
          rw [hN] at hlp
          have hlp2 : (0 : Int) < (N : Int) := by omega
          clear hN hq hm1 hqs k8 hc
          go_wp2_with (first
            | (go_at_call 54; (with_reducible refine (CJ.out _ B2.out).mono ?_); rintro e wx ⟨rfl, bx⟩; have B3 := Lib.hid (below_up B2.out bx); have T3 := Lib.hid (T2.out.below bx); have O3 := Lib.hid (HO2.out.below bx); have N3 : Hid (w.heap.size + 1 ≤ wx.heap.size) := (block_of_cell T3.out.c0 : w.heap.size < wx.heap.size); clear bx)
            | (at_builtin; refine wp_strs (m := 1) (l := [m1]) rfl _ _ rfl rfl rfl (O3.out.below (by repeat (first | exact Below.refl _ _ | (with_reducible assumption) | refine bw_alloc ?_ _ | refine bw_drew ?_))) (by rw [World.size_alloc]; have := N3.out; omega) (strs_new _ _ _) rfl (by simp) 7 rfl ?_; intro a3 k3 w3 o3 g3 l3; have HG := grownz_new (N := w.heap.size + 1) ((bw_alloc (Below.refl _ _) _ : Below wx.heap.size wx _).mono N3.out) (O3.out.below (by repeat (first | exact Below.refl _ _ | (with_reducible assumption) | refine bw_alloc ?_ _ | refine bw_drew ?_))) (Nat.le_refl _) (by rw [World.size_alloc]; have := N3.out; omega) g3; have B4 := Lib.hid (B3.out.trans (HG.mono (by omega))); have T4 := Lib.hid (T3.out.belowB HG (by omega)); have O4 := Lib.hid o3; clear o3 g3 l3 HG))
          go_meet
          exact ⟨_, _, _, rfl, B4, T4, by rw [hM.out]; exact O4⟩
      case rest =>
        clear B2 T2 c5 hN HO2
        obtain ⟨a3, n3, p3, rfl, B3, T3, O3⟩ := hcut
        have c6 := T3.out.c6
        obtain ⟨K, hK⟩ : ∃ K, x.us.length = K := ⟨_, rfl⟩
        rw [hK] at c6
        go_upto_if 41 with fail
        go_cut [3] from 38 to 50 (fun u wy => ∃ (a' : Option Addr) (n' cp' : Nat), u = .slice a' n' cp' ∧ Hid (Below w.heap.size w wy) ∧ Hid (OwnZ wy (w.heap.size + 1) (.slice a' n' cp') (sixOf x.tk ++ chZ x.tk ++ usZ x.tk)))
        case first =>
          by_cases hc : x.us = []
          · have hM : Hid (sixOf x.tk ++ chZ x.tk ++ usZ x.tk = sixOf x.tk ++ chZ x.tk) := by show _ = _; unfold usZ; rw [if_pos (show x.tk.us = [] from hc), List.append_nil]
            have hl0 : K = 0 := by rw [← hK, hc]; rfl
            have hl1 : ¬ (0 : Int) < (K : Int) := by omega
            clear hl0 hc hK
            go_wp2_with fail
            go_meet
            exact ⟨_, _, _, rfl, B3, by rw [hM.out]; exact O3⟩
          · have hlp : 0 < x.us.length := List.length_pos_iff.2 hc
            obtain ⟨q, hq⟩ : ∃ q, joinOf x.us = q := ⟨_, rfl⟩
            obtain ⟨m1, hm1⟩ : ∃ m, tUse ++ q = m := ⟨_, rfl⟩
            have hM : Hid (sixOf x.tk ++ chZ x.tk ++ usZ x.tk = (sixOf x.tk ++ chZ x.tk) ++ [m1]) := by show _ = _; unfold usZ; rw [if_neg (show ¬ x.tk.us = [] from hc)]; show _ ++ [tUse ++ joinOf x.us] = _; rw [hq, hm1]
            have hqs : q.size ≤ 1472 := by rw [← hq]; exact size_join HUS.out HSM.out.usl
            have k8 : tUse.size = 4 := rfl
            have CA : Hid (∀ v, Below w.heap.size w v → Calls Tryd.prog 55 #[.slice x.a2 K x.c2] v (AsBack 2 x.us K v)) := fun v hb => as_qi x.a2 K x.c2 x.us hK (by have := HSM.out.usl; omega) v (HX.out.two.below hb)
            have CJ : Hid (∀ (a : Option Addr) (c : Nat) v, Below w.heap.size w v → Ints v a x.us → Calls Tryd.prog 54 #[.slice a K c] v fun e w' => e = .returned (.string q) ∧ Below v.heap.size v w') := fun a c v hb hi => by
              have := join_any a K c x.us hK (by have := HSM.out.usl; omega) HUS.out v hi (HPT.out.below hb)
              rwa [hq] at this
            have b1 := add_str tUse q m1 hm1 (by omega)
            have HLN : Hid ((sixOf x.tk ++ chZ x.tk).length = n3) := by
              show _ = _
              obtain ⟨_, _, e, _⟩ := O3.out.slice
              injection e with _ e _
              exact e.symm
            have HL7 : Hid ((sixOf x.tk ++ chZ x.tk).length ≤ 7) := by
              show _ ≤ _
              rw [List.length_append]
              have : (chZ x.tk).length ≤ 1 := by unfold chZ; split <;> simp
              have h6 : (sixOf x.tk).length = 6 := rfl
              omega
            rw [hK] at hlp
            have hlp2 : (0 : Int) < (K : Int) := by omega
            clear hK hq hm1 hqs k8 hc
            go_wp2_with (first
              | (go_at_call 55; (with_reducible refine (CA.out _ B3.out).mono ?_); rintro e wa ⟨a9, c9, rfl, o9, b9⟩; have B8 := Lib.hid (below_up B3.out b9); have O8 := Lib.hid (O3.out.below b9); have T8 := Lib.hid (T3.out.below b9); have I8 := Lib.hid o9.ints.1; clear o9 b9)
              | (go_at_call 54; (with_reducible refine (CJ.out _ _ _ B8.out I8.out).mono ?_); rintro e wx ⟨rfl, bx⟩; have B9 := Lib.hid (below_up B8.out bx); have O9 := Lib.hid (O8.out.below bx); have N9 : Hid (w.heap.size + 1 ≤ wx.heap.size) := (block_of_cell (T8.out.below bx).c0 : w.heap.size < wx.heap.size); clear bx)
              | (at_builtin; refine wp_strs (m := 1) (l := [m1]) rfl _ _ rfl rfl rfl (O9.out.below (by repeat (first | exact Below.refl _ _ | (with_reducible assumption) | refine bw_alloc ?_ _ | refine bw_drew ?_))) (by rw [World.size_alloc]; have := N9.out; omega) (strs_new _ _ _) rfl (by have := HL7.out; omega) (n3 + 1) (by rw [HLN.out]) ?_; intro a4 k4 w4 o4 g4 l4; have HG := grownz_new (N := w.heap.size + 1) ((bw_alloc (Below.refl _ _) _ : Below wx.heap.size wx _).mono N9.out) (O9.out.below (by repeat (first | exact Below.refl _ _ | (with_reducible assumption) | refine bw_alloc ?_ _ | refine bw_drew ?_))) (Nat.le_refl _) (by rw [World.size_alloc]; have := N9.out; omega) g4; have B4 := Lib.hid (B9.out.trans (HG.mono (by omega))); have O4 := Lib.hid o4; clear o4 g4 l4 HG))
            go_meet
            exact ⟨_, _, _, rfl, B4, by rw [hM.out]; exact O4⟩
        case rest =>
          clear B3 T3 c6 hK O3
          obtain ⟨a5, n5, p5, rfl, B5, O5⟩ := hcut
          obtain ⟨g5, rfl, hS5, hl5, hc5⟩ := O5.out.some_ (by rw [List.length_append, List.length_append]; show 0 < 6 + _ + _; omega)
          have hn5 : 0 < n5 ∧ n5 ≤ 1000000 := by
            rw [← hl5, List.length_append, List.length_append]
            have h1 : (chZ x.tk).length ≤ 1 := by unfold chZ; split <;> simp
            have h2 : (usZ x.tk).length ≤ 1 := by unfold usZ; split <;> simp
            have h6 : (sixOf x.tk).length = 6 := rfl
            omega
          have CZ := Lib.hid (strjoin_any g5 0 p5 n5 _ hl5 _ hS5 hn5.1 hn5.2 hc5 (by have := HZS.out; omega))
          rw [← HWZ.out, ← HL.out] at CZ
          clear hS5 hl5 hc5 hn5
          go_wp2_with (go_at_call 56; (with_reducible refine (CZ.out).mono ?_); rintro e wx ⟨rfl, bx⟩; have B6 := Lib.hid (below_up B5.out bx); clear bx)
          go_ret
          exact ⟨rfl, B6.out⟩
end Go.Proofs.YtlpffgmfgkleiaaDoor

/-
  The walk over a system as a text, as the program writes it.
-/
namespace Go.Proofs.YtlpffgmfgkleiaaDoor
open Go.RowKit Go.Maps

theorem bld_drew {B : Nat} {t : ByteArray} {w : World} (h : Bld B t w) : Bld B t w.drew := bld_below h (Below.refl _ w).drew
theorem sz_drew {n : Nat} {w : World} (h : n ≤ w.heap.size) : n ≤ w.drew.heap.size := h
theorem at_lit {T e : TypeId} {B b : Nat} {p : Value} {bs : List Value} {w : World} (h : Lib.BuilderAtF T e B b p bs w) : b < w.heap.size := by
  obtain ⟨_, v, h2, _⟩ := h
  exact (Array.getElem?_eq_some_iff.1 h2).1
theorem le_lit {B : Nat} {t : ByteArray} {w : World} (h : Bld B t w) : B < w.heap.size := h.elim (fun x => at_lit x) (fun x => at_lit x)
theorem bld_alloc {B : Nat} {t : ByteArray} {w : World} (h : Bld B t w) (o : Obj) : Bld B t (w.alloc o) := bld_below h ((Below.refl _ w).alloc (Nat.le_refl _) o)
/-- What is written behind a world lies behind it. -/
theorem below_at {u v v' : World} (h : Below u.heap.size u v) (k : Below u.heap.size v v') : Below u.heap.size u v' := h.trans k

set_option maxRecDepth 100000 in
set_option maxHeartbeats 4000000 in
theorem print_any {w : World} {a : Option Addr} {n cap : Nat} {L : List TV} (S R : Int) (ha : Tasks w a n cap L) (hw : ∀ x ∈ L, I64 x.p ∧ I64 x.id) (hT : PT w) : Calls Tryd.prog 15 #[.agg #[.int .i64 S, .int .i64 R, .slice a n cap]] w fun e w' => e = .returned (.string (printText S R (L.map TV.tk))) ∧ Below w.heap.size w w' := by
  have CK : Hid (∀ v, Below w.heap.size w v → Calls Tryd.prog 28 #[.agg #[.int .i64 S, .int .i64 R, .slice a n cap]] v fun e w' => e = .returned (.int .i64 (checkOf S R L)) ∧ Below v.heap.size v w') := fun v hb => check_any S R (ha.below hb) hw
  have HA := Lib.hid ha
  have HPT : Hid (PT w) := hT
  have HPX : Hid (printText S R (L.map TV.tk) = if checkOf S R L = 0 then printRun (headText S R) (L.map TV.tk) else ⟨#[]⟩) := print_tk S R L
  clear hT hw
  by_cases hr : checkOf S R L = 0
  rotate_left
  · obtain ⟨E, hE⟩ : ∃ E, checkOf S R L = E := ⟨_, rfl⟩
    rw [hE] at CK hr
    have HL : Hid (printText S R (L.map TV.tk) = ⟨#[]⟩) := by show _ = _; rw [HPX.out, if_neg (by rw [hE]; exact hr)]
    have d1 : (E == 0) = false := by rw [beq_eq_false_iff_ne]; exact hr
    have d2 : (E != 0) = true := by rw [bne, d1]; rfl
    clear HPX hE hr ha
    go_enter Tryd.func15, Tryd.ntmps15
    go_upto_region 1 with fail
    refine gen_world (SysB w w.heap.size S R a n cap) sysB_new ?_
    intro u0 h0
    have H0 := Lib.hid h0
    obtain ⟨-, c0, c1, c2⟩ := h0
    go_wp2_with (go_at_call 28; (with_reducible refine (CK.out _ H0.out.low).mono ?_); rintro e u1 ⟨rfl, b1⟩; have B1 := Lib.hid (below_up H0.out.low b1); clear b1)
    go_ret
    exact ⟨by rw [HL.out]; rfl, B1.out⟩
  · have hq := check_pass hr
    have HL : Hid (printText S R (L.map TV.tk) = printRun (headText S R) (L.map TV.tk)) := by show _ = _; rw [HPX.out, if_pos hr]
    rw [hr] at CK
    have i1 : I64 S := by have := hq.s; unfold I64; omega
    have i2 : I64 R := by have := hq.r; unfold I64; omega
    have hn : L.length = n := ha.len
    have hn64 : n ≤ 64 := by have := hq.most; omega
    obtain ⟨g1, hg1⟩ : ∃ g, digOf S = g := ⟨_, rfl⟩
    have z1 : g1.size ≤ 22 := by rw [← hg1]; exact digOf_size _ i1
    have D1 : Hid (∀ v, PT v → Calls Tryd.prog 30 #[.int .i64 S] v fun e w' => e = .returned (.string g1) ∧ Below v.heap.size v w') := fun v hT => by have := digits_any S i1 v hT; rwa [hg1] at this
    obtain ⟨g2, hg2⟩ : ∃ g, digOf R = g := ⟨_, rfl⟩
    have z2 : g2.size ≤ 22 := by rw [← hg2]; exact digOf_size _ i2
    have D2 : Hid (∀ v, PT v → Calls Tryd.prog 30 #[.int .i64 R] v fun e w' => e = .returned (.string g2) ∧ Below v.heap.size v w') := fun v hT => by have := digits_any R i2 v hT; rwa [hg2] at this
    have kCache : sCache.size = 6 := rfl
    have kSp : sSp.size = 1 := rfl
    have kNl : sNl.size = 1 := rfl
    obtain ⟨s1, hs1⟩ : ∃ s, sCache ++ g1 = s := ⟨_, rfl⟩
    have y1 : s1.size = sCache.size + g1.size := by rw [← hs1, ByteArray.size_append]
    obtain ⟨s2, hs2⟩ : ∃ s, s1 ++ sSp = s := ⟨_, rfl⟩
    have y2 : s2.size = s1.size + sSp.size := by rw [← hs2, ByteArray.size_append]
    obtain ⟨s3, hs3⟩ : ∃ s, s2 ++ g2 = s := ⟨_, rfl⟩
    have y3 : s3.size = s2.size + g2.size := by rw [← hs3, ByteArray.size_append]
    obtain ⟨s4, hs4⟩ : ∃ s, s3 ++ sNl = s := ⟨_, rfl⟩
    have y4 : s4.size = s3.size + sNl.size := by rw [← hs4, ByteArray.size_append]
    have A1 := Lib.hid (add_str sCache g1 s1 hs1 (by omega))
    have A2 := Lib.hid (add_str s1 sSp s2 hs2 (by omega))
    have A3 := Lib.hid (add_str s2 g2 s3 hs3 (by omega))
    have A4 := Lib.hid (add_str s3 sNl s4 hs4 (by omega))
    have HHD : Hid (headText S R = s4) := by
      show _ = _
      unfold headText
      rw [hg1, hg2, hs1, hs2, hs3, hs4]
    have HS4 : Hid (s4.size ≤ 60) := by show _ ≤ _; omega
    have HRS : Hid (∀ k, (printRun s4 ((L.map TV.tk).take k)).size ≤ s4.size + 3401 * k) := fun k => run_size s4 L k
    rw [HHD.out] at HL
    clear i1 i2 hg1 hg2 z1 z2 hs1 hs2 hs3 hs4 y1 y2 y3 y4 kCache kSp kNl hq hr HPX HHD ha
    have HN := Lib.hid hn
    clear hn
    go_enter Tryd.func15, Tryd.ntmps15
    go_upto_region 1 with fail
    refine gen_world (SysB w w.heap.size S R a n cap) sysB_new ?_
    intro u0 h0
    have H0 := Lib.hid h0
    obtain ⟨-, c0, c1, c2⟩ := h0
    go_upto_region 4 with (go_at_call 28; (with_reducible refine (CK.out _ H0.out.low).mono ?_); rintro e u1 ⟨rfl, b1⟩; have H1 := Lib.hid (H0.out.below b1); clear b1)
    clear CK H0 c0 c1 c2
    have HP1 : Hid (PT u1) := HPT.out.below H1.out.low
    refine gen_world (fun v => Below u1.heap.size u1 v ∧ Bld u1.heap.size ⟨#[]⟩ v ∧ u1.heap.size < v.heap.size) ⟨bw_alloc (Below.refl _ _) _, Lib.IsBuilderF.of (Lib.fresh_isBuilder _ _ u1), by rw [World.size_alloc]; omega⟩ ?_
    intro ub ⟨hlb, hbb, hgb⟩
    have SZ : Hid (u1.heap.size < ub.heap.size) := hgb
    clear hgb
    have MK : Hid (∀ v, Below u1.heap.size u1 v → (Below u1.heap.size u1 v ∧ v.cell? ⟨w.heap.size, 0, none⟩ = some (.int .i64 S) ∧ v.cell? ⟨w.heap.size, 1, none⟩ = some (.int .i64 R))) := fun v hb => ⟨hb, kept_cell hb H1.out.s0, kept_cell hb H1.out.s1⟩
    have E1 : Hid (∀ v, Below u1.heap.size u1 v → Bld u1.heap.size ⟨#[]⟩ v → ub.heap.size ≤ v.heap.size → Calls Tryd.prog 30 #[.int .i64 S] v fun e w' => e = .returned (.string g1) ∧ Below u1.heap.size u1 w' ∧ Bld u1.heap.size ⟨#[]⟩ w' ∧ ub.heap.size ≤ w'.heap.size) := fun v hb hl hs => (D1.out v (HP1.out.below hb)).mono fun _ _ ⟨h1, h2⟩ => ⟨h1, below_up hb h2, bld_below hl h2, Nat.le_trans hs h2.size⟩
    have E2 : Hid (∀ v, Below u1.heap.size u1 v → Bld u1.heap.size ⟨#[]⟩ v → ub.heap.size ≤ v.heap.size → Calls Tryd.prog 30 #[.int .i64 R] v fun e w' => e = .returned (.string g2) ∧ Below u1.heap.size u1 w' ∧ Bld u1.heap.size ⟨#[]⟩ w' ∧ ub.heap.size ≤ w'.heap.size) := fun v hb hl hs => (D2.out v (HP1.out.below hb)).mono fun _ _ ⟨h1, h2⟩ => ⟨h1, below_up hb h2, bld_below hl h2, Nat.le_trans hs h2.size⟩
    have E3 : Hid (∀ v, Below u1.heap.size u1 v → Bld u1.heap.size ⟨#[]⟩ v → ub.heap.size ≤ v.heap.size → Calls Tryd.prog 29 #[.pointer (some ⟨u1.heap.size, 0, none⟩), .string s4] v fun e w' => ∃ z, e = .returned z ∧ Below u1.heap.size u1 w' ∧ Bld u1.heap.size s4 w') := fun v hb hl hs => (bld_text hl s4 (by have := HS4.out; show 0 + s4.size ≤ _; omega) (by have := SZ.out; omega)).mono fun _ _ ⟨z, h1, h2, h3⟩ => ⟨z, h1, below_at hb h3, by rwa [show (⟨#[]⟩ : ByteArray) ++ s4 = s4 from ba_nil_add s4] at h2⟩
    have a1 := A1.out
    have a2 := A2.out
    have a3 := A3.out
    have a4 := A4.out
    have hgg : ub.heap.size ≤ ub.heap.size := Nat.le_refl _
    go_cut [3] from 9 to 20 (fun u wx => u = .pointer (some ⟨u1.heap.size, 0, none⟩) ∧ Hid (Below u1.heap.size u1 wx) ∧ Hid (Bld u1.heap.size s4 wx))
    case first =>
      go_region_held3 (fun v => Below u1.heap.size u1 v ∧ v.cell? ⟨w.heap.size, 0, none⟩ = some (.int .i64 S) ∧ v.cell? ⟨w.heap.size, 1, none⟩ = some (.int .i64 R)) (exact MK.out _ (by repeat (first | (with_reducible assumption) | refine bw_drew ?_))) (first
        | (go_at_call 30; (with_reducible refine (E1.out _ (by repeat (first | (with_reducible assumption) | refine bw_drew ?_)) (by repeat (first | (with_reducible assumption) | refine bld_drew ?_)) (by repeat (first | (with_reducible assumption) | refine sz_drew ?_))).mono ?_); rintro e wx ⟨rfl, bx, lx, sx⟩)
        | (go_at_call 30; (with_reducible refine (E2.out _ (by repeat (first | (with_reducible assumption) | refine bw_drew ?_)) (by repeat (first | (with_reducible assumption) | refine bld_drew ?_)) (by repeat (first | (with_reducible assumption) | refine sz_drew ?_))).mono ?_); rintro e wx ⟨rfl, bx, lx, sx⟩)
        | (go_at_call 29; (with_reducible refine (E3.out _ (by repeat (first | (with_reducible assumption) | refine bw_drew ?_)) (by repeat (first | (with_reducible assumption) | refine bld_drew ?_)) (by repeat (first | (with_reducible assumption) | refine sz_drew ?_))).mono ?_); rintro e wx ⟨z, rfl, bx, lx⟩))
      all_goals
        go_wp2_with fail
        go_meet
        exact ⟨rfl, Lib.hid (by with_reducible assumption), Lib.hid (by with_reducible assumption)⟩
    case rest =>
      obtain ⟨rfl, HB2, HB3⟩ := hcut
      clear MK E1 E2 E3 D1 D2 A1 A2 A3 A4 a1 a2 a3 a4 hlb hbb hgg SZ
      have H2 := Lib.hid (H1.out.below HB2.out)
      obtain ⟨_, c0, c1, c2⟩ := H2.out
      have LB := Lib.hid (le_lit HB3.out)
      go_wp2_with fail
      go_loopw [23] (fun u wr => ∃ (k : Nat), k ≤ n ∧ u = .int .i64 k ∧ Hid (Below u1.heap.size u1 wr) ∧ Hid (Bld u1.heap.size (printRun s4 ((L.map TV.tk).take k)) wr) ∧ Hid (u1.heap.size < wr.heap.size)) (fun u _ => (n - intOf u).toNat)
      case atStart => exact ⟨0, by omega, rfl, HB2, HB3, LB⟩
      case round =>
        obtain ⟨k, hk, rfl, HQ, HW, HZ⟩ := hrel
        clear HB2 HB3 LB H2
        have HP := Lib.hid (H1.out.below HQ.out)
        obtain ⟨_, q0, q1, q2⟩ := HP.out
        by_cases hlt : k < n
        · obtain ⟨x, hx⟩ := nth_of HA.out.len hlt
          obtain ⟨g, o, rfl, ⟨c0, c1, c2, c3, c4, c5, c6⟩⟩ := (HA.out.view.below HP.out.low).at_ hx
          have hk1 : (k : Int) < (n : Int) := by omega
          have hk0 : (0 : Int) ≤ (k : Int) := by omega
          obtain ⟨X, hX⟩ : ∃ X, printRun s4 ((L.map TV.tk).take k) = X := ⟨_, rfl⟩
          obtain ⟨Y, hY⟩ : ∃ Y, lineText x.tk = Y := ⟨_, rfl⟩
          obtain ⟨m1, hm1⟩ : ∃ m, Y ++ sNl = m := ⟨_, rfl⟩
          have HNX : Hid (printRun s4 ((L.map TV.tk).take (k + 1)) = X ++ m1) := by
            show _ = _
            rw [run_next (t := x.tk) (by rw [List.getElem?_map, hx]; rfl), hX, hY, ByteArray.append_assoc, hm1]
          have hYs : Y.size ≤ 3400 := by rw [← hY]; exact line_size x
          have hXs : X.size ≤ s4.size + 3401 * k := by rw [← hX]; exact HRS.out k
          have hm1s : m1.size = Y.size + sNl.size := by rw [← hm1, ByteArray.size_append]
          have k1 : sNl.size = 1 := rfl
          have b1 := add_str Y sNl m1 hm1 (by omega)
          have HXM : Hid (X.size + m1.size ≤ 1000000000) := by show _ ≤ _; have := HS4.out; omega
          have CL : Hid (∀ v, Below wr.heap.size wr v → Calls Tryd.prog 31 #[x.val] v fun e w' => e = .returned (.string Y) ∧ Below v.heap.size v w') := fun v hb => by
            have := line_any x v (((HA.out.ok.at_ hx).below HP.out.low).below hb) (HPT.out.below (below_up HP.out.low hb))
            rwa [hY] at this
          unfold TV.val at CL
          rw [hX] at HW
          have CW : Hid (∀ v, Below wr.heap.size wr v → Calls Tryd.prog 29 #[.pointer (some ⟨u1.heap.size, 0, none⟩), .string m1] v fun e w' => ∃ z, e = .returned z ∧ Below u1.heap.size u1 w' ∧ Bld u1.heap.size (X ++ m1) w' ∧ u1.heap.size < w'.heap.size) := fun v hb => (bld_text (bld_below HW.out hb) m1 HXM.out (by have := HZ.out; have := hb.size; omega)).mono fun _ _ ⟨z, h1, h2, h3⟩ => ⟨z, h1, below_at (below_up HQ.out hb) h3, h2, by have := HZ.out; have := hb.size; have := h3.size; omega⟩
          clear hx hX hY hm1 hYs hXs hm1s k1
          go_wp2_with (first
            | (go_at_call 31; (with_reducible refine (CL.out _ (by repeat (first | exact Below.refl _ _ | (with_reducible assumption) | refine bw_alloc ?_ _ | refine bw_drew ?_))).mono ?_); rintro e w2 ⟨rfl, b2⟩; have HB2 := Lib.hid (below_up (by repeat (first | exact Below.refl _ _ | (with_reducible assumption) | refine bw_alloc ?_ _ | refine bw_drew ?_) : Below wr.heap.size wr _) b2); clear b2)
            | (go_at_call 29; (with_reducible refine (CW.out _ HB2.out).mono ?_); rintro e w3 ⟨z, rfl, b3, b4, b5⟩; have R3 := Lib.hid b3; have R4 := Lib.hid b4; have R5 := Lib.hid b5; clear b3 b4 b5))
          go_roundw
          case rel => exact ⟨k + 1, by omega, by go_num, R3, by rw [HNX.out]; exact R4, R5⟩
          case measure => simp [intOf]; omega
        · obtain rfl : n = k := by omega
          have HX : Hid (printRun s4 ((L.map TV.tk).take n) = printText S R (L.map TV.tk)) := by
            show _ = _
            rw [HL.out, List.take_of_length_le (by rw [List.length_map, HN.out]; exact Nat.le_refl _)]
          rw [HX.out] at HW
          have CS : Hid (Calls Tryd.prog 32 #[.pointer (some ⟨u1.heap.size, 0, none⟩)] wr fun e w' => e = .returned (.string (printText S R (L.map TV.tk))) ∧ Below w.heap.size w w') := (bld_string HW.out (by have := HZ.out; omega)).mono fun _ _ ⟨h1, h2⟩ => ⟨h1, H1.out.low.trans ((below_at HQ.out h2).mono H1.out.low.size)⟩
          go_wp2_with (go_at_call 32; (with_reducible refine CS.out.mono ?_); rintro e w3 ⟨rfl, b3⟩)
          go_ret
          exact ⟨rfl, b3⟩
end Go.Proofs.YtlpffgmfgkleiaaDoor

/-
  The walk over the law of what was read: it is right, and is printed and read again, the same.
-/
namespace Go.Proofs.YtlpffgmfgkleiaaDoor
open Go.RowKit Go.Maps

theorem out_wrong {s : ByteArray} {p e : Int} (h : parseOf s = .error (p, e)) : outOf s = ⟨0, 0, [], p, e⟩ := by unfold outOf; rw [h]
theorem out_right {s : ByteArray} {S R : Nat} {l : List Tk} (h : parseOf s = .ok (S, R, l)) : outOf s = ⟨S, R, l, s.size, 0⟩ := by unfold outOf; rw [h]
/-- The printed text of what was read is read again. -/
theorem again {s : ByteArray} {S R : Nat} {l : List Tk} (h : parseOf s = .ok (S, R, l)) : outOf (printText S R l) = ⟨S, R, l, (printText S R l).size, 0⟩ := by
  obtain ⟨_, _, _, _, _, _, hc, _⟩ := parse_parts h
  have := parse_print hc
  simp only [Int.toNat_natCast] at this
  exact out_right this
/-- Parse, where it finds something wrong, and where it does not. -/
def BadIs (p e : Int) (w : World) (y : Ending) (w' : World) : Prop := ∃ (a : Option Addr) (c : Nat), y = .returned (.tuple #[.agg #[.int .i64 0, .int .i64 0, .slice a 0 c], .int .i64 p, .int .i64 e]) ∧ Below w.heap.size w w'
def GoodIs (S R : Int) (l : List Tk) (z : Int) (w : World) (y : Ending) (w' : World) : Prop := ∃ (a : Option Addr) (n c : Nat) (L : List TV), y = .returned (.tuple #[.agg #[.int .i64 S, .int .i64 R, .slice a n c], .int .i64 z, .int .i64 0]) ∧ Tasks w' a n c L ∧ L.map TV.tk = l ∧ (∀ x ∈ L, I64 x.p ∧ I64 x.id) ∧ Below w.heap.size w w'
theorem parse_bad {s : ByteArray} {p e : Int} (h : outOf s = ⟨0, 0, [], p, e⟩) (hs : s.size ≤ 900000) (w : World) : Calls Tryd.prog 12 #[.string s] w (BadIs p e w) := by
  have := parse_any s hs w
  unfold TryIs at this
  rw [h] at this
  refine this.mono fun y w' ⟨a, n, c, h1, h2, h3⟩ => ?_
  obtain ⟨L, hL, hT, -⟩ := h2.open_
  obtain rfl : L = [] := List.map_eq_nil_iff.1 hL
  obtain rfl : 0 = n := hT.len
  exact ⟨a, c, h1, h3⟩
theorem parse_good {s : ByteArray} {S R : Int} {l : List Tk} {z : Int} (h : outOf s = ⟨S, R, l, z, 0⟩) (hs : s.size ≤ 900000) (w : World) : Calls Tryd.prog 12 #[.string s] w (GoodIs S R l z w) := by
  have := parse_any s hs w
  unfold TryIs at this
  rw [h] at this
  refine this.mono fun y w' ⟨a, n, c, h1, h2, h3⟩ => ?_
  obtain ⟨L, hL, hT, hI⟩ := h2.open_
  exact ⟨a, n, c, L, h1, hT, hL, hI, h3⟩
/-- A system in a box, with its tasks. -/
structure SysIn (w : World) (g : Nat) (S R : Int) (a : Option Addr) (n c : Nat) (L : List TV) (v : World) : Prop where
  low : Below w.heap.size w v
  box : Box v g SysT #[.int .i64 S, .int .i64 R, .slice a n c]
  tasks : Tasks v a n c L
theorem SysIn.below {w v v' : World} {g : Nat} {S R : Int} {a : Option Addr} {n c : Nat} {L : List TV} (h : SysIn w g S R a n c L v) (hb : Below v.heap.size v v') : SysIn w g S R a n c L v' := ⟨below_up h.low hb, kept_obj hb h.box, h.tasks.below hb⟩
theorem sysIn_new {w v : World} {S R : Int} {a : Option Addr} {n c : Nat} {L : List TV} (h : Below w.heap.size w v) (k : Tasks v a n c L) : SysIn w v.heap.size S R a n c L (v.alloc (.cells #[.int .i64 S, .int .i64 R, .slice a n c] SysT)) := ⟨bw_alloc h _, heap_alloc_new v _, k.below (bw_alloc (Below.refl _ _) _)⟩
theorem SysIn.c0 {w v : World} {g : Nat} {S R : Int} {a : Option Addr} {n c : Nat} {L : List TV} (h : SysIn w g S R a n c L v) : v.cell? ⟨g, 0, none⟩ = some (.int .i64 S) := blk_cell h.box 0
theorem SysIn.c1 {w v : World} {g : Nat} {S R : Int} {a : Option Addr} {n c : Nat} {L : List TV} (h : SysIn w g S R a n c L v) : v.cell? ⟨g, 1, none⟩ = some (.int .i64 R) := blk_cell h.box 1
theorem SysIn.c2 {w v : World} {g : Nat} {S R : Int} {a : Option Addr} {n c : Nat} {L : List TV} (h : SysIn w g S R a n c L v) : v.cell? ⟨g, 2, none⟩ = some (.slice a n c) := blk_cell h.box 2

set_option maxRecDepth 100000 in
set_option maxHeartbeats 8000000 in
theorem law_right (w : World) (hT : PT w) (s : ByteArray) :
    Calls Tryd.prog 5 #[.string s] w fun e w' => e = .returned (.bool true) ∧ Below w.heap.size w w' := by
  have HPT : Hid (PT w) := hT
  obtain ⟨s1, hs1⟩ : ∃ t, shortOf s 200 = t := ⟨_, rfl⟩
  have hs1s : s1.size ≤ 200 := by
    rw [← hs1]; unfold shortOf
    split
    · rw [ByteArray.size_extract]; omega
    · omega
  have SH : Hid (∀ v, Calls Tryd.prog 9 #[.string s, .int .i64 200] v fun e w' => e = .returned (.string s1) ∧ v = w') := fun v => by have := short_any s 200 (by omega) v; rwa [hs1] at this
  clear hs1 hT
  obtain ⟨N, hN⟩ : ∃ N, s1.size = N := ⟨_, rfl⟩
  rcases hq : parseOf s1 with ⟨p, e⟩ | ⟨S, R, l⟩
  · obtain ⟨he, hp0, hp1⟩ := parse_err (by omega) hq
    rw [hN] at hp1
    have C1 : Hid (∀ v, Calls Tryd.prog 12 #[.string s1] v (BadIs p e v)) := fun v => parse_bad (out_wrong hq) (by omega) v
    have d1 : (e == 0) = false := by rw [beq_eq_false_iff_ne]; exact he
    have d2 : (e != 0) = true := by rw [bne, d1]; rfl
    clear hq he hs1s
    go_enter Tryd.func5, Tryd.ntmps5
    go_upto_region 4 with (first
      | (go_at_call 8; (with_reducible refine ((awake_any _).mono ?_)); rintro e u1 ⟨rfl, b1⟩; have B1 := Lib.hid b1; clear b1)
      | (go_at_call 9; (with_reducible refine (SH.out _).mono ?_); rintro e u2 ⟨rfl, rfl⟩)
      | (go_at_call 12; (with_reducible refine (C1.out _).mono ?_); rintro y u2 ⟨a2, c2, rfl, b2⟩; have B2 := Lib.hid (below_up B1.out b2); clear b2))
    refine gen_world (fun v => Below w.heap.size w v ∧ Box v u2.heap.size SysT #[.int .i64 0, .int .i64 0, .slice a2 0 c2]) ⟨bw_alloc B2.out _, heap_alloc_new u2 _⟩ ?_
    intro u3 ⟨hb3, hx3⟩
    have B3 := Lib.hid hb3
    have q0 : u3.cell? ⟨u2.heap.size, 0, none⟩ = some (.int .i64 0) := blk_cell hx3 0
    have q1 : u3.cell? ⟨u2.heap.size, 1, none⟩ = some (.int .i64 0) := blk_cell hx3 1
    have q2 : u3.cell? ⟨u2.heap.size, 2, none⟩ = some (.slice a2 0 c2) := blk_cell hx3 2
    clear hb3 hx3
    go_wp2_with fail
    go_ret
    exact ⟨rfl, B3.out⟩
  · obtain ⟨_, _, _, _, _, _, hck, _⟩ := parse_parts hq
    obtain ⟨T, hTx⟩ : ∃ T, printText (S : Int) (R : Int) l = T := ⟨_, rfl⟩
    have hag := again hq
    rw [hTx] at hag
    have C1 : Hid (∀ v, Calls Tryd.prog 12 #[.string s1] v (GoodIs S R l N v)) := fun v => parse_good (by rw [out_right hq, hN]) (by omega) v
    clear hq hs1s
    go_enter Tryd.func5, Tryd.ntmps5
    go_upto_region 4 with (first
      | (go_at_call 8; (with_reducible refine ((awake_any _).mono ?_)); rintro e u1 ⟨rfl, b1⟩; have B1 := Lib.hid b1; clear b1)
      | (go_at_call 9; (with_reducible refine (SH.out _).mono ?_); rintro e u2 ⟨rfl, rfl⟩)
      | (go_at_call 12; (with_reducible refine (C1.out _).mono ?_); rintro y u2 ⟨a2, n2, c2, L, rfl, t2, hL, hI, b2⟩; have B2 := Lib.hid (below_up B1.out b2); clear b2))
    have hps := print_size (S : Int) (R : Int) L
    rw [hL, hTx] at hps
    have X2 := Lib.hid (sysIn_new (w := w) (S := (S : Int)) (R := (R : Int)) B2.out t2)
    refine gen_world (SysIn w u2.heap.size S R a2 n2 c2 L) X2.out ?_
    intro u3 hx3
    have X3 := Lib.hid hx3
    have q0 := hx3.c0
    have q1 := hx3.c1
    have q2 := hx3.c2
    have HI := Lib.hid hI
    have HL := Lib.hid hL
    have CP : Hid (Calls Tryd.prog 15 #[.agg #[.int .i64 S, .int .i64 R, .slice a2 n2 c2]] u3 fun e w' => e = .returned (.string T) ∧ Below u3.heap.size u3 w') := by
      have := print_any (S : Int) (R : Int) hx3.tasks hI (HPT.out.below hx3.low)
      rwa [hL, hTx] at this
    have C2 : Hid (∀ v, Calls Tryd.prog 12 #[.string T] v (GoodIs S R l T.size v)) := fun v => parse_good hag (by omega) v
    have HCK := Lib.hid hck
    clear X2 hx3 t2 hL hI hps hag hck hTx C1 SH B1 B2 HPT
    go_upto_region 7 with (first
      | (go_at_call 15; (with_reducible refine (CP.out).mono ?_); rintro e u4 ⟨rfl, b4⟩; have X4 := Lib.hid (X3.out.below b4); clear b4)
      | (go_at_call 12; (with_reducible refine (C2.out _).mono ?_); rintro y u5 ⟨a5, n5, c5, M, rfl, t5, hM, -, b5⟩; have X5 := Lib.hid (X4.out.below b5); have T5 := Lib.hid t5; have HM := Lib.hid hM; clear b5 t5 hM))
    clear CP C2 X3 X4 q0 q1 q2
    have X6 := Lib.hid (X5.out.below (bw_alloc (Below.refl _ _) (.cells #[.int .i64 S, .int .i64 R, .slice a5 n5 c5] SysT)))
    have Y6 := Lib.hid (sysIn_new (w := w) (S := (S : Int)) (R := (R : Int)) X5.out.low T5.out)
    refine gen_world (fun v => SysIn w u2.heap.size S R a2 n2 c2 L v ∧ SysIn w u5.heap.size S R a5 n5 c5 M v) ⟨X6.out, Y6.out⟩ ?_
    intro u6 ⟨x6, y6⟩
    have X7 := Lib.hid x6
    have SS : Hid (Calls Tryd.prog 14 #[.agg #[.int .i64 S, .int .i64 R, .slice a2 n2 c2], .agg #[.int .i64 S, .int .i64 R, .slice a5 n5 c5]] u6 fun e w' => e = .returned (.bool true) ∧ Below u6.heap.size u6 w') := by
      have := rsame_sys (S : Int) (R : Int) x6.tasks y6.tasks
      rwa [decide_eq_true (HL.out.trans HM.out.symm)] at this
    have q0 := x6.c0
    have q1 := x6.c1
    have q2 := x6.c2
    have r0 := y6.c0
    have r1 := y6.c1
    have r2 := y6.c2
    clear X5 X6 Y6 T5 HM x6 y6
    go_upto_region 8 with (go_at_call 14; (with_reducible refine (SS.out).mono ?_); rintro e u7 ⟨rfl, b7⟩; have X8 := Lib.hid (X7.out.below b7); clear b7)
    clear q0 q1 q2 r0 r1 r2 SS X7
    have q0 := X8.out.c0
    have q1 := X8.out.c1
    have q2 := X8.out.c2
    have CK : Hid (∀ v, Below u7.heap.size u7 v → Calls Tryd.prog 16 #[.agg #[.int .i64 S, .int .i64 R, .slice a2 n2 c2]] v fun e w' => e = .returned (.int .i64 0) ∧ Below w.heap.size w w') := fun v hb => by
      have := rcheck_any (S : Int) (R : Int) (X8.out.tasks.below hb)
      rw [check_tk, HL.out, HCK.out] at this
      exact this.mono fun _ _ ⟨h1, h2⟩ => ⟨h1, below_up (below_up X8.out.low hb) h2⟩
    go_wp2_with (go_at_call 16; (with_reducible refine (CK.out _ (Below.refl _ _)).mono ?_); rintro e u8 ⟨rfl, b8⟩)
    go_ret
    exact ⟨rfl, b8⟩
end Go.Proofs.YtlpffgmfgkleiaaDoor

/-
  The walk over the law of what was printed: it is read, the same; with notes, blanks and empty lines between, too.
-/
namespace Go.Proofs.YtlpffgmfgkleiaaDoor
open Go.RowKit Go.Maps

theorem small_ints {s r : Int} {L : List TV} (h : checkOf s r L = 0) : ∀ x ∈ L, I64 x.p ∧ I64 x.id := fun x hx => by
  have q := check_pass h
  have z := small_of (q.all x hx) q.s.2
  have z1 := z.id
  have z2 := z.p
  unfold I64
  omega
/-- A system by plain numbers, and its text. -/
theorem MadeBack.text {w w' : World} {e : Ending} (h : MadeBack w e w') : ∃ (s r : Int) (a : Option Addr) (n c : Nat) (L : List TV) (T : ByteArray), e = .returned (.agg #[.int .i64 s, .int .i64 r, .slice a n c]) ∧ Tasks w' a n c L ∧ printText s r (L.map TV.tk) = T ∧ 0 < T.size ∧ T.size ≤ 30000 ∧ parseOf T = .ok (s.toNat, r.toNat, L.map TV.tk) ∧ (∀ x ∈ L, I64 x.p ∧ I64 x.id) ∧ checkOf s r L = 0 ∧ Below w.heap.size w w' := by
  obtain ⟨s, r, a, n, c, L, he, ho, hok, -, hm, hb⟩ := h
  obtain ⟨a2, cap2, e2, hv, hl2, hmx⟩ := ho.slice
  cases e2
  have hck := check_made hm
  have hct : checkT s r (L.map TV.tk) = 0 := by rw [← check_tk]; exact hck
  refine ⟨s, r, a, _, c, L, _, he, ⟨rfl, hv, hok, hl2, hmx⟩, rfl, print_pos hck, ?_, parse_print hct, small_ints hck, hck, hb⟩
  rw [print_tk, if_pos hck]
  have h1 := run_size (headText s r) L L.length
  rw [List.take_of_length_le (by rw [List.length_map]; omega)] at h1
  have h2 : (headText s r).size ≤ 60 := by
    unfold headText
    have q := check_pass hck
    have z1 := digOf_size s (by have := q.s; unfold I64; omega)
    have z2 := digOf_size r (by have := q.r; unfold I64; omega)
    simp only [ByteArray.size_append]
    have k1 : sCache.size = 6 := rfl
    have k2 : sSp.size = 1 := rfl
    have k3 : sNl.size = 1 := rfl
    omega
  have := hm.six
  omega
theorem alt_size (t : ByteArray) : ∀ i, (altTo t i).size ≤ 13 * i
  | 0 => Nat.le_refl _
  | i + 1 => by
    have ih := alt_size t i
    have h1 : (repOf (byteAt t i)).size ≤ 10 := by
      unfold repOf
      rw [ByteArray.size_append]
      have k1 : sNote.size = 9 := rfl
      have k2 : sTab.size = 1 := rfl
      have k3 : noB.size = 0 := rfl
      split <;> split <;> omega
    have h2 : (repEnd (byteAt t i)).size ≤ 2 := by
      unfold repEnd
      have k1 : sBlank.size = 2 := rfl
      have k3 : noB.size = 0 := rfl
      split <;> omega
    rw [altTo, ByteArray.size_append, ByteArray.size_append, ByteArray.size_append]
    show _ + _ + 1 + _ ≤ _
    omega
theorem alt_nl {t : ByteArray} {i : Nat} (h : byteAt t i = 10) : altTo t (i + 1) = altTo t i ++ sNote ++ ⟨#[UInt8.ofNat 10]⟩ ++ sBlank := by
  rw [altTo, h, show repOf 10 = sNote from ba_add_nil _, show repEnd 10 = sBlank from rfl]
theorem alt_sp {t : ByteArray} {i : Nat} (h : byteAt t i = 32) : altTo t (i + 1) = altTo t i ++ sTab ++ ⟨#[UInt8.ofNat 32]⟩ := by
  rw [altTo, h, show repOf 32 = sTab from ba_nil_add _, show repEnd 32 = ByteArray.empty from rfl, ba_add_nil]
theorem alt_in {t : ByteArray} {i : Nat} (h : byteAt t i ≠ 10) (h2 : byteAt t i ≠ 32) : altTo t (i + 1) = altTo t i ++ ⟨#[UInt8.ofNat (byteAt t i)]⟩ := by
  rw [altTo, show repOf (byteAt t i) = ByteArray.empty by unfold repOf; rw [if_neg h, if_neg h2]; exact ba_nil_add _, show repEnd (byteAt t i) = ByteArray.empty by unfold repEnd; rw [if_neg h]; rfl, ba_add_nil, ba_add_nil]

set_option maxRecDepth 100000 in
set_option maxHeartbeats 8000000 in
theorem law_back (w : World) (hT : PT w) (S R : Int) (a : Option Addr) (n cap : Nat) (L : List NV) (hn : Nums w a n cap L) :
    Calls Tryd.prog 4 #[.agg #[.int .i64 S, .int .i64 R, .slice a n cap]] w fun e w' => e = .returned (.bool true) ∧ Below w.heap.size w w' := by
  have HPT : Hid (PT w) := hT
  have MK : Hid (∀ v, Below w.heap.size w v → Calls Tryd.prog 11 #[.agg #[.int .i64 S, .int .i64 R, .slice a n cap]] v (MadeBack v)) := fun v hb => made5_any S R (hn.below hb)
  clear hn hT
  go_enter Tryd.func4, Tryd.ntmps4
  go_upto_region 1 with fail
  refine gen_world (fun v => Below w.heap.size w v ∧ Box v w.heap.size 24 #[.int .i64 S, .int .i64 R, .slice a n cap]) ⟨bw_alloc (Below.refl _ _) _, heap_alloc_new w _⟩ ?_
  intro u0 ⟨hb0, x0⟩
  have B0 := Lib.hid hb0
  have X0 := Lib.hid x0
  clear hb0 x0
  go_upto_region 2 with (go_at_call 8; (with_reducible refine ((awake_any _).mono ?_)); rintro e u1 ⟨rfl, b1⟩; have X1 := Lib.hid (kept_obj b1 X0.out); have B1 := Lib.hid (below_up B0.out b1); clear b1)
  have n0 : u1.cell? ⟨w.heap.size, 0, none⟩ = some (.int .i64 S) := blk_cell X1.out 0
  have n1 : u1.cell? ⟨w.heap.size, 1, none⟩ = some (.int .i64 R) := blk_cell X1.out 1
  have n2 : u1.cell? ⟨w.heap.size, 2, none⟩ = some (.slice a n cap) := blk_cell X1.out 2
  clear X0 B0 X1
  go_upto_region 3 with (go_at_call 11; (with_reducible refine (MK.out _ B1.out).mono ?_); rintro y u2 hm; obtain ⟨s', r', a2, n2', c2, M, T, rfl, hT2, hPT2, hp, hz, hpa, hi, hck, b2⟩ := hm.text; have B2 := Lib.hid (below_up B1.out b2); have T2 := Lib.hid hT2; have HI := Lib.hid hi; have HPX := Lib.hid hPT2; have HPA := Lib.hid hpa; have HCK := Lib.hid hck; clear hT2 hPT2 hpa hi hck b2 hm)
  clear MK B1 n0 n1 n2
  have X2 := Lib.hid (sysIn_new (w := w) (S := s') (R := r') B2.out T2.out)
  refine gen_world (SysIn w u2.heap.size s' r' a2 n2' c2 M) X2.out ?_
  intro u3 hx3
  have X3 := Lib.hid hx3
  have q0 := hx3.c0
  have q1 := hx3.c1
  have q2 := hx3.c2
  have CP : Hid (Calls Tryd.prog 15 #[.agg #[.int .i64 s', .int .i64 r', .slice a2 n2' c2]] u3 fun e w' => e = .returned (.string T) ∧ Below u3.heap.size u3 w') := by
    have := print_any s' r' hx3.tasks HI.out (HPT.out.below hx3.low)
    rwa [HPX.out] at this
  obtain ⟨N, hN⟩ : ∃ N, T.size = N := ⟨_, rfl⟩
  have e1 : ((s'.toNat : Nat) : Int) = s' := Int.toNat_of_nonneg (check_pass HCK.out).s.1
  have e2 : ((r'.toNat : Nat) : Int) = r' := Int.toNat_of_nonneg (check_pass HCK.out).r.1
  have C1 : Hid (∀ v, Calls Tryd.prog 12 #[.string T] v (GoodIs s' r' (M.map TV.tk) N v)) := fun v => parse_good (by rw [out_right HPA.out, hN, e1, e2]) (by omega) v
  have hUz : (altTo T N).size ≤ 400000 := by have := alt_size T N; omega
  obtain ⟨U, hU⟩ : ∃ U, altTo T N = U := ⟨_, rfl⟩
  rw [hU] at hUz
  obtain ⟨K, hK⟩ : ∃ K, U.size = K := ⟨_, rfl⟩
  have C2 : Hid (∀ v, Calls Tryd.prog 12 #[.string U] v (GoodIs s' r' (M.map TV.tk) K v)) := fun v => parse_good (by
    have := parse_same (t := U) (by rw [← hU, ← hN]; exact (alt_lines T).symm) HPA.out
    rw [out_right this, hK, e1, e2]) (by omega) v
  clear X2 hx3 e1 e2 T2 HI HPX HPA HCK B2
  go_upto_region 5 with (first
    | (go_at_call 15; (with_reducible refine (CP.out).mono ?_); rintro e u4 ⟨rfl, b4⟩; have X4 := Lib.hid (X3.out.below b4); clear b4)
    | (go_at_call 12; (with_reducible refine (C1.out _).mono ?_); rintro y u5 ⟨a5, n5, c5, L5, rfl, t5, hM, -, b5⟩; have X5 := Lib.hid (X4.out.below b5); have T5 := Lib.hid t5; have HM := Lib.hid hM; clear b5 t5 hM))
  clear CP C1 X3 X4 q0 q1 q2
  have X6 := Lib.hid (X5.out.below (bw_alloc (Below.refl _ _) (.cells #[.int .i64 s', .int .i64 r', .slice a5 n5 c5] SysT)))
  have Y6 := Lib.hid (sysIn_new (w := w) (S := s') (R := r') X5.out.low T5.out)
  refine gen_world (fun v => SysIn w u2.heap.size s' r' a2 n2' c2 M v ∧ SysIn w u5.heap.size s' r' a5 n5 c5 L5 v) ⟨X6.out, Y6.out⟩ ?_
  intro u6 ⟨x6, y6⟩
  have X7 := Lib.hid x6
  have SS : Hid (Calls Tryd.prog 14 #[.agg #[.int .i64 s', .int .i64 r', .slice a5 n5 c5], .agg #[.int .i64 s', .int .i64 r', .slice a2 n2' c2]] u6 fun e w' => e = .returned (.bool true) ∧ Below u6.heap.size u6 w') := by
    have := rsame_sys s' r' y6.tasks x6.tasks
    rwa [decide_eq_true (HM.out)] at this
  have q0 := x6.c0
  have q1 := x6.c1
  have q2 := x6.c2
  have r0 := y6.c0
  have r1 := y6.c1
  have r2 := y6.c2
  clear X5 X6 Y6 T5 HM x6 y6
  go_upto_region 6 with (go_at_call 14; (with_reducible refine (SS.out).mono ?_); rintro e u7 ⟨rfl, b7⟩; have X8 := Lib.hid (X7.out.below b7); clear b7)
  clear q0 q1 q2 r0 r1 r2 SS X7
  go_wp2_with fail
  go_loopw [10, 11] (fun u i wr => ∃ (k : Nat), k ≤ N ∧ i = .int .i64 k ∧ u = .string (altTo T k) ∧ Hid (Below u7.heap.size u7 wr)) (fun _ i _ => (N - intOf i).toNat)
  case atStart => exact ⟨0, by omega, rfl, rfl, Lib.hid (Below.refl _ _)⟩
  case round =>
    obtain ⟨k, hk, rfl, rfl, HB⟩ := hrel
    by_cases hlt : k < N
    · have hkT : k < T.size := by omega
      have hk1 : (k : Int) < (T.size : Int) := by omega
      have hk0 : (0 : Int) ≤ (k : Int) := by omega
      have hbt := (byteAt_in T hkT).2
      have hxs := alt_size T k
      obtain ⟨X, hX⟩ : ∃ X, altTo T k = X := ⟨_, rfl⟩
      rw [hX] at hxs
      have hcv := conv_byte7 (T[k]'hkT).toNat (UInt8.toNat_lt _)
      have hue : UInt8.ofNat (T[k]'hkT).toNat = T[k]'hkT := by simp
      rw [hue] at hcv
      by_cases c1 : byteAt T k = 10
      · obtain ⟨m1, hm1⟩ : ∃ m, X ++ sNote = m := ⟨_, rfl⟩
        obtain ⟨m2, hm2⟩ : ∃ m, m1 ++ ⟨#[T[k]'hkT]⟩ = m := ⟨_, rfl⟩
        obtain ⟨m3, hm3⟩ : ∃ m, m2 ++ sBlank = m := ⟨_, rfl⟩
        have HN : Hid (altTo T (k + 1) = m3) := by show _ = _; rw [alt_nl c1, hX, hm1, ← c1, hbt, hue, hm2, hm3]
        have k1 : sNote.size = 9 := rfl
        have k2 : sBlank.size = 2 := rfl
        have k3 : (⟨#[T[k]'hkT]⟩ : ByteArray).size = 1 := rfl
        have z1 : m1.size = X.size + 9 := by rw [← hm1, ByteArray.size_append, k1]
        have z2 : m2.size = m1.size + 1 := by rw [← hm2, ByteArray.size_append, k3]
        have a1 := add_str X sNote m1 hm1 (by omega)
        have a2 := add_str m1 ⟨#[T[k]'hkT]⟩ m2 hm2 (by omega)
        have a3 := add_str m2 sBlank m3 hm3 (by omega)
        have d1 : (((T[k]'hkT).toNat : Int) == 10) = true := by rw [beq_iff_eq]; omega
        have d2 : (((T[k]'hkT).toNat : Int) == 32) = false := by rw [beq_eq_false_iff_ne]; omega
        rw [hX]
        clear hX hm1 hm2 hm3 k1 k2 k3 z1 z2 hxs c1 hbt hue
        go_wp2_with fail
        go_roundw
        case rel => exact ⟨k + 1, by omega, by go_num, by rw [HN.out], Lib.hid (below_up HB.out (by repeat (first | exact Below.refl _ _ | (with_reducible assumption) | refine bw_alloc ?_ _ | refine bw_drew ?_)))⟩
        case measure => simp [intOf]; omega
      by_cases c2 : byteAt T k = 32
      · obtain ⟨m1, hm1⟩ : ∃ m, X ++ sTab = m := ⟨_, rfl⟩
        obtain ⟨m2, hm2⟩ : ∃ m, m1 ++ ⟨#[T[k]'hkT]⟩ = m := ⟨_, rfl⟩
        have HN : Hid (altTo T (k + 1) = m2) := by show _ = _; rw [alt_sp c2, hX, hm1, ← c2, hbt, hue, hm2]
        have k1 : sTab.size = 1 := rfl
        have z1 : m1.size = X.size + 1 := by rw [← hm1, ByteArray.size_append, k1]
        have k3 : (⟨#[T[k]'hkT]⟩ : ByteArray).size = 1 := rfl
        have a1 := add_str X sTab m1 hm1 (by omega)
        have a2 := add_str m1 ⟨#[T[k]'hkT]⟩ m2 hm2 (by omega)
        have d1 : (((T[k]'hkT).toNat : Int) == 10) = false := by rw [beq_eq_false_iff_ne]; omega
        have d2 : (((T[k]'hkT).toNat : Int) == 32) = true := by rw [beq_iff_eq]; omega
        rw [hX]
        clear hX hm1 hm2 k1 k3 z1 hxs c1 c2 hbt hue
        go_wp2_with fail
        go_roundw
        case rel => exact ⟨k + 1, by omega, by go_num, by rw [HN.out], Lib.hid (below_up HB.out (by repeat (first | exact Below.refl _ _ | (with_reducible assumption) | refine bw_alloc ?_ _ | refine bw_drew ?_)))⟩
        case measure => simp [intOf]; omega
      · obtain ⟨m2, hm2⟩ : ∃ m, X ++ ⟨#[T[k]'hkT]⟩ = m := ⟨_, rfl⟩
        have HN : Hid (altTo T (k + 1) = m2) := by show _ = _; rw [alt_in c1 c2, hX, hbt, hue, hm2]
        have k3 : (⟨#[T[k]'hkT]⟩ : ByteArray).size = 1 := rfl
        have a2 := add_str X ⟨#[T[k]'hkT]⟩ m2 hm2 (by omega)
        have d1 : (((T[k]'hkT).toNat : Int) == 10) = false := by rw [beq_eq_false_iff_ne]; omega
        have d2 : (((T[k]'hkT).toNat : Int) == 32) = false := by rw [beq_eq_false_iff_ne]; omega
        rw [hX]
        clear hX hm2 k3 hxs c1 c2 hbt hue
        go_wp2_with fail
        go_roundw
        case rel => exact ⟨k + 1, by omega, by go_num, by rw [HN.out], Lib.hid (below_up HB.out (by repeat (first | exact Below.refl _ _ | (with_reducible assumption) | refine bw_alloc ?_ _ | refine bw_drew ?_)))⟩
        case measure => simp [intOf]; omega
    · obtain rfl : N = k := by omega
      rw [hU]
      have X9 := Lib.hid (X8.out.below HB.out)
      clear X8 HB hU
      have q0 := X9.out.c0
      have q1 := X9.out.c1
      have q2 := X9.out.c2
      go_upto_region 18 with (go_at_call 12; (with_reducible refine (C2.out _).mono ?_); rintro y u10 ⟨a10, n10, c10, L10, rfl, t10, hM, -, b10⟩; have X10 := Lib.hid (X9.out.below b10); have T10 := Lib.hid t10; have HM := Lib.hid hM; clear b10 t10 hM)
      clear X9 q0 q1 q2 C2
      have X11 := Lib.hid (X10.out.below (bw_alloc (Below.refl _ _) (.cells #[.int .i64 s', .int .i64 r', .slice a10 n10 c10] SysT)))
      have Y11 := Lib.hid (sysIn_new (w := w) (S := s') (R := r') X10.out.low T10.out)
      refine gen_world (fun v => SysIn w u2.heap.size s' r' a2 n2' c2 M v ∧ SysIn w u10.heap.size s' r' a10 n10 c10 L10 v) ⟨X11.out, Y11.out⟩ ?_
      intro u12 ⟨x6, y6⟩
      have X12 := Lib.hid x6
      have SS : Hid (Calls Tryd.prog 14 #[.agg #[.int .i64 s', .int .i64 r', .slice a10 n10 c10], .agg #[.int .i64 s', .int .i64 r', .slice a2 n2' c2]] u12 fun e w' => e = .returned (.bool true) ∧ Below u12.heap.size u12 w') := by
        have := rsame_sys s' r' y6.tasks x6.tasks
        rwa [decide_eq_true (HM.out)] at this
      have q0 := x6.c0
      have q1 := x6.c1
      have q2 := x6.c2
      have r0 := y6.c0
      have r1 := y6.c1
      have r2 := y6.c2
      have hes := nonempty T (by omega)
      have hne : T ≠ ⟨#[]⟩ := fun e => by rw [e] at hp; exact absurd hp (by decide)
      clear X10 X11 Y11 T10 HM x6 y6
      go_wp2_with (go_at_call 14; (with_reducible refine (SS.out).mono ?_); rintro e u13 ⟨rfl, b13⟩; have B13 := Lib.hid (below_up X12.out.low b13); clear b13)
      go_ret
      exact ⟨rfl, B13.out⟩
end Go.Proofs.YtlpffgmfgkleiaaDoor

/-
  The walk over the law of a system's text that is cut.
-/
namespace Go.Proofs.YtlpffgmfgkleiaaDoor
open Go.RowKit Go.Maps

theorem cut_two (T : ByteArray) {k : Nat} (h : k ≤ T.size) : T.extract 0 k ++ T.extract k T.size = T := by
  rw [ByteArray.extract_append_extract, Nat.min_eq_left (Nat.zero_le _), Nat.max_eq_right h, ByteArray.extract_zero_size]

set_option maxRecDepth 100000 in
set_option maxHeartbeats 8000000 in
theorem law_cuts (w : World) (hT : PT w) (S R : Int) (a : Option Addr) (n cap : Nat) (L : List NV) (hn : Nums w a n cap L) (at_ : Int) :
    Calls Tryd.prog 7 #[.agg #[.int .i64 S, .int .i64 R, .slice a n cap], .int .i64 at_] w fun e w' => e = .returned (.bool true) ∧ Below w.heap.size w w' := by
  have HPT : Hid (PT w) := hT
  have MK : Hid (∀ v, Below w.heap.size w v → Calls Tryd.prog 11 #[.agg #[.int .i64 S, .int .i64 R, .slice a n cap]] v (MadeBack v)) := fun v hb => made5_any S R (hn.below hb)
  clear hn hT
  go_enter Tryd.func7, Tryd.ntmps7
  go_upto_region 1 with fail
  refine gen_world (fun v => Below w.heap.size w v ∧ Box v w.heap.size 24 #[.int .i64 S, .int .i64 R, .slice a n cap]) ⟨bw_alloc (Below.refl _ _) _, heap_alloc_new w _⟩ ?_
  intro u0 ⟨hb0, x0⟩
  have B0 := Lib.hid hb0
  have X0 := Lib.hid x0
  clear hb0 x0
  go_upto_region 2 with (go_at_call 8; (with_reducible refine ((awake_any _).mono ?_)); rintro e u1 ⟨rfl, b1⟩; have X1 := Lib.hid (kept_obj b1 X0.out); have B1 := Lib.hid (below_up B0.out b1); clear b1)
  have n0 : u1.cell? ⟨w.heap.size, 0, none⟩ = some (.int .i64 S) := blk_cell X1.out 0
  have n1 : u1.cell? ⟨w.heap.size, 1, none⟩ = some (.int .i64 R) := blk_cell X1.out 1
  have n2 : u1.cell? ⟨w.heap.size, 2, none⟩ = some (.slice a n cap) := blk_cell X1.out 2
  clear X0 B0 X1
  go_upto_region 3 with (go_at_call 11; (with_reducible refine (MK.out _ B1.out).mono ?_); rintro y u2 hm; obtain ⟨s', r', a2, n2', c2, M, T, rfl, hT2, hPT2, hp, hz, hpa, hi, hck, b2⟩ := hm.text; have B2 := Lib.hid (below_up B1.out b2); have T2 := Lib.hid hT2; have HI := Lib.hid hi; have HPX := Lib.hid hPT2; have HPA := Lib.hid hpa; have HCK := Lib.hid hck; clear hT2 hPT2 hpa hi hck b2 hm)
  clear MK B1 n0 n1 n2
  have X2 := Lib.hid (sysIn_new (w := w) (S := s') (R := r') B2.out T2.out)
  refine gen_world (SysIn w u2.heap.size s' r' a2 n2' c2 M) X2.out ?_
  intro u3 hx3
  have X3 := Lib.hid hx3
  have q0 := hx3.c0
  have q1 := hx3.c1
  have q2 := hx3.c2
  have CP : Hid (Calls Tryd.prog 15 #[.agg #[.int .i64 s', .int .i64 r', .slice a2 n2' c2]] u3 fun e w' => e = .returned (.string T) ∧ Below u3.heap.size u3 w') := by
    have := print_any s' r' hx3.tasks HI.out (HPT.out.below hx3.low)
    rwa [HPX.out] at this
  obtain ⟨N, hN⟩ : ∃ N, T.size = N := ⟨_, rfl⟩
  rw [hN] at hp hz
  have e1 : ((s'.toNat : Nat) : Int) = s' := Int.toNat_of_nonneg (check_pass HCK.out).s.1
  obtain ⟨t, k, e2, f2, f3, f4, f5⟩ : ∃ (t : Int) (k : Nat), at_.tmod N = t ∧ -(N : Int) < t ∧ t < N ∧ (t + N) % N = (k : Int) ∧ k < N := by
    have a := Int.tmod_lt_of_pos at_ (show (0 : Int) < N by omega)
    have b := Int.lt_tmod_of_pos at_ (show (0 : Int) < N by omega)
    have c := Int.emod_nonneg (at_.tmod N + N) (show (N : Int) ≠ 0 by omega)
    have d := Int.emod_lt_of_pos (at_.tmod N + N) (show (0 : Int) < N by omega)
    exact ⟨at_.tmod N, ((at_.tmod N + N) % N).toNat, rfl, b, a, by omega, by omega⟩
  have w1 : IntKind.i64.wrap (t + (N : Int)) = t + N := IntWalk.i64_in _ (by omega)
  have w2 : (t + (N : Int)).tmod N = (k : Int) := by rw [Int.tmod_eq_emod_of_nonneg (by omega)]; exact f4
  have z1 : ((N : Int) == 0) = false := by rw [beq_eq_false_iff_ne]; omega
  have z2 : ¬ (N : Int) = 0 := by omega
  have z3 : ¬ N = 0 := by omega
  have k0 : (0 : Int) ≤ (k : Int) := by omega
  have k2 : (k : Int) ≤ (N : Int) := by omega
  have z9 := @IntKind.wrap_i64
  have HNT : Hid ((T.size : Int) = (N : Int)) := by show _ = _; rw [hN]
  clear X2 hx3 T2 HI HPX B2 f4
  go_upto_region 4 with (go_at_call 15; (with_reducible refine (CP.out).mono ?_); rintro e u4 ⟨rfl, b4⟩; have X4 := Lib.hid (X3.out.below b4); clear b4)
  clear CP X3 q0 q1 q2
  have q0 := X4.out.c0
  have q1 := X4.out.c1
  have q2 := X4.out.c2
  go_upto_region 7 with fail
  clear e2 w1 w2 z1 z2 f2 f3 z9
  obtain ⟨P, hP⟩ : ∃ P, T.extract 0 k = P := ⟨_, rfl⟩
  have hPk : P.size = k := by rw [← hP, ByteArray.size_extract]; omega
  have hPQ : P ++ T.extract k T.size = T := by rw [← hP]; exact cut_two T (by omega)
  rcases hq : parseOf P with ⟨p, e⟩ | ⟨S1, R1, l1⟩
  · obtain ⟨he, hp0, hp1⟩ := parse_err (by omega) hq
    rw [hPk] at hp1
    have C1 : Hid (∀ v, Calls Tryd.prog 12 #[.string P] v (BadIs p e v)) := fun v => parse_bad (out_wrong hq) (by omega) v
    have d1 : (e == 0) = false := by rw [beq_eq_false_iff_ne]; exact he
    have d2 : (e != 0) = true := by rw [bne, d1]; rfl
    have hNi : (T.size : Int) = (N : Int) := HNT.out
    clear hq he hPQ HPA
    go_wp2_with (go_at_call 12; (with_reducible refine (C1.out _).mono ?_); rintro y u5 ⟨a5, c5, rfl, b5⟩; have B5 := Lib.hid (below_up X4.out.low b5); clear b5)
    go_ret
    exact ⟨rfl, bw_alloc B5.out _⟩
  · obtain ⟨hS1, hl1, hl0⟩ := parse_cut (a := P) (b := T.extract k T.size) (by rw [hPQ]; exact HPA.out) hq
    obtain ⟨_, _, _, _, _, _, hck1, _⟩ := parse_parts hq
    have hS2 : (S1 : Int) = s' := by rw [hS1]; exact e1
    have hr := out_right hq
    rw [hS2, hPk] at hr
    rw [hS2] at hck1
    have C1 : Hid (∀ v, Calls Tryd.prog 12 #[.string P] v (GoodIs s' R1 l1 k v)) := fun v => parse_good hr (by omega) v
    have hNi : (T.size : Int) = (N : Int) := HNT.out
    have HC1 := Lib.hid hck1
    rw [List.length_map] at hl1
    clear hr hq hPQ HPA hS1 hS2 hck1
    have hMl : M.length = n2' := X4.out.tasks.len
    rw [hMl] at hl1
    clear hMl
    go_upto_region 8 with (go_at_call 12; (with_reducible refine (C1.out _).mono ?_); rintro y u5 ⟨a5, n5, c5, L5, rfl, t5, hM, -, b5⟩; have X5 := Lib.hid (X4.out.below b5); have T5 := Lib.hid t5; have HM := Lib.hid hM; have h5 : Hid (n5 = l1.length) := (by show _ = _; rw [← hM, List.length_map]; exact t5.len.symm); clear b5 t5 hM)
    clear C1 q0 q1 q2
    have h6 := h5.out
    have g1 : (1 : Int) ≤ (n5 : Int) := by omega
    have g2 : (n5 : Int) ≤ (n2' : Int) := by omega
    clear h6
    have X6 := Lib.hid (X5.out.below (bw_alloc (Below.refl _ _) (.cells #[.int .i64 s', .int .i64 R1, .slice a5 n5 c5] SysT)))
    have Y6 := Lib.hid (sysIn_new (w := w) (S := s') (R := (R1 : Int)) X5.out.low T5.out)
    refine gen_world (fun v => SysIn w u2.heap.size s' r' a2 n2' c2 M v ∧ SysIn w u5.heap.size s' R1 a5 n5 c5 L5 v) ⟨X6.out, Y6.out⟩ ?_
    intro u6 ⟨x6, y6⟩
    have Y7 := Lib.hid y6
    have CK : Hid (Calls Tryd.prog 16 #[.agg #[.int .i64 s', .int .i64 R1, .slice a5 n5 c5]] u6 fun e w' => e = .returned (.int .i64 0) ∧ Below w.heap.size w w') := by
      have := rcheck_any s' (R1 : Int) y6.tasks
      rw [check_tk, HM.out, HC1.out] at this
      exact this.mono fun _ _ ⟨h1, h2⟩ => ⟨h1, below_up y6.low h2⟩
    have q0 := x6.c0
    have q1 := x6.c1
    have q2 := x6.c2
    have r0 := y6.c0
    have r1 := y6.c1
    have r2 := y6.c2
    clear X5 X6 Y6 T5 HM x6 y6 X4 HC1 hl1 hl0 h5
    go_wp2_with (go_at_call 16; (with_reducible refine CK.out.mono ?_); rintro e u8 ⟨rfl, b8⟩)
    go_ret
    exact ⟨rfl, b8⟩
end Go.Proofs.YtlpffgmfgkleiaaDoor

/-
  The walk over the law of what stands behind a line that is wrong.
-/
namespace Go.Proofs.YtlpffgmfgkleiaaDoor
open Go.RowKit Go.Maps

abbrev wrong0 : ByteArray := ⟨#[116, 97, 115, 107, 32, 48, 32, 99, 61, 49, 32, 100, 61, 49, 32, 116, 61, 49, 32, 112, 61, 57, 57]⟩
abbrev wrong1 : ByteArray := ⟨#[116, 97, 115, 107, 32, 57, 56]⟩
abbrev wrong2 : ByteArray := ⟨#[116, 97, 115, 107, 32, 57, 56, 32, 99, 61, 49, 32, 100, 61, 49, 32, 116, 61, 49, 32, 112, 61, 57, 56, 32, 120]⟩
abbrev wrong3 : ByteArray := ⟨#[116, 97, 115, 107, 32, 57, 56, 32, 99, 61, 48, 49, 32, 100, 61, 49, 32, 116, 61, 49, 32, 112, 61, 57, 56]⟩
abbrev wrong4 : ByteArray := ⟨#[116, 97, 115, 107, 115, 32, 57, 56, 32, 99, 61, 49, 32, 100, 61, 49, 32, 116, 61, 49, 32, 112, 61, 57, 56]⟩
abbrev wrong5 : ByteArray := ⟨#[116, 97, 115, 107, 32, 57, 56, 32, 99, 61, 50, 32, 100, 61, 49, 32, 116, 61, 49, 32, 112, 61, 57, 56]⟩
/-- The lines that are wrong. -/
def wrongAt : Nat → ByteArray
  | 0 => wrong0
  | 1 => wrong1
  | 2 => wrong2
  | 3 => wrong3
  | 4 => wrong4
  | _ => wrong5
def wrongLine (b : ByteArray) : Bool := match linesOf b with
  | [W] => match lineOf W with
    | .error _ => true
    | .ok x => decide (rightOf x.tv 256 ≠ 0)
  | _ => false
theorem wrong_0 : wrongLine wrong0 = true := by kernel_rfl
theorem wrong_1 : wrongLine wrong1 = true := by kernel_rfl
theorem wrong_2 : wrongLine wrong2 = true := by kernel_rfl
theorem wrong_3 : wrongLine wrong3 = true := by kernel_rfl
theorem wrong_4 : wrongLine wrong4 = true := by kernel_rfl
theorem wrong_5 : wrongLine wrong5 = true := by kernel_rfl
theorem wrong_all : ∀ k, k < 6 → wrongLine (wrongAt k) = true ∧ (wrongAt k).size ≤ 40
  | 0, _ => ⟨wrong_0, by decide⟩
  | 1, _ => ⟨wrong_1, by decide⟩
  | 2, _ => ⟨wrong_2, by decide⟩
  | 3, _ => ⟨wrong_3, by decide⟩
  | 4, _ => ⟨wrong_4, by decide⟩
  | 5, _ => ⟨wrong_5, by decide⟩
  | k + 6, h => by omega
theorem wrong_line {b : ByteArray} (h : wrongLine b = true) : ∃ W, linesOf b = [W] ∧ ∀ x, lineOf W = .ok x → rightOf x.tv 256 ≠ 0 := by
  unfold wrongLine at h
  cases q : linesOf b with
  | nil => rw [q] at h; cases h
  | cons W L =>
    cases L with
    | cons V L => rw [q] at h; cases h
    | nil =>
      refine ⟨W, rfl, fun x hx => ?_⟩
      rw [q] at h
      simp only [] at h
      rw [hx] at h
      exact of_decide_eq_true h
theorem print_nl {s r : Int} {L : List TV} (h : checkOf s r L = 0) : ∃ T, printText s r (L.map TV.tk) = T ++ nl := by
  have q := check_pass h
  rw [print_tk, if_pos h]
  rcases List.eq_nil_or_concat (L.map TV.tk) with e | ⟨l, t, e⟩
  · have := congrArg List.length e
    rw [List.length_map] at this
    exact absurd (show L.length = 0 from this) (by have := q.pos; omega)
  · rw [e, List.concat_eq_append, run_snoc]
    exact ⟨_, rfl⟩
/-- A wrong line behind a system's text. -/
theorem text_first {T : ByteArray} {s r : Int} {L : List TV} {R1 R2 : Nat} (h : checkOf s r L = 0) (hT : printText s r (L.map TV.tk) = T) (hp : parseOf T = .ok (R1, R2, L.map TV.tk)) (hz : T.size ≤ 30000) {b : ByteArray} (hb : wrongLine b = true) (hb2 : b.size ≤ 40) :
    ∃ p e, e ≠ 0 ∧ (T.size : Int) ≤ p ∧ p ≤ ((T ++ b).size : Int) ∧ outOf (T ++ b) = ⟨0, 0, [], p, e⟩ ∧ ∀ rest, outOf (T ++ b ++ nl ++ rest) = ⟨0, 0, [], p, e⟩ := by
  obtain ⟨T', e1⟩ := print_nl h
  obtain rfl : T = T' ++ nl := hT.symm.trans e1
  obtain ⟨W, h1, h2⟩ := wrong_line hb
  obtain ⟨p, e, k1, k2, k3, k4, k5⟩ := parse_first hp h1 h2 (by rw [ByteArray.size_append]; omega)
  exact ⟨p, e, k1, k2, k3, out_wrong k4, fun rest => out_wrong (k5 rest)⟩

set_option maxRecDepth 100000 in
set_option maxHeartbeats 8000000 in
theorem law_first (w : World) (hT : PT w) (S R : Int) (a : Option Addr) (n cap : Nat) (L : List NV) (hn : Nums w a n cap L) (which : Int) (rest : ByteArray) :
    Calls Tryd.prog 6 #[.agg #[.int .i64 S, .int .i64 R, .slice a n cap], .int .i64 which, .string rest] w fun e w' => e = .returned (.bool true) ∧ Below w.heap.size w w' := by
  have HPT : Hid (PT w) := hT
  have MK : Hid (∀ v, Below w.heap.size w v → Calls Tryd.prog 11 #[.agg #[.int .i64 S, .int .i64 R, .slice a n cap]] v (MadeBack v)) := fun v hb => made5_any S R (hn.below hb)
  obtain ⟨r1, hr1⟩ : ∃ t, shortOf rest 40 = t := ⟨_, rfl⟩
  have hr1s : r1.size ≤ 40 := by
    rw [← hr1]; unfold shortOf
    split
    · rw [ByteArray.size_extract]; omega
    · omega
  have SH : Hid (∀ v, Calls Tryd.prog 9 #[.string rest, .int .i64 40] v fun e w' => e = .returned (.string r1) ∧ v = w') := fun v => by have := short_any rest 40 (by omega) v; rwa [hr1] at this
  obtain ⟨t, k, e2, f2, f3, f4, f5⟩ : ∃ (t : Int) (k : Nat), which.tmod 6 = t ∧ -6 < t ∧ t < 6 ∧ (t + 6) % 6 = (k : Int) ∧ k < 6 := by
    have a := Int.tmod_lt_of_pos which (show (0 : Int) < 6 by omega)
    have b := Int.lt_tmod_of_pos which (show (0 : Int) < 6 by omega)
    exact ⟨which.tmod 6, ((which.tmod 6 + 6) % 6).toNat, rfl, b, a, by omega, by omega⟩
  have w1 : IntKind.i64.wrap (t + 6) = t + 6 := IntWalk.i64_in _ (by omega)
  have w2 : (t + 6).tmod 6 = (k : Int) := by rw [Int.tmod_eq_emod_of_nonneg (by omega)]; exact f4
  have k0 : (0 : Int) ≤ (k : Int) := by omega
  have k1 : (k : Int) < 6 := by omega
  have z9 := @IntKind.wrap_i64
  obtain ⟨b, hb⟩ : ∃ b, wrongAt k = b := ⟨_, rfl⟩
  obtain ⟨hbw, hbs⟩ := wrong_all k f5
  rw [hb] at hbw hbs
  clear hn hT hr1 f4
  go_enter Tryd.func6, Tryd.ntmps6
  go_upto_region 1 with fail
  refine gen_world (fun v => Below w.heap.size w v ∧ Box v w.heap.size 24 #[.int .i64 S, .int .i64 R, .slice a n cap]) ⟨bw_alloc (Below.refl _ _) _, heap_alloc_new w _⟩ ?_
  intro u0 ⟨hb0, x0⟩
  have B0 := Lib.hid hb0
  have X0 := Lib.hid x0
  clear hb0 x0
  go_upto_region 3 with (go_at_call 8; (with_reducible refine ((awake_any _).mono ?_)); rintro e u1 ⟨rfl, b1⟩; have X1 := Lib.hid (kept_obj b1 X0.out); have B1 := Lib.hid (below_up B0.out b1); clear b1)
  have hcell : (u1.alloc (.cells #[.string wrong0, .string wrong1, .string wrong2, .string wrong3, .string wrong4, .string wrong5] 46)).cell? ⟨u1.heap.size, k, none⟩ = some (.string b) := by
    rw [World.cell?_alloc_new, ← hb]
    match k, f5 with
    | 0, _ => rfl
    | 1, _ => rfl
    | 2, _ => rfl
    | 3, _ => rfl
    | 4, _ => rfl
    | 5, _ => rfl
  have X2 := Lib.hid (kept_obj (bw_alloc (Below.refl _ _) (.cells #[.string wrong0, .string wrong1, .string wrong2, .string wrong3, .string wrong4, .string wrong5] 46) : Below u1.heap.size u1 _) X1.out)
  refine gen_world (fun v => Below w.heap.size w v ∧ Box v w.heap.size 24 #[.int .i64 S, .int .i64 R, .slice a n cap] ∧ v.cell? ⟨u1.heap.size, k, none⟩ = some (.string b)) ⟨bw_alloc B1.out _, X2.out, hcell⟩ ?_
  clear hcell X2 X1 B1 X0 B0
  intro v1 ⟨hb1, hx1, hc1⟩
  have B1 := Lib.hid hb1
  have Q1 := Lib.hid hc1
  have n0 : v1.cell? ⟨w.heap.size, 0, none⟩ = some (.int .i64 S) := blk_cell hx1 0
  have n1 : v1.cell? ⟨w.heap.size, 1, none⟩ = some (.int .i64 R) := blk_cell hx1 1
  have n2 : v1.cell? ⟨w.heap.size, 2, none⟩ = some (.slice a n cap) := blk_cell hx1 2
  clear hb1 hx1 hc1
  go_upto_region 4 with (first
    | (go_at_call 11; (with_reducible refine (MK.out _ B1.out).mono ?_); rintro y u2 hm; obtain ⟨s', r', a2, n2', c2, M, T, rfl, hT2, hPT2, hp, hz, hpa, hi, hck, b2⟩ := hm.text; have B2 := Lib.hid (below_up B1.out b2); have Q2 := Lib.hid (kept_cell b2 Q1.out); have CP : Hid (Calls Tryd.prog 15 #[.agg #[.int .i64 s', .int .i64 r', .slice a2 n2' c2]] u2 fun e w' => e = .returned (.string T) ∧ Below u2.heap.size u2 w') := (by rw [← hPT2]; exact print_any s' r' hT2 hi (HPT.out.below B2.out)); have HPX := Lib.hid hPT2; have HPA := Lib.hid hpa; have HCK := Lib.hid hck; clear hT2 hPT2 hpa hi hck b2 hm)
    | (go_at_call 15; (with_reducible refine (CP.out).mono ?_); rintro e u4 ⟨rfl, b4⟩; have B4 := Lib.hid (below_up B2.out b4); have q4 := kept_cell b4 Q2.out; clear b4))
  clear MK n0 n1 n2 B1 Q1 Q2 B2 CP
  obtain ⟨p, e, he, g1, g2, o1, o2⟩ := text_first HCK.out HPX.out HPA.out hz hbw hbs
  obtain ⟨A, hA⟩ : ∃ A, T ++ b = A := ⟨_, rfl⟩
  obtain ⟨A2, hA2⟩ : ∃ A2, A ++ ⟨#[10]⟩ = A2 := ⟨_, rfl⟩
  obtain ⟨A3, hA3⟩ : ∃ A3, A2 ++ r1 = A3 := ⟨_, rfl⟩
  have o3 := o2 r1
  rw [hA] at g2 o1 o3
  rw [show A ++ nl ++ r1 = A3 from by rw [← hA3, ← hA2]; rfl] at o3
  have k3 : (⟨#[10]⟩ : ByteArray).size = 1 := rfl
  have y1 : A.size = T.size + b.size := by rw [← hA, ByteArray.size_append]
  have y2 : A2.size = A.size + 1 := by rw [← hA2, ByteArray.size_append, k3]
  have y3 : A3.size = A2.size + r1.size := by rw [← hA3, ByteArray.size_append]
  have s1 := add_str T b A hA (by omega)
  have s2 := add_str A ⟨#[10]⟩ A2 hA2 (by omega)
  have s3 := add_str A2 r1 A3 hA3 (by omega)
  have C1 : Hid (∀ v, Calls Tryd.prog 12 #[.string A] v (BadIs p e v)) := fun v => parse_bad o1 (by omega) v
  have C2 : Hid (∀ v, Calls Tryd.prog 12 #[.string A3] v (BadIs p e v)) := fun v => parse_bad o3 (by omega) v
  have d1 : (e == 0) = false := by rw [beq_eq_false_iff_ne]; exact he
  have d2 : (e != 0) = true := by rw [bne, d1]; rfl
  have hes := nonempty T (by omega)
  have hne : T ≠ ⟨#[]⟩ := fun e => by rw [e] at hp; exact absurd hp (by decide)
  clear o1 o2 o3 hA hA2 hA3 y1 y2 y3 k3 he HPA HPX HCK hb hbw hbs hr1s
  go_upto_region 6 with (go_at_call 12; (with_reducible refine (C1.out _).mono ?_); rintro y u5 ⟨a5, c5, rfl, b5⟩; have B5 := Lib.hid (below_up B4.out b5); clear b5)
  refine gen_world (fun v => Below w.heap.size w v) (bw_alloc B5.out _) ?_
  intro u6 hb6
  have B6 := Lib.hid hb6
  clear hb6 B5 B4 q4 e2 w1 w2 f2 f3 k0 k1
  go_wp2_with (first
    | (go_at_call 9; (with_reducible refine (SH.out _).mono ?_); rintro e u7 ⟨rfl, rfl⟩)
    | (go_at_call 12; (with_reducible refine (C2.out _).mono ?_); rintro y u8 ⟨a8, c8, rfl, b8⟩; have B8 := Lib.hid (below_up B6.out b8); clear b8))
  go_ret
  exact ⟨rfl, bw_alloc B8.out _⟩
end Go.Proofs.YtlpffgmfgkleiaaDoor

/-
  What the listed variables hold where a call begins; a start at which they hold it.
-/
namespace Go.Proofs.YtlpffgmfgkleiaaDoor
open Go.ChangeShapes Go.WideShapes Go.ChangeAt Go.RowKit

theorem tiedOwn : ownKnob Tryd.prog.godebug = none := by kernel_rfl
theorem tiedLaidOut : laidOutB Tryd.prog = true := by kernel_rfl
theorem laidMet_tail {P : Program} {x : String × DataW Unit} {r : List (String × DataW Unit)} {w : World} (h : laidMet P (x :: r) w) : laidMet P r w := by
  obtain ⟨ps, hv, hn, hr⟩ := h
  obtain ⟨g, t, cs, fuel, p, q, h1, h2, h3, h4, h5, h6⟩ := hv
  subst h6
  exact ⟨q, h5, (List.nodup_append.1 hn).2.1, fun b off hp => hr b off (List.mem_append_right _ hp)⟩
theorem powName : Tryd.prog.globalNamed "internal/strconv.uint64pow10" = some 0 := by kernel_rfl
theorem powType : (Tryd.prog.globals[0]?).map (·.type) = some 164 := by kernel_rfl
theorem powCells1 : Tryd.prog.cellsOf 87 = 1 := by kernel_rfl
theorem powCells : Tryd.prog.cellsOf 164 = 20 := by kernel_rfl
theorem pt_of_met {r : List (String × DataW Unit)} {W : World} (h : laidMet Tryd.prog (("internal/strconv.uint64pow10", Rows.laid_internal_strconv_uint64pow10) :: r) W) : PT W :=
  Lib.tabIs_of_head powName powType Tryd.underlying164 Tryd.underlying87 powCells1 powCells h

abbrev tabLaid3 : List (String × DataW Unit) := [("math/bits.deBruijn32tab", Rows.laid_math_bits_deBruijn32tab), ("math/bits.deBruijn64tab", Rows.laid_math_bits_deBruijn64tab), ("internal/strconv.uint64pow10", Rows.laid_internal_strconv_uint64pow10)]
theorem door_met3 (os : Os) (args : Array Value) : laidMetH Tryd.prog tabLaid3 ((World.doorLaid Tryd.prog 400 os).forCall (fun _ _ => 0) ⟨#[], args, []⟩).memory :=
  laidMetH_of_parts3 (fuel := 8) (laidMet_of_run' 8 (by kernel_rfl) (by kernel_rfl)) (by kernel_rfl) (by kernel_rfl)
theorem pt_of_laid3 {W : World} (h : laidMetH Tryd.prog tabLaid3 W) : PT W := by
  rw [MakeChecks.laidMetH_plain _ _ _ (by kernel_rfl)] at h
  exact pt_of_met (laidMet_tail (laidMet_tail h))
end Go.Proofs.YtlpffgmfgkleiaaDoor

/-
  What the listed variables hold where a call begins, with two more tables; a start at which they hold it.
-/
namespace Go.Proofs.YtlpffgmfgkleiaaDoor
open Go.ChangeShapes Go.WideShapes Go.ChangeAt Go.RowKit

abbrev tabLaid5 : List (String × DataW Unit) := [("math/bits.deBruijn32tab", Rows.laid_math_bits_deBruijn32tab), ("math/bits.deBruijn64tab", Rows.laid_math_bits_deBruijn64tab), ("internal/strconv.uint64pow10", Rows.laid_internal_strconv_uint64pow10), ("unicode/utf8.acceptRanges", Rows.laid_unicode_utf8_acceptRanges), ("unicode/utf8.first", Rows.laid_unicode_utf8_first)]
theorem all_shaped5 (os : Os) : (World.laidAll Tryd.prog os tabLaid5).Shaped Tryd.prog := World.shaped_of_ZipB (by kernel_rfl) (by kernel_rfl)
theorem door_met5 (os : Os) (args : Array Value) : laidMetH Tryd.prog tabLaid5 ((World.laidAll Tryd.prog os tabLaid5).forCall (fun _ _ => 0) ⟨#[], args, []⟩).memory := by
  rw [MakeChecks.laidMetH_plain _ _ _ (by kernel_rfl)]
  exact laidMet_laidAll _ (by kernel_rfl) (by kernel_rfl)
theorem pt_of_laid5 {W : World} (h : laidMetH Tryd.prog tabLaid5 W) : PT W := by
  rw [MakeChecks.laidMetH_plain _ _ _ (by kernel_rfl)] at h
  exact pt_of_met (laidMet_tail (laidMet_tail h))
end Go.Proofs.YtlpffgmfgkleiaaDoor
