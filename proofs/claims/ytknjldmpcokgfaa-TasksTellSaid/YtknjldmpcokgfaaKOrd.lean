/-
  Made systems by priority: what the order says, in plain words.
-/
import Derived.Test.YtknjldmpcokgfaaKW26
import Derived.Test.YtknjldmpcokgfaaKChk
namespace Go.Proofs.Ytknjldmpcokgfaa
open Go.RowKit Go.Maps Go.Shelf

theorem made_small {s r : Int} {L : List TV} (h : Made s r L) : ∀ x ∈ L, (x.ch.length : Int) ≤ 1000000 ∧ (x.us.length : Int) ≤ 1000000 := by
  intro x hx
  obtain ⟨k, hk⟩ := List.mem_iff_getElem?.1 hx
  have g := h.good k x hk
  refine ⟨?_, by have := g.us5; omega⟩
  have := g.t24; have := g.c1; have := g.cd; have := g.dt
  rcases g.ch with e | e
  · rw [e]; simp
  · have := fill_len _ _ (by omega) e; omega
theorem made_dist {s r : Int} {L : List TV} (h : Made s r L) : (L.map TV.tk).Pairwise (fun x y => x.p ≠ y.p) := by
  rw [List.pairwise_map, List.pairwise_iff_getElem]
  intro i j hi hj hij
  have gi := (h.good i L[i] (by simp [hi])).pi
  have gj := (h.good j L[j] (by simp [hj])).pi
  have h6 := h.six
  show L[i].p ≠ L[j].p
  omega
theorem made_find {s r : Int} {L : List TV} (h : Made s r L) {t : Tk} (ht : t ∈ L.map TV.tk) : findTk (L.map TV.tk) t.id = some t := by
  obtain ⟨x, hx, rfl⟩ := List.mem_map.1 ht
  obtain ⟨k, hk⟩ := List.mem_iff_getElem?.1 hx
  refine told_some hk (decide_eq_true rfl) (fun j y hj hy => decide_eq_false ?_)
  have g1 := (h.good k x hk).id
  have g2 := (h.good j y hy).id
  show ¬ y.id = x.id
  omega
theorem made_nobody {s r : Int} {L : List TV} (h : Made s r L) : findTk (L.map TV.tk) 99 = none := by
  refine told_none (fun x hx => decide_eq_false ?_)
  obtain ⟨k, hk⟩ := List.mem_iff_getElem?.1 hx
  have hkl := (List.getElem?_eq_some_iff.1 hk).1
  have g := (h.good k x hk).id
  have := h.six
  omega
theorem ranks_strict {T K : List Tk} (h : Ranks T K) (hd : T.Pairwise (fun x y => x.p ≠ y.p)) : K.Pairwise (fun x y => x.p < y.p) := by
  have hk : K.Pairwise (fun x y => x.p ≠ y.p) := (h.1.pairwise_iff (fun {x y} (q : x.p ≠ y.p) => Ne.symm q)).2 hd
  exact (h.2.and hk).imp (fun {x y} q => by omega)
theorem ranks_same {T K K' : List Tk} (h : Ranks T K) (h' : Ranks T K') (hd : T.Pairwise (fun x y => x.p ≠ y.p)) : K = K' := by
  have hs := ranks_strict h hd
  refine List.Perm.eq_of_pairwise (le := fun x y => x.p ≤ y.p) ?_ h.2 h'.2 (h.1.trans h'.1.symm)
  intro a b ha hb h1 h2
  have hb' : b ∈ K := (h.1.trans h'.1.symm).mem_iff.2 hb
  obtain ⟨i, hi, rfl⟩ := List.mem_iff_getElem.1 ha
  obtain ⟨j, hj, rfl⟩ := List.mem_iff_getElem.1 hb'
  have hp := List.pairwise_iff_getElem.1 hs
  rcases Nat.lt_trichotomy i j with q | q | q
  · have := hp i j hi hj q; omega
  · subst q; rfl
  · have := hp j i hj hi q; omega
theorem ranks_take {K : List Tk} (hs : K.Pairwise (fun x y => x.p < y.p)) {i : Nat} {t : Tk} (ht : K[i]? = some t) : K.filter (fun x => decide (x.p < t.p)) = K.take i := by
  obtain ⟨hi, he⟩ := List.getElem?_eq_some_iff.1 ht
  have hp := List.pairwise_iff_getElem.1 hs
  have e : K.filter (fun x => decide (x.p < t.p)) = (K.take i).filter (fun x => decide (x.p < t.p)) ++ (K.drop i).filter (fun x => decide (x.p < t.p)) := by
    rw [← List.filter_append, List.take_append_drop]
  have e1 : (K.take i).filter (fun x => decide (x.p < t.p)) = K.take i := by
    rw [List.filter_eq_self]
    intro y hy
    obtain ⟨j, hj, rfl⟩ := List.mem_iff_getElem.1 hy
    simp only [List.length_take] at hj
    have := hp j i (by omega) hi (by omega)
    rw [he] at this
    simpa using this
  have e2 : (K.drop i).filter (fun x => decide (x.p < t.p)) = [] := by
    rw [List.filter_eq_nil_iff]
    intro y hy
    obtain ⟨j, hj, rfl⟩ := List.mem_iff_getElem.1 hy
    simp only [List.length_drop] at hj
    simp only [List.getElem_drop, decide_eq_true_eq]
    rcases Nat.eq_zero_or_pos j with q | q
    · subst q; simp only [Nat.add_zero]; rw [he]; omega
    · have := hp i (i + j) hi (by omega) (by omega)
      rw [he] at this; omega
  rw [e, e1, e2, List.append_nil]
theorem highs_take {s r : Int} {L : List TV} (h : Made s r L) {K H : List Tk} (hk : Ranks (L.map TV.tk) K) {i : Nat} {t : Tk} (ht : K[i]? = some t) (hh : Highs (L.map TV.tk) t.id H) : H = K.take i := by
  have hmem : t ∈ L.map TV.tk := hk.1.mem_iff.1 (List.mem_of_getElem? ht)
  have hf := made_find h hmem
  rcases hh with ⟨q, _⟩ | ⟨t', K', q, hr, rfl⟩
  · rw [hf] at q; cases q
  · rw [hf] at q; cases q
    rw [← ranks_same hk hr (made_dist h)]
    exact ranks_take (ranks_strict hk (made_dist h)) ht
theorem highs_same {T H H' : List Tk} {id : Int} (hd : T.Pairwise (fun x y => x.p ≠ y.p)) (h : Highs T id H) (h' : Highs T id H') : H = H' := by
  rcases h with ⟨q, rfl⟩ | ⟨t, K, q, hr, rfl⟩ <;> rcases h' with ⟨q', rfl⟩ | ⟨t', K', q', hr', rfl⟩
  · rfl
  · rw [q] at q'; cases q'
  · rw [q] at q'; cases q'
  · rw [q] at q'; cases q'
    rw [ranks_same hr hr' hd]
theorem Tasks.take {w : World} {a : Option Addr} {n c : Nat} {M : List TV} (h : Tasks w a n c M) {k : Nat} (hk : k ≤ n) : Tasks w a k c (M.take k) :=
  ⟨by rw [List.length_take, h.len]; omega, h.view.take k, h.ok.take k, by have := h.le; omega, h.small⟩
end Go.Proofs.Ytknjldmpcokgfaa
