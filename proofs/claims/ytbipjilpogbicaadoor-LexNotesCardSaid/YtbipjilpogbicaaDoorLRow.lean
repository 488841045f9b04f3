/-
  Rows of rows of words.
-/
import Derived.Test.YtbipjilpogbicaaDoorLMem
import Derived.OneCell
namespace Go.Proofs.YtbipjilpogbicaaDoor
open Go.RowKit Go.Maps

abbrev RTy : TypeId := 27
def OwnR (w : World) (B : Nat) (v : Value) (cs : List Value) : Prop := w.ownsRow B RTy 1 v cs.length cs
theorem OwnR.nil (w : World) (B : Nat) : OwnR w B (.slice none 0 0) [] := World.ownsRow_nil _ _ _ _
theorem OwnR.below {w w' : World} {B : Nat} {v : Value} {l : List Value} (h : OwnR w B v l) (hb : Below w.heap.size w w') : OwnR w' B v l := by
  rcases h with ⟨h0, h | ⟨g, cap, cur, rfl, hB, h3, r⟩⟩
  · exact ⟨h0, .inl h⟩
  · exact ⟨h0, .inr ⟨g, cap, cur, rfl, hB, kept_obj hb h3, r⟩⟩
theorem OwnR.new {w : World} {B : Nat} {v : Value} {l : List Value} (h : OwnR w B v l) {k : Nat} (hk : v.ownBlock = some k) : B ≤ k ∧ k < w.heap.size := World.ownsRow.lt h k hk
theorem OwnR.slice {w : World} {B : Nat} {v : Value} {l : List Value} (h : OwnR w B v l) : ∃ a cap, v = .slice a l.length cap ∧ l.length ≤ cap ∧ (cap : Int) ≤ 9223372036854775807 ∧ ∀ (j : Nat) (u : Value), l[j]? = some u → ∃ g, a = some ⟨g, 0, none⟩ ∧ w.cell? ⟨g, j, none⟩ = some u ∧ w.frozen? ⟨g, j, none⟩ = false := by
  rcases h.2 with ⟨rfl, h0⟩ | ⟨g, cap, cur, rfl, _, h3, h1, h2, h4, h5⟩
  · refine ⟨none, 0, by rw [h0], by omega, by omega, fun j u hj => ?_⟩
    rw [List.length_eq_zero_iff.1 h0] at hj; simp at hj
  · refine ⟨_, cap, rfl, h1, by unfold maxLen at h2; omega, fun j u hj => ⟨g, rfl, ?_, blk_free h3 _⟩⟩
    rw [blk_cell h3]
    rw [← h5, List.getElem?_take] at hj
    split at hj
    · simpa using hj
    · cases hj
/-- Its block, by its type. -/
theorem OwnR.blk {w : World} {B : Nat} {v : Value} {l : List Value} (h : OwnR w B v l) {k : Nat} (hk : v.ownBlock = some k) : ∃ cs, w.heap[k]? = some (.cells cs RTy (0, 0)) := by
  rcases h.2 with ⟨rfl, h0⟩ | ⟨g, cap, cur, rfl, _, h3, _⟩
  · simp [Value.ownBlock] at hk
  · simp [Value.ownBlock] at hk; subst hk; exact ⟨cur, h3⟩
theorem OwnW.blk {w : World} {B : Nat} {v : Value} {l : List WV} (h : OwnW w B v l) {k : Nat} (hk : v.ownBlock = some k) : ∃ cs, w.heap[k]? = some (.cells cs WT (0, 0)) := by
  rcases h.2 with ⟨rfl, h0⟩ | ⟨g, cap, cur, rfl, _, h3, _⟩
  · simp [Value.ownBlock] at hk
  · simp [Value.ownBlock] at hk; subst hk; exact ⟨cur, h3⟩
theorem rw_apart {w : World} {B B' : Nat} {u v : Value} {l : List WV} {cs : List Value} (h : OwnW w B u l) (r : OwnR w B' v cs) {k : Nat} (hu : u.ownBlock = some k) : v.ownBlock ≠ some k := by
  intro hv
  obtain ⟨c1, h1⟩ := h.blk hu
  obtain ⟨c2, h2⟩ := r.blk hv
  rw [h1] at h2
  simp only [Option.some.injEq, Obj.cells.injEq] at h2
  exact absurd h2.2.1 (by decide)
theorem OwnW.grown {w w' : World} {B : Nat} {v : Value} {l : List WV} {o : Option Nat} (h : OwnW w B v l) (hg : w.grownBy w' o) (hne : ∀ k, v.ownBlock = some k → o ≠ some k) : OwnW w' B v l := by
  rcases h with ⟨h0, h | ⟨g, cap, cur, rfl, hB, h3, r⟩⟩
  · exact ⟨h0, .inl h⟩
  · exact ⟨h0, .inr ⟨g, cap, cur, rfl, hB, (hg.block g (lt_of_block h3) (fun e => hne g rfl e.symm)).trans h3, r⟩⟩
theorem OwnR.grown {w w' : World} {B : Nat} {v : Value} {l : List Value} {o : Option Nat} (h : OwnR w B v l) (hg : w.grownBy w' o) (hne : ∀ k, v.ownBlock = some k → o ≠ some k) : OwnR w' B v l := by
  rcases h with ⟨h0, h | ⟨g, cap, cur, rfl, hB, h3, r⟩⟩
  · exact ⟨h0, .inl h⟩
  · exact ⟨h0, .inr ⟨g, cap, cur, rfl, hB, (hg.block g (lt_of_block h3) (fun e => hne g rfl e.symm)).trans h3, r⟩⟩
theorem OwnR.set {w : World} {B n c g : Nat} {cs : List Value} (h : OwnR w B (.slice (some ⟨g, 0, none⟩) n c) cs) {k : Nat} (u : Value) : OwnR (w.setCell ⟨g, k, none⟩ u) B (.slice (some ⟨g, 0, none⟩) n c) (cs.set k u) ∧ B ≤ g := by
  rcases h with ⟨h0, h | ⟨g', cap, cur, e, hb, h3, h1, h2, h4, h5⟩⟩
  · cases h.1
  · cases e
    refine ⟨⟨by rw [List.length_set]; omega, .inr ⟨g, c, cur.setIfInBounds k u, by rw [List.length_set], hb, blk_set h3 _, by rw [List.length_set]; exact h1, h2, by simp [h4], ?_⟩⟩, hb⟩
    rw [List.length_set, Array.toList_setIfInBounds, List.take_set, h5]

/-- A row of rows: what each holds; no two in one block. -/
structure Rows (w : World) (B : Nat) (v : Value) (cs : List Value) (G : List (List WV)) : Prop where
  own : OwnR w B v cs
  len : cs.length = G.length
  each : ∀ (j : Nat) (x : List WV), G[j]? = some x → ∃ a c, cs[j]? = some (.slice a x.length c) ∧ OwnW w B (.slice a x.length c) x
  apart : ∀ (i j : Nat) (u z : Value) (k : Nat), i < j → cs[i]? = some u → cs[j]? = some z → u.ownBlock = some k → z.ownBlock ≠ some k
theorem Rows.nil (w : World) (B : Nat) : Rows w B (.slice none 0 0) [] [] := ⟨OwnR.nil _ _, rfl, fun j x h => by simp at h, fun i j u z k _ h => by simp at h⟩
theorem Rows.below {w w' : World} {B : Nat} {v : Value} {cs : List Value} {G : List (List WV)} (h : Rows w B v cs G) (hb : Below w.heap.size w w') : Rows w' B v cs G :=
  ⟨h.own.below hb, h.len, fun j x hx => by
    obtain ⟨a, c, h1, h2⟩ := h.each j x hx
    exact ⟨a, c, h1, h2.below hb⟩, h.apart⟩
/-- A row of none is added. -/
theorem Rows.more {w w' : World} {B : Nat} {v v' : Value} {cs : List Value} {G : List (List WV)} (h : Rows w B v cs G) (ho : OwnR w' B v' (cs ++ [.slice none 0 0])) (hg : w.grownBy w' v.ownBlock) : Rows w' B v' (cs ++ [.slice none 0 0]) (G ++ [[]]) := by
  refine ⟨ho, by simp [h.len], fun j x hx => ?_, fun i j u z k hij hu hz hk => ?_⟩
  · rcases Nat.lt_or_ge j G.length with q | q
    · rw [List.getElem?_append_left q] at hx
      obtain ⟨a, c, h1, h2⟩ := h.each j x hx
      exact ⟨a, c, by rw [List.getElem?_append_left (by rw [h.len]; exact q)]; exact h1, h2.grown hg (fun k hk => rw_apart h2 h.own hk)⟩
    · have hj : j = G.length := by have := (List.getElem?_eq_some_iff.1 hx).1; simp at this; omega
      subst hj
      simp at hx; subst hx
      exact ⟨none, 0, by rw [← h.len]; simp, OwnW.nil _ _⟩
  · have hjl := (List.getElem?_eq_some_iff.1 hz).1
    simp at hjl
    rw [List.getElem?_append_left (by omega)] at hu
    rcases Nat.lt_or_ge j cs.length with q | q
    · rw [List.getElem?_append_left q] at hz
      exact h.apart i j u z k hij hu hz hk
    · have hj : j = cs.length := by omega
      subst hj
      simp at hz; subst hz
      simp [Value.ownBlock]
/-- The last row grows, and is stored. -/
theorem Rows.grow {w w' : World} {B g n c : Nat} {cs : List Value} {u u' : Value} {G : List (List WV)} {x y : List WV} (h : Rows w B (.slice (some ⟨g, 0, none⟩) n c) (cs ++ [u]) (G ++ [x])) (hy : y.length = x.length + 1) (ho : OwnW w' B u' y) (hu' : ∃ a d, u' = .slice a y.length d) (hg : w.grownBy w' u.ownBlock) (hn : ∀ k, u'.ownBlock = some k → u.ownBlock = some k ∨ w.heap.size ≤ k) :
    Rows (w'.setCell ⟨g, G.length, none⟩ u') B (.slice (some ⟨g, 0, none⟩) n c) (cs ++ [u']) (G ++ [y]) ∧ B ≤ g := by
  have hcl : cs.length = G.length := by have := h.len; simpa using this
  obtain ⟨au, du, hu1, hu2⟩ := h.each G.length x (by simp)
  rw [← hcl] at hu1
  simp only [List.getElem?_concat_length, Option.some.injEq] at hu1
  have hou : OwnW w B u x := by rw [hu1]; exact hu2
  have hr : OwnR w' B (.slice (some ⟨g, 0, none⟩) n c) (cs ++ [u]) := h.own.grown hg (fun k hk e => rw_apart hou h.own e hk)
  obtain ⟨hs, hB⟩ := hr.set (k := G.length) u'
  have hset : (cs ++ [u]).set G.length u' = cs ++ [u'] := by rw [← hcl]; simp
  rw [hset] at hs
  refine ⟨⟨hs, by simp [hcl], fun j z hz => ?_, fun i j a z k hij ha hz hk => ?_⟩, hB⟩
  · rcases Nat.lt_or_ge j G.length with q | q
    · rw [List.getElem?_append_left q] at hz
      obtain ⟨a, d, h1, h2⟩ := h.each j z (by rw [List.getElem?_append_left q]; exact hz)
      have h1' := h1
      rw [List.getElem?_append_left (by omega)] at h1
      refine ⟨a, d, by rw [List.getElem?_append_left (by omega)]; exact h1, ?_⟩
      have h3 : OwnW w' B (.slice a z.length d) z := h2.grown hg (fun k hk => h.apart j G.length _ u k q h1' (by rw [← hcl]; simp) hk)
      exact ownsRow_setCell_other h3 (a := ⟨g, G.length, none⟩) (fun e => rw_apart h3 hr e rfl) _
    · have hj : j = G.length := by have := (List.getElem?_eq_some_iff.1 hz).1; simp at this; omega
      subst hj
      simp at hz; subst hz
      obtain ⟨a, d, rfl⟩ := hu'
      exact ⟨a, d, by rw [← hcl]; simp, ownsRow_setCell_other ho (a := ⟨g, G.length, none⟩) (fun e => rw_apart ho hr e rfl) _⟩
  · have hjl := (List.getElem?_eq_some_iff.1 hz).1
    simp at hjl
    rw [List.getElem?_append_left (by omega)] at ha
    have ha' : (cs ++ [u])[i]? = some a := by rw [List.getElem?_append_left (by omega)]; exact ha
    rcases Nat.lt_or_ge j cs.length with q | q
    · rw [List.getElem?_append_left q] at hz
      exact h.apart i j a z k hij ha' (by rw [List.getElem?_append_left q]; exact hz) hk
    · have hj : j = cs.length := by omega
      subst hj
      simp at hz; subst hz
      intro e
      obtain ⟨p, hp⟩ : ∃ p, (G ++ [x])[i]? = some p := nth_of rfl (by simp; omega)
      obtain ⟨a1, d1, e1, e2⟩ := h.each i p hp
      rw [ha'] at e1; cases e1
      rcases hn k e with q | q
      · exact h.apart i cs.length _ u k hij ha' (by simp) hk q
      · have := (e2.new hk).2; omega
theorem infoRow : (Tryd.prog.info? RTy).map (fun i => (i.zero, i.size, i.bytes)) = some (some (.slice none 0 0), 1, 24) := by kernel_rfl
theorem rinfoParts : ∃ i, Tryd.prog.info? RTy = some i ∧ i.zero = some (.slice none 0 0) ∧ i.size = 1 ∧ i.bytes = 24 := by
  obtain ⟨i, h1, h2⟩ := Option.map_eq_some_iff.1 infoRow
  simp only [Prod.mk.injEq] at h2
  exact ⟨i, h1, h2.1, h2.2.1, h2.2.2⟩
/-- One more row, out of a block of one cell. -/
theorem append_row {w : World} {B g d : Nat} {v u : Value} {q : List Value} (h : OwnR w B v q) (hB : B ≤ w.heap.size) (hu : w.cell? ⟨g, 0, none⟩ = some u) (ho : u.oneCell' = true) (hs : q.length + 1 ≤ 1000000) (ty : TypeId) :
    ∃ v' w', (Builtin.append_ #[24, 24] ty #[v, .slice (some ⟨g, 0, none⟩) 1 d]).run Tryd.prog w = .ok v' w' ∧ OwnR w' B v' (q ++ [u]) ∧ w.grownBy w' v.ownBlock ∧ ∀ k, v'.ownBlock = some k → v.ownBlock = some k ∨ w.heap.size ≤ k := by
  obtain ⟨i0, hi, hz0, hz1, hz2⟩ := rinfoParts
  obtain ⟨v', w', h1, h2, h3, _, h5⟩ := run_append_own_at (P := Tryd.prog) w B 24 ty RTy i0 _ 1 24 Tryd.underlying24 hi hz0 hz1 hz2 rfl (by decide) v q.length q h ⟨g, 0, none⟩ 1 d [u] rfl (fun j z hj => by
    match j, hj with
    | 0, hj => simp at hj; subst hj; rw [addr_at]; exact hu
    | j + 1, hj => simp at hj) (fun z hz => by simp at hz; subst hz; exact ho) (by unfold maxLen; omega) (by omega) hB
  refine ⟨v', w', h1, ?_, h3, fun k hk => ?_⟩
  · unfold OwnR
    rw [List.length_append]
    exact h2
  · rcases h5 with z | z
    · left; rw [← z]; exact hk
    · right; rw [z] at hk; cases hk; exact Nat.le_refl _
theorem wp_rappend {ops : Array Oper} {rest : List Oper} {o : Oper} {a : Act} {Q : Exit → Act → World → Prop} {w : World} (hgd : o.guard = none) (s x : Operand)
    (ho : o.op = .call { callee := .builtin .append, args := #[s, x], argTypes := #[24, 24] }) {B g d : Nat} {v u : Value} {q : List Value} (hs : a.eval s = v) (hx : a.eval x = .slice (some ⟨g, 0, none⟩) 1 d)
    (hown : OwnR w B v q) (hB : B ≤ w.heap.size) (hu : w.cell? ⟨g, 0, none⟩ = some u) (h1 : u.oneCell' = true) (hsm : q.length + 1 ≤ 1000000) (N : Nat) (hN : q.length + 1 = N)
    (h : ∀ a' cp' w', OwnR w' B (.slice a' N cp') (q ++ [u]) → w.grownBy w' v.ownBlock → (∀ k, (Value.slice a' N cp').ownBlock = some k → v.ownBlock = some k ∨ w.heap.size ≤ k) → wpList Tryd.prog ops Q rest (a.put o.dst (.slice a' N cp')) w') : wpList Tryd.prog ops Q (o :: rest) a w :=
  wpList_step fun _ hK => by
    have hw : Region.wanted o (yielded ops a.tmps) = true := by simp [Region.wanted, hgd]
    rw [if_pos hw]
    obtain ⟨v', w', hr, h2, h3, h4⟩ := append_row (d := d) hown hB hu h1 hsm o.type
    obtain ⟨a', cp', hv', _⟩ := h2.slice
    rw [List.length_append, List.length_singleton, hN] at hv'
    subst hv'
    unfold Oper.wp execOp
    simp only [ho, resolve, invoke, builtin, Sem.run_bind, Sem.run_pure, Result.andThen_ok, List.map_toArray, List.map_cons, List.map_nil, hs, hx, hr]
    exact hK _ _ (h a' cp' w' h2 h3 h4)
end Go.Proofs.YtbipjilpogbicaaDoor
