/-
  Two boxes, and the document's own two, side by side.
-/
import Derived.Test.YtkcdblpaaldcaaaQRef4
import Derived.Test.YtkcdblpaaldcaaaQLaw4
namespace Go.Proofs.Ytkcdblpaaldcaaa
open Go.RowKit Go.Maps Go.Conc

/-- All four, beside a step. -/
structure PlayO (W w : World) (b c b2 c2 rb sb n1 n2 : Nat) (q q2 : List Req) (sh : Bool) (p p2 : List Req) (ph : Bool) (v v2 : Value) (ob : Nat) (oo : Array Value) : Prop where
  both : Both W w b c n1 q sh b2 c2 n2 q2 false
  refs : RTwo w rb n1 p ph v sb n2 p2 false v2 W.heap.size
  low : W.heap.size ≤ rb ∧ W.heap.size ≤ sb
  obj : w.heap[ob]? = some (.cells oo 33 (0, 0))
/-- All four. -/
structure PlayV (W w : World) (b c b2 c2 rb sb n1 n2 : Nat) (q q2 : List Req) (sh : Bool) (p p2 : List Req) (ph : Bool) (v v2 : Value) : Prop where
  both : Both W w b c n1 q sh b2 c2 n2 q2 false
  refs : RTwo w rb n1 p ph v sb n2 p2 false v2 W.heap.size
  low : W.heap.size ≤ rb ∧ W.heap.size ≤ sb

section
variable {W w w' : World} {b c b2 c2 rb sb n1 n2 ob : Nat} {q q2 p p2 : List Req} {sh ph : Bool} {v v2 : Value} {oo : Array Value}

theorem PlayO.pv (h : PlayO W w b c b2 c2 rb sb n1 n2 q q2 sh p p2 ph v v2 ob oo) : PlayV W w b c b2 c2 rb sb n1 n2 q q2 sh p p2 ph v v2 := ⟨h.both, h.refs, h.low⟩
/-- The boxes' blocks are not the others'. -/
theorem four_kind (h : Both W w b c n1 q sh b2 c2 n2 q2 false) {k : Nat} (hk : Four b c b2 c2 k) : (∃ cs, w.heap[k]? = some (.cells cs 57 (0, 0))) ∨ ∃ n l s r, w.heap[k]? = some (.chan n l false s r false) := by
  rcases hk with (rfl | rfl) | (rfl | rfl)
  · exact .inl ⟨_, h.one.box.str⟩
  · obtain ⟨s, r, z⟩ := h.one.box.chan; exact .inr ⟨_, _, s, r, z⟩
  · exact .inl ⟨_, h.two.box.str⟩
  · obtain ⟨s, r, z⟩ := h.two.box.chan; exact .inr ⟨_, _, s, r, z⟩
theorem refs_kind (h : RTwo w rb n1 p ph v sb n2 p2 false v2 W.heap.size) {k : Nat} (hk : ROwn2 rb v sb v2 k) : (∃ cs, w.heap[k]? = some (.cells cs 29 (0, 0))) ∨ ∃ cs, w.heap[k]? = some (.cells cs 31 (0, 0)) := by
  rcases hk with (rfl | hk) | (rfl | hk)
  · exact .inl ⟨_, h.r.str⟩
  · exact .inr (h.r.row.asks.cells hk)
  · exact .inl ⟨_, h.s.str⟩
  · exact .inr (h.s.row.asks.cells hk)
theorem four_refs (h : Both W w b c n1 q sh b2 c2 n2 q2 false) (h2 : RTwo w rb n1 p ph v sb n2 p2 false v2 W.heap.size) {k : Nat} (hk : Four b c b2 c2 k) (hr : ROwn2 rb v sb v2 k) : False := by
  rcases four_kind h hk with ⟨cs, z⟩ | ⟨n, l, s, r, z⟩ <;> rcases refs_kind h2 hr with ⟨cs', y⟩ | ⟨cs', y⟩ <;> rw [z] at y <;> simp at y
theorem four_obj (h : Both W w b c n1 q sh b2 c2 n2 q2 false) (ho : w.heap[ob]? = some (.cells oo 33 (0, 0))) : ¬ Four b c b2 c2 ob := by
  intro hk
  rcases four_kind h hk with ⟨cs, z⟩ | ⟨n, l, s, r, z⟩ <;> rw [z] at ho <;> simp at ho
theorem refs_obj (h : RTwo w rb n1 p ph v sb n2 p2 false v2 W.heap.size) (ho : w.heap[ob]? = some (.cells oo 33 (0, 0))) : ¬ ROwn2 rb v sb v2 ob := by
  intro hk
  rcases refs_kind h hk with ⟨cs, z⟩ | ⟨cs, z⟩ <;> rw [z] at ho <;> simp at ho
theorem refs_four (h : Both W w b c n1 q sh b2 c2 n2 q2 false) (h2 : RTwo w rb n1 p ph v sb n2 p2 false v2 W.heap.size) (t : Turn (Four b c b2 c2) w w') : RTwo w' rb n1 p ph v sb n2 p2 false v2 W.heap.size :=
  ⟨h2.r.kept t (fun z => four_refs h h2 z (.inl (.inl rfl))) (fun _ hk z => four_refs h h2 z (.inl (.inr hk))), h2.s.kept t (fun z => four_refs h h2 z (.inr (.inl rfl))) (fun _ hk z => four_refs h h2 z (.inr (.inr hk))), h2.ne, h2.row⟩
theorem refs_low (h2 : RTwo w rb n1 p ph v sb n2 p2 false v2 W.heap.size) (hl : W.heap.size ≤ rb ∧ W.heap.size ≤ sb) {k : Nat} (hk : ROwn2 rb v sb v2 k) : W.heap.size ≤ k := by
  rcases hk with (rfl | hk) | (rfl | hk)
  · exact hl.1
  · exact h2.r.row.new hk
  · exact hl.2
  · exact h2.s.row.new hk
theorem four_two (h : Both W w b c n1 q sh b2 c2 n2 q2 false) (h2 : RTwo w rb n1 p ph v sb n2 p2 false v2 W.heap.size) (hl : W.heap.size ≤ rb ∧ W.heap.size ≤ sb) (t : Turn (ROwn2 rb v sb v2) w w') : Both W w' b c n1 q sh b2 c2 n2 q2 false := by
  have hw : Below W.heap.size W w' := h.one.low.trans (t.below h.one.low.size (fun i z => refs_low h2 hl z))
  exact ⟨⟨h.one.box.kept t (fun z => four_refs h h2 (.inl (.inl rfl)) z) (fun z => four_refs h h2 (.inl (.inr rfl)) z), hw, h.one.new⟩, ⟨h.two.box.kept t (fun z => four_refs h h2 (.inr (.inl rfl)) z) (fun z => four_refs h h2 (.inr (.inr rfl)) z), hw, h.two.new⟩, h.apart⟩

theorem PlayO.box {q' q2' : List Req} {sh' : Bool} (h : PlayO W w b c b2 c2 rb sb n1 n2 q q2 sh p p2 ph v v2 ob oo) (hb : Both W w' b c n1 q' sh' b2 c2 n2 q2' false) (t : Turn (Four b c b2 c2) w w') : PlayO W w' b c b2 c2 rb sb n1 n2 q' q2' sh' p p2 ph v v2 ob oo :=
  ⟨hb, refs_four h.both h.refs t, h.low, t.obj h.obj (four_obj h.both h.obj)⟩
theorem PlayO.one {q' : List Req} {sh' : Bool} (h : PlayO W w b c b2 c2 rb sb n1 n2 q q2 sh p p2 ph v v2 ob oo) (l : Looks w b c n1 q' sh' w') : PlayO W w' b c b2 c2 rb sb n1 n2 q' q2 sh' p p2 ph v v2 ob oo :=
  h.box (h.both.step l) (l.2.mono fun _ _ z => .inl z)
theorem PlayO.two {q2' : List Req} (h : PlayO W w b c b2 c2 rb sb n1 n2 q q2 sh p p2 ph v v2 ob oo) (l : Looks w b2 c2 n2 q2' false w') : PlayO W w' b c b2 c2 rb sb n1 n2 q q2' sh p p2 ph v v2 ob oo :=
  h.box (h.both.step2 l) (l.2.mono fun _ _ z => .inr z)
theorem PlayO.ref {p' p2' : List Req} {ph' : Bool} {v' v2' : Value} (h : PlayO W w b c b2 c2 rb sb n1 n2 q q2 sh p p2 ph v v2 ob oo) (hr : RTwo w' rb n1 p' ph' v' sb n2 p2' false v2' W.heap.size) (t : Turn (ROwn2 rb v sb v2) w w') : PlayO W w' b c b2 c2 rb sb n1 n2 q q2 sh p' p2' ph' v' v2' ob oo :=
  ⟨four_two h.both h.refs h.low t, hr, h.low, t.obj h.obj (refs_obj h.refs h.obj)⟩
theorem PlayO.below (h : PlayO W w b c b2 c2 rb sb n1 n2 q q2 sh p p2 ph v v2 ob oo) (hb : Below w.heap.size w w') : PlayO W w' b c b2 c2 rb sb n1 n2 q q2 sh p p2 ph v v2 ob oo :=
  ⟨h.both.below hb, h.refs.below hb, h.low, (hb.block _ (lt_of_block h.obj)).trans h.obj⟩
theorem PlayV.below (h : PlayV W w b c b2 c2 rb sb n1 n2 q q2 sh p p2 ph v v2) (hb : Below w.heap.size w w') : PlayV W w' b c b2 c2 rb sb n1 n2 q q2 sh p p2 ph v v2 :=
  ⟨h.both.below hb, h.refs.below hb, h.low⟩
theorem PlayO.alloc (h : PlayO W w b c b2 c2 rb sb n1 n2 q q2 sh p p2 ph v v2 ob oo) (o : Obj) : PlayO W (w.alloc o) b c b2 c2 rb sb n1 n2 q q2 sh p p2 ph v v2 ob oo := h.below ((Below.refl _ _).alloc (Nat.le_refl _) o)
theorem PlayO.drew (h : PlayO W w b c b2 c2 rb sb n1 n2 q q2 sh p p2 ph v v2 ob oo) : PlayO W w.drew b c b2 c2 rb sb n1 n2 q q2 sh p p2 ph v v2 ob oo := h.below (Below.refl _ _).drew
theorem PlayV.st (h : PlayV W w b c b2 c2 rb sb n1 n2 q q2 sh p p2 ph v v2) (oo : Array Value) : PlayO W (w.alloc (.cells oo 33)) b c b2 c2 rb sb n1 n2 q q2 sh p p2 ph v v2 w.heap.size oo :=
  have h' := h.below ((Below.refl _ _).alloc (Nat.le_refl _) (.cells oo 33))
  ⟨h'.both, h'.refs, h'.low, heap_alloc_new w _⟩
theorem PlayO.lt (h : PlayO W w b c b2 c2 rb sb n1 n2 q q2 sh p p2 ph v v2 ob oo) {k : Nat} (hk : ROwn2 rb v sb v2 k) : k < w.heap.size := by
  rcases hk with (rfl | hk) | (rfl | hk)
  · exact h.refs.r.lt
  · exact h.refs.r.vlt hk
  · exact h.refs.s.lt
  · exact h.refs.s.vlt hk

/-! ### looks -/
theorem po_len1 (h : PlayO W w b c b2 c2 rb sb n1 n2 q q2 sh p p2 ph v v2 ob oo) : Calls Try.prog 21 #[.pointer (some ⟨b, 0, none⟩)] w fun r w' => r = .returned (.int .i64 q.length) ∧ PlayO W w' b c b2 c2 rb sb n1 n2 q q2 sh p p2 ph v v2 ob oo :=
  (len_some h.both.one.box).mono fun _ _ ⟨h1, h2⟩ => ⟨h1, h.one h2⟩
theorem po_len2 (h : PlayO W w b c b2 c2 rb sb n1 n2 q q2 sh p p2 ph v v2 ob oo) : Calls Try.prog 21 #[.pointer (some ⟨b2, 0, none⟩)] w fun r w' => r = .returned (.int .i64 q2.length) ∧ PlayO W w' b c b2 c2 rb sb n1 n2 q q2 sh p p2 ph v v2 ob oo :=
  (len_some h.both.two.box).mono fun _ _ ⟨h1, h2⟩ => ⟨h1, h.two h2⟩
theorem po_room1 {z : Int} (h : PlayO W w b c b2 c2 rb sb n1 n2 q q2 sh p p2 ph v v2 ob oo) (hz : (if sh = true then 0 else (n1 : Int) - q.length) = z) : Calls Try.prog 22 #[.pointer (some ⟨b, 0, none⟩)] w fun r w' => r = .returned (.int .i64 z) ∧ PlayO W w' b c b2 c2 rb sb n1 n2 q q2 sh p p2 ph v v2 ob oo :=
  (room_some h.both.one.box).mono fun _ _ ⟨h1, h2⟩ => ⟨by rw [h1, hz], h.one h2⟩
theorem po_room2 {z : Int} (h : PlayO W w b c b2 c2 rb sb n1 n2 q q2 sh p p2 ph v v2 ob oo) (hz : (n2 : Int) - q2.length = z) : Calls Try.prog 22 #[.pointer (some ⟨b2, 0, none⟩)] w fun r w' => r = .returned (.int .i64 z) ∧ PlayO W w' b c b2 c2 rb sb n1 n2 q q2 sh p p2 ph v v2 ob oo :=
  (room_some h.both.two.box).mono fun _ _ ⟨h1, h2⟩ => ⟨by rw [h1, ← hz]; rfl, h.two h2⟩
theorem po_open (h : PlayO W w b c b2 c2 rb sb n1 n2 q q2 sh p p2 ph v v2 ob oo) : Calls Try.prog 24 #[.pointer (some ⟨b, 0, none⟩)] w fun r w' => r = .returned (.bool (!sh)) ∧ PlayO W w' b c b2 c2 rb sb n1 n2 q q2 sh p p2 ph v v2 ob oo :=
  (open_some h.both.one.box).mono fun _ _ ⟨h1, h2⟩ => ⟨h1, h.one h2⟩
theorem po_rroom1 {z : Int} (h : PlayO W w b c b2 c2 rb sb n1 n2 q q2 sh p p2 ph v v2 ob oo) (hz : (if ph = true then 0 else (n1 : Int) - p.length) = z) : Calls Try.prog 23 #[.pointer (some ⟨rb, 0, none⟩)] w fun r w' => r = .returned (.int .i64 z) ∧ PlayO W w' b c b2 c2 rb sb n1 n2 q q2 sh p p2 ph v v2 ob oo :=
  (rroom_any h.refs.r).mono fun _ _ ⟨h1, h2⟩ => ⟨by rw [h1, hz], h.below h2⟩
theorem po_rroom2 {z : Int} (h : PlayO W w b c b2 c2 rb sb n1 n2 q q2 sh p p2 ph v v2 ob oo) (hz : (n2 : Int) - p2.length = z) : Calls Try.prog 23 #[.pointer (some ⟨sb, 0, none⟩)] w fun r w' => r = .returned (.int .i64 z) ∧ PlayO W w' b c b2 c2 rb sb n1 n2 q q2 sh p p2 ph v v2 ob oo :=
  (rroom_any h.refs.s).mono fun _ _ ⟨h1, h2⟩ => ⟨by rw [h1, ← hz]; rfl, h.below h2⟩

/-! ### steps -/
/-- The document's two, behind a step: of rows of their own. -/
def PlayE (W w : World) (b c b2 c2 rb sb n1 n2 : Nat) (q q2 : List Req) (sh : Bool) (ob : Nat) (oo : Array Value) : Prop := ∃ v v2, PlayO W w b c b2 c2 rb sb n1 n2 q q2 sh q q2 sh v v2 ob oo
theorem PlayO.e (h : PlayO W w b c b2 c2 rb sb n1 n2 q q2 sh q q2 sh v v2 ob oo) : PlayE W w b c b2 c2 rb sb n1 n2 q q2 sh ob oo := ⟨v, v2, h⟩
theorem PlayE.below (h : PlayE W w b c b2 c2 rb sb n1 n2 q q2 sh ob oo) (hb : Below w.heap.size w w') : PlayE W w' b c b2 c2 rb sb n1 n2 q q2 sh ob oo := by
  obtain ⟨v, v2, h⟩ := h; exact ⟨v, v2, h.below hb⟩
theorem PlayO.r1 {p' : List Req} (h : PlayO W w b c b2 c2 rb sb n1 n2 q q2 sh p p2 ph v v2 ob oo) (s : RStep w rb n1 p' ph v W.heap.size w') : (∃ v', PlayO W w' b c b2 c2 rb sb n1 n2 q q2 sh p' p2 ph v' v2 ob oo) ∧ Turn (ROwn2 rb v sb v2) w w' := by
  obtain ⟨v', a, t, _⟩ := h.refs.step s
  have t2 : Turn (ROwn2 rb v sb v2) w w' := t.mono fun _ _ z => .inl z
  exact ⟨⟨v', h.ref a t2⟩, t2⟩
theorem PlayO.rm {p' p2' : List Req} (h : PlayO W w b c b2 c2 rb sb n1 n2 q q2 sh p p2 ph v v2 ob oo) (m : RMoved w rb n1 p' ph v sb n2 p2' false v2 W.heap.size w') : ∃ v' v2', PlayO W w' b c b2 c2 rb sb n1 n2 q q2 sh p' p2' ph v' v2' ob oo := by
  obtain ⟨v', v2', a, t, _⟩ := m
  exact ⟨v', v2', h.ref a t⟩
theorem PlayO.rm2 {p' p2' : List Req} (h : PlayO W w b c b2 c2 rb sb n1 n2 q q2 sh p p2 ph v v2 ob oo) (m : RMoved w sb n2 p2' false v2 rb n1 p' ph v W.heap.size w') : ∃ v' v2', PlayO W w' b c b2 c2 rb sb n1 n2 q q2 sh p' p2' ph v' v2' ob oo := by
  obtain ⟨v2', v', a, t, _⟩ := m
  exact ⟨v', v2', h.ref a.swap (t.mono fun _ _ z => z.symm)⟩
theorem PlayO.size (h : PlayO W w b c b2 c2 rb sb n1 n2 q q2 sh p p2 ph v v2 ob oo) : W.heap.size ≤ w.heap.size := h.both.one.low.size
end
end Go.Proofs.Ytkcdblpaaldcaaa
