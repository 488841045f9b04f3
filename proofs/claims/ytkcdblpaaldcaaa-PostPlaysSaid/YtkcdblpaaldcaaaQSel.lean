/-
  A select of one case with a default, in a walk of one goroutine: a region that opens with it.
-/
import Derived.Test.YtkcdblpaaldcaaaChecked
import Derived.WalkKit
import Derived.Conc.LoneSelect
import Derived.Conc.LoneSelectN
namespace Go.Proofs.Ytkcdblpaaldcaaa
open Go.Conc

section
variable {P : Program} {b : Frame} {a : Act} {k : List Item} {cs : List Frame} {w w1 : World} {ops : Array Oper}

theorem stepG_comm_any {i : Nat} {rest : List Nat} {o : Oper} {cases : Array CommCase} {blocking : Bool} {shape : CommShape} (ho : ops[i]? = some o) (hw : Region.wanted o (yielded ops a.tmps) = true)
    (hr : (execOp a.eval o).run P w = .ok (.comm cases blocking shape) w1) :
    ∃ es, stepG P true (G (b.at a (.inRegion ops (i :: rest) :: k)) cs) w = .comm (G (b.at a (.inRegion ops (i :: rest) :: k)) cs) cases blocking shape w1 es := by
  rw [stepG_oper ho hw]
  simp [stepG.apply, hr, G, Frame.at, GStep.after]

/-- A region whose first operation is one step of the machine's own. -/
theorem wp_first {l : List Oper} {o : Oper} {id : Nat} {Q : Exit → Act → World → Prop} {v : Value}
    (hstep : ∀ (b : Frame) (k : List Item) (cs : List Frame) (rest : List Nat), step P (solo (G (b.at a (.inRegion (o :: l).toArray (0 :: rest) :: k)) cs) w) = .next (solo (G ((b.at a (.inRegion (o :: l).toArray (0 :: rest) :: k)).finish v) cs) w1))
    (h : wpList P (o :: l).toArray Q l (a.put o.dst v) w1) : (Code.region id (o :: l).toArray false).wp P Q a w := by
  intro b k cs
  have h' : wpOps P (o :: l).toArray Q (List.range' 1 l.length) (a.put o.dst v) w1 := by
    rw [wpOps_eq_wpList l 1 (by intro j; simp [Nat.add_comm 1 j])]; exact h
  obtain ⟨e, a', w', hq, harr⟩ := wp_ops _ _ _ h' b k cs
  refine ⟨e, a', w', hq, .of_steps ?_ harr⟩
  refine .head step_region ?_
  have hr : List.range (o :: l).toArray.size = 0 :: List.range' 1 l.length := by
    simp [List.range_eq_range', List.range'_succ]
  rw [hr]
  refine .one ?_
  have := hstep b k cs (List.range' 1 l.length)
  rw [Frame.finish_at] at this
  exact this
end

section
variable {P : Program} {a : Act} {w : World} {l : List Oper} {o : Oper} {id c cap s r : Nat} {Q : Exit → Act → World → Prop} {buf : Array Value} {z v : Value}

/-- A receive that finds something. -/
theorem wp_select_recv (hg : o.guard = none) (hr : (execOp a.eval o).run P w = .ok (.comm #[rcase c z] false .select) w) (hc : w.heap[c]? = some (.chan cap buf false s r false)) (hb : 0 < buf.size)
    (h : wpList P (o :: l).toArray Q l (a.put o.dst (.tuple #[goInt 0, .bool true, buf.getD 0 undef])) (w.setChan c cap (buf.extract 1 buf.size) false s (r + 1) false)) : (Code.region id (o :: l).toArray false).wp P Q a w :=
  wp_first (fun b k cs rest => by
    obtain ⟨es, he⟩ := stepG_comm_any (P := P) (b := b) (a := a) (k := k) (cs := cs) (w := w) (ops := (o :: l).toArray) (i := 0) (rest := rest) (by simp) (by simp [Region.wanted, hg]) hr
    exact step_lone_select_recv_buf he hc hb) h
/-- A receive that finds nothing. -/
theorem wp_select_none (hg : o.guard = none) (hr : (execOp a.eval o).run P w = .ok (.comm #[rcase c z] false .select) w) (hc : w.heap[c]? = some (.chan cap #[] false s r false))
    (h : wpList P (o :: l).toArray Q l (a.put o.dst (.tuple #[goInt (-1), .bool false, z])) w) : (Code.region id (o :: l).toArray false).wp P Q a w :=
  wp_first (fun b k cs rest => by
    obtain ⟨es, he⟩ := stepG_comm_any (P := P) (b := b) (a := a) (k := k) (cs := cs) (w := w) (ops := (o :: l).toArray) (i := 0) (rest := rest) (by simp) (by simp [Region.wanted, hg]) hr
    exact step_lone_select_default he hc) h
/-- A send that finds room. -/
theorem wp_select_send (hg : o.guard = none) (hr : (execOp a.eval o).run P w = .ok (.comm #[scase c v z] false .select) w) (hc : w.heap[c]? = some (.chan cap buf false s r false)) (hb : buf.size < cap)
    (h : wpList P (o :: l).toArray Q l (a.put o.dst (.tuple #[goInt 0, .bool false])) (w.setChan c cap (buf.push v) false (s + 1) r false)) : (Code.region id (o :: l).toArray false).wp P Q a w :=
  wp_first (fun b k cs rest => by
    obtain ⟨es, he⟩ := stepG_comm_any (P := P) (b := b) (a := a) (k := k) (cs := cs) (w := w) (ops := (o :: l).toArray) (i := 0) (rest := rest) (by simp) (by simp [Region.wanted, hg]) hr
    exact step_lone_select_send_room he hc hb) h
/-- A send that finds no room. -/
theorem wp_select_full (hg : o.guard = none) (hr : (execOp a.eval o).run P w = .ok (.comm #[scase c v z] false .select) w) (hc : w.heap[c]? = some (.chan cap buf false s r false)) (hb : cap ≤ buf.size)
    (h : wpList P (o :: l).toArray Q l (a.put o.dst (.tuple #[goInt (-1), .bool false])) w) : (Code.region id (o :: l).toArray false).wp P Q a w :=
  wp_first (fun b k cs rest => by
    obtain ⟨es, he⟩ := stepG_comm_any (P := P) (b := b) (a := a) (k := k) (cs := cs) (w := w) (ops := (o :: l).toArray) (i := 0) (rest := rest) (by simp) (by simp [Region.wanted, hg]) hr
    exact step_lone_select_send_full he hc hb) h
end
end Go.Proofs.Ytkcdblpaaldcaaa
