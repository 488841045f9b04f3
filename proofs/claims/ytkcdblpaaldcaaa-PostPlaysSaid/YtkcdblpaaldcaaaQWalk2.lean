/-
  The walk over a request taken.
-/
import Derived.Test.YtkcdblpaaldcaaaQWalk1
import Derived.Deep.CutRange
import Derived.Deep.CutBlock
import Derived.Deep.DeepCutAuto
namespace Go.Proofs.Ytkcdblpaaldcaaa
open Go.RowKit Go.Maps Go.Conc
attribute [local go_sem] chan_eq_some

def zReq : Value := .agg #[.int .i64 0, .int .i64 0]
section
variable {P : Program} {a : Act} {w : World} {t : List Oper} {o : Oper} {id c n : Nat} {Q : Exit → Act → World → Prop} {x : Req} {l : List Req}
theorem sel_recv (hg : o.guard = none) (hc : Ch w c n (x :: l)) (hr : (execOp a.eval o).run P w = .ok (.comm #[rcase c zReq] false .select) w)
    (h : ∀ w2, Ch w2 c n l → Turn (fun k => k = c) w w2 → wpList P (o :: t).toArray Q t (a.put o.dst (.tuple #[.int .i64 0, .bool true, .agg #[.int .i64 x.1, .int .i64 x.2]])) w2) : (Code.region id (o :: t).toArray false).wp P Q a w := by
  obtain ⟨s, r, hc⟩ := hc
  refine wp_select_recv hg hr hc (by rw [bufV_size]; simp) ?_
  rw [bufV_tail, bufV_head]
  exact h _ (ch_set (lt_of_block hc)) turn_chan
theorem sel_none (hg : o.guard = none) (hc : Ch w c n []) (hr : (execOp a.eval o).run P w = .ok (.comm #[rcase c zReq] false .select) w)
    (h : wpList P (o :: t).toArray Q t (a.put o.dst (.tuple #[.int .i64 (-1), .bool false, .agg #[.int .i64 0, .int .i64 0]])) w) : (Code.region id (o :: t).toArray false).wp P Q a w := by
  obtain ⟨s, r, hc⟩ := hc
  exact wp_select_none hg hr hc h
theorem sel_send (hg : o.guard = none) (hc : Ch w c n l) (hl : l.length < n) (hr : (execOp a.eval o).run P w = .ok (.comm #[scase c (.agg #[.int .i64 x.1, .int .i64 x.2]) zReq] false .select) w)
    (h : ∀ w2, Ch w2 c n (l ++ [x]) → Turn (fun k => k = c) w w2 → wpList P (o :: t).toArray Q t (a.put o.dst (.tuple #[.int .i64 0, .bool false])) w2) : (Code.region id (o :: t).toArray false).wp P Q a w := by
  obtain ⟨s, r, hc⟩ := hc
  refine wp_select_send hg hr hc (by rw [bufV_size]; exact hl) ?_
  rw [show (bufV l).push (.agg #[.int .i64 x.1, .int .i64 x.2]) = bufV (l ++ [x]) from bufV_push l x]
  exact h _ (ch_set (lt_of_block hc)) turn_chan
theorem sel_full (hg : o.guard = none) (hc : Ch w c n l) (hl : n ≤ l.length) (hr : (execOp a.eval o).run P w = .ok (.comm #[scase c (.agg #[.int .i64 x.1, .int .i64 x.2]) zReq] false .select) w)
    (h : wpList P (o :: t).toArray Q t (a.put o.dst (.tuple #[.int .i64 (-1), .bool false])) w) : (Code.region id (o :: t).toArray false).wp P Q a w := by
  obtain ⟨s, r, hc⟩ := hc
  exact wp_select_full hg hr hc (by rw [bufV_size]; exact hl) h
end

/-- The channel, and what is new. -/
def Ext (B c k : Nat) : Prop := k = c ∨ B ≤ k
theorem St.ext {w w' : World} {B b c c' : Nat} {d k : Int} {sh : Bool} (h : St w b c d k sh) (hB : b < B) (hne : c' ≠ b) (ht : Turn (Ext B c') w w') : St w' b c d k sh :=
  h.kept ht (by rintro (q | q) <;> omega)

/-- Behind a lock taken in a world with one block more. -/
theorem new_block {w w1 : World} {b : Nat} {cs : Array Value} {T : TypeId} (hb : b < w.heap.size) (ht : Turn (fun k => k = b) (w.alloc (.cells cs T)) w1) : w1.heap[w.heap.size]? = some (.cells cs T (0, 0)) :=
  ht.obj (heap_alloc_new w (.cells cs T)) (by omega)

theorem set_two {w : World} {g : Nat} {u v : Value} {T : TypeId} (h : w.heap[g]? = some (.cells #[u, v] T (0, 0))) (x y : Value) : ((w.setCell ⟨g, 0, none⟩ x).setCell ⟨g, 1, none⟩ y).heap[g]? = some (.cells #[x, y] T (0, 0)) :=
  (blk_set (blk_set h x) y).trans rfl
/-- What is new to a call. -/
def New (B k : Nat) : Prop := B ≤ k
theorem looks_long {w w1 w2 w3 w4 : World} {b c n : Nat} {l l' : List Req} {sh : Bool} {o : Obj} (h : Box w b c n l sh) (t0 : Turn (fun k => k = b) (w.alloc o) w1) (t1 : Turn (fun k => k = c) w1 w2) (hc : Ch w2 c n l') (t2 : Turn (New w.heap.size) w2 w3) (s4 : St w4 b c 0 0 sh) (t3 : Turn (fun k => k = b) w3 w4) (hl : l'.length ≤ n) : Looks w b c n l' sh w4 := by
  have a0 : Turn (Two b c) w (w.alloc o) := Turn.of_below ((Below.refl _ _).alloc (Nat.le_refl _) o)
  have hcl := h.chan.lt
  refine ⟨⟨s4, (hc.kept t2 (by unfold New; omega)).kept t3 h.ne, hl, h.few⟩, ?_⟩
  exact (((a0.trans t0 (fun i _ q => .inl q)).trans t1 (fun i _ q => .inr q)).trans t2 (fun i hi q => by unfold New at q; omega)).trans t3 (fun i _ q => .inl q)
theorem st_long {w w2 w3 : World} {b c B : Nat} {d k : Int} {sh : Bool} (h : St w b c d k sh) (hb : b < B) (hne : c ≠ b) (t1 : Turn (fun k => k = c) w w2) (t2 : Turn (New B) w2 w3) : St w3 b c d k sh :=
  (h.kept t1 (fun q => hne q.symm)).kept t2 (by unfold New; omega)

set_option maxRecDepth 100000 in
set_option maxHeartbeats 1000000 in
theorem take_some {w : World} {b c n : Nat} {x : Req} {l : List Req} {sh : Bool} (h : Box w b c n (x :: l) sh) : Calls Try.prog 11 #[.pointer (some ⟨b, 0, none⟩)] w fun r w' => r = .returned (.tuple #[.agg #[.int .i64 x.1, .int .i64 x.2], .bool true]) ∧ Looks w b c n l sh w' := by
  have HN := Lib.hid (fun w' hb => none_some (h.below (w' := w') hb).str)
  have HL := Lib.hid (fun w' hb => lock_low (h.below (w' := w') hb).str)
  have HH := Lib.hid h
  have hbl := h.str.lt
  clear h
  go_enter_defers Try.func11, Try.ntmps11
  go_upto_region 6 with (first
    | (go_at_call 25; refine (HN.out _ ((Below.refl _ _).alloc (Nat.le_refl _) _)).mono ?_; rintro e w' ⟨rfl, rfl⟩)
    | (go_at_call 26; refine (HL.out _ ((Below.refl _ _).alloc (Nat.le_refl _) _)).mono ?_; rintro e w1 ⟨rfl, hs1, ht1⟩; have HC := Lib.hid ((HH.out.chan.kept (Turn.of_below (S := fun _ => False) ((Below.refl _ _).alloc (Nat.le_refl _) _)) (fun q => q)).kept ht1 HH.out.ne); have HO := Lib.hid (new_block hbl ht1); have HS := Lib.hid hs1; have HT := Lib.hid ht1; obtain ⟨e0, e2, e4, e5⟩ := hs1.cells; clear hs1 ht1))
  refine sel_recv rfl HC.out (by simp [go_sem, execOp, rcase, Act.eval, zReq]) ?_
  intro w2 hc2 ht2
  have HC2 := Lib.hid hc2
  have HT2 := Lib.hid ht2
  clear hc2 ht2
  have ho := HT2.out.obj HO.out (by show ¬ _ = c; have := HH.out.chan.lt; omega)
  have hz := lt_of_block ho
  have n0 : w2.cell? ⟨w.heap.size, 0, none⟩ = some (.int .i64 0) := by rw [blk_cell ho]; rfl
  have n1 : w2.cell? ⟨w.heap.size, 1, none⟩ = some (.int .i64 0) := by rw [blk_cell ho]; rfl
  have f0 := blk_free ho 0
  have f1 := blk_free ho 1
  have HO2 := Lib.hid ho
  clear ho
  go_wp2
  have hset := set_two HO2.out (.int .i64 x.1) (.int .i64 x.2)
  have hsz : w2.heap.size = ((w2.setCell ⟨w.heap.size, 0, none⟩ (.int .i64 x.1)).setCell ⟨w.heap.size, 1, none⟩ (.int .i64 x.2)).heap.size := by simp
  have ho3 := (Below.heap_alloc _ (.cells #[.int .i64 x.1, .int .i64 x.2] 31) w.heap.size (hsz ▸ hz)).trans hset
  have ht3 : Turn (New w.heap.size) w2 _ := Turn.alloc (Turn.setCell (Turn.setCell (Turn.refl _ w2) (p := ⟨w.heap.size, 0, none⟩) (fun _ => Nat.le_refl _) (.int .i64 x.1)) (p := ⟨w.heap.size, 1, none⟩) (fun _ => Nat.le_refl _) (.int .i64 x.2)) (.cells #[.int .i64 x.1, .int .i64 x.2] 31)
  clear hset hsz hz n0 n1 f0 f1
  revert ho3 ht3
  generalize World.alloc _ _ = w3
  intro ho3 ht3
  refine leaves_cons (f := 27) (args := #[.pointer (some ⟨b, 2, none⟩)]) (by simp) (by simp [go_sem]) ?_
  refine (unlock_low .returning (st_long HS.out hbl HH.out.ne HT2.out ht3)).mono ?_
  rintro e u' w4 ⟨rfl, rfl, hs4, ht4⟩
  have ho4 := ht4.obj ho3 (by show ¬ _ = b; omega)
  have n0 : w4.cell? ⟨w.heap.size, 0, none⟩ = some (.int .i64 x.1) := by rw [blk_cell ho4]; rfl
  have n1 : w4.cell? ⟨w.heap.size, 1, none⟩ = some (.int .i64 x.2) := by rw [blk_cell ho4]; rfl
  have HF := Lib.hid (looks_long HH.out HT.out HT2.out HC2.out ht3 hs4 ht4 (by have := HH.out.room; simp at this; omega))
  clear ht4 ht3 ho3 ho4 hs4
  simp [Leaves, settle, results, Try.results11, go_sem, n0, n1]
  exact HF.out

set_option maxRecDepth 100000 in
set_option maxHeartbeats 1000000 in
theorem take_none {w : World} {b c n : Nat} {sh : Bool} (h : Box w b c n [] sh) : Calls Try.prog 11 #[.pointer (some ⟨b, 0, none⟩)] w fun r w' => r = .returned (.tuple #[.agg #[.int .i64 0, .int .i64 0], .bool false]) ∧ Looks w b c n [] sh w' := by
  have HN := Lib.hid (fun w' hb => none_some (h.below (w' := w') hb).str)
  have HL := Lib.hid (fun w' hb => lock_low (h.below (w' := w') hb).str)
  have HH := Lib.hid h
  have hbl := h.str.lt
  clear h
  go_enter_defers Try.func11, Try.ntmps11
  go_upto_region 6 with (first
    | (go_at_call 25; refine (HN.out _ ((Below.refl _ _).alloc (Nat.le_refl _) _)).mono ?_; rintro e w' ⟨rfl, rfl⟩)
    | (go_at_call 26; refine (HL.out _ ((Below.refl _ _).alloc (Nat.le_refl _) _)).mono ?_; rintro e w1 ⟨rfl, hs1, ht1⟩; have HC := Lib.hid ((HH.out.chan.kept (Turn.of_below (S := fun _ => False) ((Below.refl _ _).alloc (Nat.le_refl _) _)) (fun q => q)).kept ht1 HH.out.ne); have HO := Lib.hid (new_block hbl ht1); have HS := Lib.hid hs1; have HT := Lib.hid ht1; obtain ⟨e0, e2, e4, e5⟩ := hs1.cells; clear hs1 ht1))
  have hz := lt_of_block HO.out
  have n0 : w1.cell? ⟨w.heap.size, 0, none⟩ = some (.int .i64 0) := by rw [blk_cell HO.out]; rfl
  have n1 : w1.cell? ⟨w.heap.size, 1, none⟩ = some (.int .i64 0) := by rw [blk_cell HO.out]; rfl
  have f0 := blk_free HO.out 0
  have f1 := blk_free HO.out 1
  refine sel_none rfl HC.out (by simp [go_sem, execOp, rcase, Act.eval, zReq]) ?_
  go_wp2
  have ho3 := set_two HO.out (.int .i64 0) (.int .i64 0)
  have HC2 := HC
  have HT2 := Lib.hid (Turn.refl (fun k => k = c) w1)
  have ht3 : Turn (New w.heap.size) w1 _ := Turn.setCell (Turn.setCell (Turn.refl _ w1) (p := ⟨w.heap.size, 0, none⟩) (fun _ => Nat.le_refl _) (.int .i64 0)) (p := ⟨w.heap.size, 1, none⟩) (fun _ => Nat.le_refl _) (.int .i64 0)
  clear hz n0 n1 f0 f1
  revert ho3 ht3
  generalize World.setCell (World.setCell _ _ _) _ _ = w3
  intro ho3 ht3
  refine leaves_cons (f := 27) (args := #[.pointer (some ⟨b, 2, none⟩)]) (by simp) (by simp [go_sem]) ?_
  refine (unlock_low .returning (st_long HS.out hbl HH.out.ne HT2.out ht3)).mono ?_
  rintro e u' w4 ⟨rfl, rfl, hs4, ht4⟩
  have ho4 := ht4.obj ho3 (by show ¬ _ = b; omega)
  have n0 : w4.cell? ⟨w.heap.size, 0, none⟩ = some (.int .i64 0) := by rw [blk_cell ho4]; rfl
  have n1 : w4.cell? ⟨w.heap.size, 1, none⟩ = some (.int .i64 0) := by rw [blk_cell ho4]; rfl
  have HF := Lib.hid (looks_long HH.out HT.out HT2.out HC2.out ht3 hs4 ht4 (by have := HH.out.room; simp))
  clear ht4 ht3 ho3 ho4 hs4
  simp [Leaves, settle, results, Try.results11, go_sem, n0, n1]
  exact HF.out
end Go.Proofs.Ytkcdblpaaldcaaa
