/-
  The walk over a task with rows of its own.
-/
import Derived.Test.YtknjldmpcokgfaaKW18
namespace Go.Proofs.Ytknjldmpcokgfaa
open Go.RowKit Go.Maps

/-- A task in a box, one that comes back in another one. -/
structure OwnAt (w : World) (x : TV) (v1 v2 : Value) (W : World) : Prop where
  low : Below w.heap.size w W
  box : W.heap[w.heap.size]? = some (.cells #[.int .i64 x.id, .int .i64 x.c, .int .i64 x.d, .int .i64 x.t, .int .i64 x.p, v1, v2] TT (0, 0))
  res : W.heap[w.heap.size + 1]? = some (.cells #[.int .i64 0, .int .i64 0, .int .i64 0, .int .i64 0, .int .i64 0, .slice none 0 0, .slice none 0 0] TT (0, 0))
theorem OwnAt.below {w W W' : World} {x : TV} {v1 v2 : Value} (h : OwnAt w x v1 v2 W) (hb : Below W.heap.size W W') : OwnAt w x v1 v2 W' :=
  ⟨below_up h.low hb, kept_obj hb h.box, kept_obj hb h.res⟩
theorem ownAt_new {w : World} {x : TV} : OwnAt w x (.slice x.a1 x.ch.length x.c1) (.slice x.a2 x.us.length x.c2) ((w.alloc (.cells #[.int .i64 x.id, .int .i64 x.c, .int .i64 x.d, .int .i64 x.t, .int .i64 x.p, .slice x.a1 x.ch.length x.c1, .slice x.a2 x.us.length x.c2] TT)).alloc (.cells #[.int .i64 0, .int .i64 0, .int .i64 0, .int .i64 0, .int .i64 0, .slice none 0 0, .slice none 0 0] TT)) := by
  refine ⟨(by repeat (first | exact Below.refl _ _ | (with_reducible assumption) | refine bw_alloc ?_ _ | refine bw_drew ?_)), ?_, ?_⟩
  · rw [Below.heap_alloc _ _ _ (by simp)]; exact heap_alloc_new w _
  · have := heap_alloc_new (w.alloc (.cells #[.int .i64 x.id, .int .i64 x.c, .int .i64 x.d, .int .i64 x.t, .int .i64 x.p, .slice x.a1 x.ch.length x.c1, .slice x.a2 x.us.length x.c2] TT)) (.cells #[.int .i64 0, .int .i64 0, .int .i64 0, .int .i64 0, .int .i64 0, .slice none 0 0, .slice none 0 0] TT)
    rwa [World.size_alloc] at this
/-- Blocks of numbers stay where a cell of a block of tasks is stored. -/
def KeepI (w w' : World) : Prop := ∀ (g : Nat) (cs : Array Value) (T : TypeId) (fr : Nat × Nat), w.heap[g]? = some (.cells cs T fr) → (T = 2 ∨ T = 3) → w'.heap[g]? = w.heap[g]?
theorem KeepI.refl (w : World) : KeepI w w := fun _ _ _ _ _ _ => rfl
theorem KeepI.trans {w w' w'' : World} (h : KeepI w w') (k : KeepI w' w'') : KeepI w w'' := fun g cs T fr hc hT =>
  (k g cs T fr ((h g cs T fr hc hT).trans hc) hT).trans (h g cs T fr hc hT)
theorem keepI_set {w : World} {b o : Nat} {cs0 : Array Value} {fr0 : Nat × Nat} (hb : w.heap[b]? = some (.cells cs0 TT fr0)) (v : Value) : KeepI w (w.setCell ⟨b, o, none⟩ v) := by
  intro g cs T fr hc hT
  refine blk_far (a := ⟨b, o, none⟩) ?_ v
  rintro rfl
  rw [hb] at hc
  simp at hc
  rcases hT with q | q <;> rw [q] at hc <;> exact absurd hc.2.1 (by decide)
theorem keepI_below {w w' : World} (hb : Below w.heap.size w w') : KeepI w w' := fun g _ _ _ hc _ => hb.block g (lt_of_block hc)
theorem OwnAt.one {w W : World} {x : TV} {v1 v2 : Value} (h : OwnAt w x v1 v2 W) (v : Value) : OwnAt w x v v2 (W.setCell ⟨w.heap.size, 5, none⟩ v) ∧ KeepI W (W.setCell ⟨w.heap.size, 5, none⟩ v) :=
  ⟨⟨h.low.setCell (p := ⟨w.heap.size, 5, none⟩) (Nat.le_refl _) _, (blk_set h.box _).trans rfl, by rw [blk_far (a := ⟨w.heap.size, 5, none⟩) (Nat.succ_ne_self _)]; exact h.res⟩, keepI_set h.box v⟩
theorem OwnAt.two {w W : World} {x : TV} {v1 v2 : Value} (h : OwnAt w x v1 v2 W) (v : Value) : OwnAt w x v1 v (W.setCell ⟨w.heap.size, 6, none⟩ v) ∧ KeepI W (W.setCell ⟨w.heap.size, 6, none⟩ v) :=
  ⟨⟨h.low.setCell (p := ⟨w.heap.size, 6, none⟩) (Nat.le_refl _) _, (blk_set h.box _).trans rfl, by rw [blk_far (a := ⟨w.heap.size, 6, none⟩) (Nat.succ_ne_self _)]; exact h.res⟩, keepI_set h.box v⟩
theorem keepI_set7 {w : World} {b : Nat} {cs0 : Array Value} {fr0 : Nat × Nat} (hb : w.heap[b]? = some (.cells cs0 TT fr0)) (x0 x1 x2 x3 x4 x5 x6 : Value) : KeepI w ((((((((w.setCell ⟨b, 0, none⟩ x0).setCell ⟨b, 1, none⟩ x1).setCell ⟨b, 2, none⟩ x2).setCell ⟨b, 3, none⟩ x3).setCell ⟨b, 4, none⟩ x4).setCell ⟨b, 5, none⟩ x5).setCell ⟨b, 6, none⟩ x6)) :=
  (keepI_set hb x0).trans ((keepI_set (blk_set hb x0) x1).trans ((keepI_set (blk_set (blk_set hb x0) x1) x2).trans ((keepI_set (blk_set (blk_set (blk_set hb x0) x1) x2) x3).trans ((keepI_set (blk_set (blk_set (blk_set (blk_set hb x0) x1) x2) x3) x4).trans ((keepI_set (blk_set (blk_set (blk_set (blk_set (blk_set hb x0) x1) x2) x3) x4) x5).trans (keepI_set (blk_set (blk_set (blk_set (blk_set (blk_set (blk_set hb x0) x1) x2) x3) x4) x5) x6))))))

/-- A task with rows of its own that comes back. -/
def OwnBack (x : TV) (w : World) (e : Ending) (w' : World) : Prop :=
  ∃ y : TV, e = .returned (.agg #[.int .i64 y.id, .int .i64 y.c, .int .i64 y.d, .int .i64 y.t, .int .i64 y.p, .slice y.a1 y.ch.length y.c1, .slice y.a2 y.us.length y.c2]) ∧ y.tk = x.tk ∧ y.ok w' ∧ (IsI w' y.a1 y.ch ∧ IsI w' y.a2 y.us) ∧ Below w.heap.size w w'

set_option maxRecDepth 100000 in
set_option maxHeartbeats 4000000 in
theorem own_any (x : TV) (w : World) (hx : x.ok w) (h1 : (x.ch.length : Int) ≤ 1000000) (h2 : (x.us.length : Int) ≤ 1000000) :
    Calls Try.prog 43 #[.agg #[.int .i64 x.id, .int .i64 x.c, .int .i64 x.d, .int .i64 x.t, .int .i64 x.p, .slice x.a1 x.ch.length x.c1, .slice x.a2 x.us.length x.c2]] w (OwnBack x w) := by
  have hz := zeroTask
  have C1 : Hid (∀ w', Below w.heap.size w w' → _) := fun w' hb => clone_int64 x.ch.length x.c1 x.a1 x.ch rfl h1 w' (hx.one.below hb)
  have C2 : Hid (∀ w', Below w.heap.size w w' → _) := fun w' hb => clone_int x.us.length x.c2 x.a2 x.us rfl h2 w' (hx.two.below hb)
  clear hx h1 h2
  go_enter Try.func43, Try.ntmps43
  go_upto_region 1 with fail
  refine gen_world (OwnAt w x _ _) ownAt_new ?_
  intro W1 hw1
  have H1 := Lib.hid hw1
  have b5 : W1.cell? ⟨w.heap.size, 5, none⟩ = some (.slice x.a1 x.ch.length x.c1) := by rw [blk_cell hw1.box]; rfl
  have hl1 : w.heap.size < W1.heap.size := lt_of_block hw1.box
  clear hw1
  go_upto_region 2 with (go_at_call 55; (with_reducible refine (C1.out _ H1.out.low).mono ?_); rintro e w5 ⟨a5, c5, rfl, i5, ii5, l5, m5, q5⟩; have H5 := Lib.hid (H1.out.below q5); have I5 := Lib.hid (And.intro i5 (And.intro ii5 (And.intro l5 m5))); have f5 := blk_free H5.out.box 5; have b5' : w5.cell? ⟨w.heap.size, 5, none⟩ = some (.slice x.a1 x.ch.length x.c1) := (by rw [blk_cell H5.out.box]; rfl); have hl5 : w.heap.size < w5.heap.size := (lt_of_block H5.out.box); clear i5 ii5 l5 m5 q5)
  refine gen_world (fun v => OwnAt w x (.slice a5 x.ch.length c5) (.slice x.a2 x.us.length x.c2) v ∧ Ints v a5 x.ch ∧ IsI v a5 x.ch) ⟨(H5.out.one _).1, I5.out.1.kept I5.out.2.1 (H5.out.one _).2, I5.out.2.1.kept (H5.out.one _).2⟩ ?_
  intro W2 ⟨hw2, hi2⟩
  have H2 := Lib.hid hw2
  have I2 := Lib.hid hi2
  have LM := Lib.hid I5.out.2.2
  have b6 : W2.cell? ⟨w.heap.size, 6, none⟩ = some (.slice x.a2 x.us.length x.c2) := by rw [blk_cell hw2.box]; rfl
  have hl2 : w.heap.size < W2.heap.size := lt_of_block hw2.box
  clear hw2 hi2 H1 H5 I5 b5 b5' f5 hl1 hl5
  go_upto_region 3 with (go_at_call 56; (with_reducible refine (C2.out _ H2.out.low).mono ?_); rintro e w6 ⟨a6, c6, rfl, i6, ii6, l6, m6, q6⟩; have H6 := Lib.hid (H2.out.below q6); have I6 := Lib.hid (And.intro i6 (And.intro ii6 (And.intro l6 m6))); have J6 := Lib.hid (And.intro (I2.out.1.below q6) (I2.out.2.below q6)); have f6 := blk_free H6.out.box 6; have b6' : w6.cell? ⟨w.heap.size, 6, none⟩ = some (.slice x.a2 x.us.length x.c2) := (by rw [blk_cell H6.out.box]; rfl); have hl6 : w.heap.size < w6.heap.size := (lt_of_block H6.out.box); clear i6 ii6 l6 m6 q6)
  refine gen_world (fun v => OwnAt w x (.slice a5 x.ch.length c5) (.slice a6 x.us.length c6) v ∧ (Ints v a5 x.ch ∧ IsI v a5 x.ch) ∧ Ints v a6 x.us ∧ IsI v a6 x.us) ⟨(H6.out.two _).1, ⟨J6.out.1.kept J6.out.2 (H6.out.two _).2, J6.out.2.kept (H6.out.two _).2⟩, I6.out.1.kept I6.out.2.1 (H6.out.two _).2, I6.out.2.1.kept (H6.out.two _).2⟩ ?_
  intro W3 ⟨hw3, hi3, hj3⟩
  have H3 := Lib.hid hw3
  have I3 := Lib.hid hi3
  have J3 := Lib.hid hj3
  have LM6 := Lib.hid I6.out.2.2
  have c0 : W3.cell? ⟨w.heap.size, 0, none⟩ = some (.int .i64 x.id) := by rw [blk_cell hw3.box]; rfl
  have c1 : W3.cell? ⟨w.heap.size, 1, none⟩ = some (.int .i64 x.c) := by rw [blk_cell hw3.box]; rfl
  have c2 : W3.cell? ⟨w.heap.size, 2, none⟩ = some (.int .i64 x.d) := by rw [blk_cell hw3.box]; rfl
  have c3 : W3.cell? ⟨w.heap.size, 3, none⟩ = some (.int .i64 x.t) := by rw [blk_cell hw3.box]; rfl
  have c4 : W3.cell? ⟨w.heap.size, 4, none⟩ = some (.int .i64 x.p) := by rw [blk_cell hw3.box]; rfl
  have c5' : W3.cell? ⟨w.heap.size, 5, none⟩ = some (.slice a5 x.ch.length c5) := by rw [blk_cell hw3.box]; rfl
  have c6' : W3.cell? ⟨w.heap.size, 6, none⟩ = some (.slice a6 x.us.length c6) := by rw [blk_cell hw3.box]; rfl
  have r0 : W3.cell? ⟨w.heap.size + 1, 0, none⟩ = some (.int .i64 0) := by rw [blk_cell hw3.res]; rfl
  have r1 : W3.cell? ⟨w.heap.size + 1, 1, none⟩ = some (.int .i64 0) := by rw [blk_cell hw3.res]; rfl
  have r2 : W3.cell? ⟨w.heap.size + 1, 2, none⟩ = some (.int .i64 0) := by rw [blk_cell hw3.res]; rfl
  have r3 : W3.cell? ⟨w.heap.size + 1, 3, none⟩ = some (.int .i64 0) := by rw [blk_cell hw3.res]; rfl
  have r4 : W3.cell? ⟨w.heap.size + 1, 4, none⟩ = some (.int .i64 0) := by rw [blk_cell hw3.res]; rfl
  have r5 : W3.cell? ⟨w.heap.size + 1, 5, none⟩ = some (.slice none 0 0) := by rw [blk_cell hw3.res]; rfl
  have r6 : W3.cell? ⟨w.heap.size + 1, 6, none⟩ = some (.slice none 0 0) := by rw [blk_cell hw3.res]; rfl
  have f0 := blk_free hw3.res 0
  have f1 := blk_free hw3.res 1
  have f2 := blk_free hw3.res 2
  have f3 := blk_free hw3.res 3
  have f4 := blk_free hw3.res 4
  have f5 := blk_free hw3.res 5
  have f6' := blk_free hw3.res 6
  have hr1 : w.heap.size + 1 < W3.heap.size := lt_of_block hw3.res
  have HFIN : Hid (∀ x0 x1 x2 x3 x4 x5 x6, OwnBack x w (.returned (.agg #[.int .i64 x.id, .int .i64 x.c, .int .i64 x.d, .int .i64 x.t, .int .i64 x.p, .slice a5 x.ch.length c5, .slice a6 x.us.length c6])) ((((((((W3.setCell ⟨w.heap.size + 1, 0, none⟩ x0).setCell ⟨w.heap.size + 1, 1, none⟩ x1).setCell ⟨w.heap.size + 1, 2, none⟩ x2).setCell ⟨w.heap.size + 1, 3, none⟩ x3).setCell ⟨w.heap.size + 1, 4, none⟩ x4).setCell ⟨w.heap.size + 1, 5, none⟩ x5).setCell ⟨w.heap.size + 1, 6, none⟩ x6))) := by
    intro x0 x1 x2 x3 x4 x5 x6
    have hk := keepI_set7 H3.out.res x0 x1 x2 x3 x4 x5 x6
    exact ⟨⟨x.id, x.c, x.d, x.t, x.p, a5, x.ch, c5, a6, x.us, c6⟩, rfl, rfl, ⟨I3.out.1.kept I3.out.2 hk, J3.out.1.kept J3.out.2 hk, LM.out.1, LM.out.2, LM6.out.1, LM6.out.2⟩, ⟨I3.out.2.kept hk, J3.out.2.kept hk⟩, below_set7 H3.out.low (Nat.le_succ _) x0 x1 x2 x3 x4 x5 x6⟩
  clear hw3 hi3 hj3 H2 H6 I2 I6 J6 b6 b6' f6 hl2 hl6
  go_wp2_with fail
  exact bodyPost_ret (v := .agg #[.int .i64 x.id, .int .i64 x.c, .int .i64 x.d, .int .i64 x.t, .int .i64 x.p, .slice a5 x.ch.length c5, .slice a6 x.us.length c6]) (by simp [results, Try.results43, go_sem, r0, r1, r2, r3, r4, r5, r6]) rfl (HFIN.out _ _ _ _ _ _ _)
end Go.Proofs.Ytknjldmpcokgfaa
