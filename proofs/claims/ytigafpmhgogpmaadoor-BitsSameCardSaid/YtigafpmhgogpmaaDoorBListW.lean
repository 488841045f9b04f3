/-
  The walk over the list of a set.
-/
import Derived.Test.YtigafpmhgogpmaaDoorBIter
import Derived.Laws.MakeOwn
namespace Go.Proofs.YtigafpmhgogpmaaDoor
open Go.RowKit Go.Shelf
attribute [local go_sem] Oper.semAt_some

theorem infoInt : (Tryd.prog.info? 3).map (fun i => (i.zero, i.size, i.bytes)) = some (some (.int .i64 0), 1, 8) := by kernel_rfl

theorem make_run (c : Nat) (hc : c ≤ 256) (w : World) : (Instr.makeSlice 25 (.int .i64 0) (.int .i64 (c : Int))).run Tryd.prog w = .ok (.slice (some ⟨w.heap.size, 0, none⟩) 0 c) (w.alloc (.cells (madeCells #[.int .i64 0] c) 3)) := by
  obtain ⟨i0, hi, hz0, hz1, hz2⟩ := info_parts infoInt
  have h := run_make w 25 3 i0 (.int .i64 0) Tryd.underlying25 hi hz0 .i64 .i64 0 c (by omega) (by omega) (by rw [hz2]; omega) (by omega)
  rw [hz1] at h
  simpa [Value.cells] using h

/-- What the list of a set is: a row of its own. -/
def ListPost (p : Nat → Bool) (w : World) (e : Ending) (w' : World) : Prop :=
  ∃ v, e = .returned v ∧ w'.ownsRow w.heap.size 3 1 v (els p).length ((els p).map (Value.int .i64)) ∧ Below w.heap.size w w'

set_option maxRecDepth 100000 in
set_option maxHeartbeats 4000000 in
theorem list_in (p : Nat → Bool) (w : World) (hT : Tab w) : Calls Tryd.prog 18 #[.agg #[.int .u64 (wd p 0), .int .u64 (wd p 1), .int .u64 (wd p 2), .int .u64 (wd p 3)]] w (ListPost p w) := by
  have hg : 0 < w.heap.size := block_of_cell (hT 0 (by decide))
  have HT := Lib.hid hT
  have hel : (els p).length ≤ 256 := by unfold els; rw [List.length_map, below_length]; exact cntN_le p 256
  have hcn : cntN p 256 ≤ 256 := cntN_le p 256
  have hmk := make_run (cntN p 256) hcn
  have L := Lib.hid (fun w => len_any p w)
  have NU := Lib.hid (fun n w => numbers_in p n w)
  have IT := Lib.hid (fun n hn Bn n₀ w => iter_stops n hn Bn n₀ p w)
  obtain ⟨i0, hi, hz0, hz1, hz2⟩ := info_parts infoInt
  clear hT
  generalize hel2 : els p = E at *
  have HE := Lib.hid hel2; clear hel2
  generalize cntN p 256 = c at *
  refine (callsIn_wide (n := 3)).1 ?_
  refine callsIn_of_wp_marks Tryd.func18 rfl trivial ?_ rfl
  simp only [Tryd.ntmps18, List.size_toArray, List.length_cons, List.length_nil, Nat.reduceAdd, Nat.reduceSub, Array.replicate_succ, Array.replicate_zero, List.push_toArray, List.append_toArray, List.nil_append, List.cons_append]
  gi_wp2_with (first | (refine ⟨trivial, ?_⟩; gi_at_call 28; (refine (callsIn_wide.2 (L.out _)).mono ?_); rintro e w1 ⟨rfl, hw1⟩; have FS := Lib.hid (Four.next hw1 (Four.new w _ _ _ _ _)); have HB1 := Lib.hid (below_next hw1 ((Below.refl w.heap.size w).alloc (Nat.le_refl _) _) (Nat.le_refl _)); obtain ⟨b0, b1, b2, b3, _, _, _, _⟩ := FS.out; have hlt := FS.out.lt; clear hw1) | (refine ⟨trivial, ?_⟩; gi_at_call 31; (refine (NU.out _ _).mono ?_); rintro e w' ⟨rfl, rfl⟩))
  have hB1 := HB1.out
  have oR : (w1.alloc (.cells (madeCells #[.int .i64 0] c) 3)).ownsRow w.heap.size 3 1 (.slice (some ⟨w1.heap.size, 0, none⟩) 0 c) 0 [] := World.ownsRow_made w1 _ c hB1.size (by unfold maxLen; omega) (by rw [size_madeCells, Nat.mul_one])
  have bL := Boxed.new (w1.alloc (.cells (madeCells #[.int .i64 0] c) 3)) 25 (.slice (some ⟨w1.heap.size, 0, none⟩) 0 c)
  rw [World.size_alloc] at bL
  have fN := Four.new ((w1.alloc (.cells (madeCells #[.int .i64 0] c) 3)).alloc (.cells #[.slice (some ⟨w1.heap.size, 0, none⟩) 0 c] 25)) (wd p 0) (wd p 1) (wd p 2) (wd p 3) 24
  rw [World.size_alloc, World.size_alloc] at fN
  have hB2 := ((hB1.alloc hB1.size (.cells (madeCells #[.int .i64 0] c) 3)).alloc (Nat.le_trans hB1.size (by simp)) (.cells #[.slice (some ⟨w1.heap.size, 0, none⟩) 0 c] 25)).alloc (Nat.le_trans hB1.size (by simp; omega)) (.cells #[.int .u64 (wd p 0), .int .u64 (wd p 1), .int .u64 (wd p 2), .int .u64 (wd p 3)] 24)
  have hs1 : w.heap.size ≤ w1.heap.size := hB1.size
  refine wpIn_rangeFunc_ownG rfl (by omega) (gf := 33) (lb := #[.pointer (some ⟨w1.heap.size + 1 + 1, 0, none⟩)]) rfl trivial (enters_of Tryd.func33 (by kernel_rfl) rfl)
    (IT.out _ (by omega) (w1.heap.size + 1 + 1) w.heap.size _ hg (by simp; omega) fN (HT.out.below hB2 hg)) belowK_t (belowK_b (by simp; omega)) (Below.refl _ _) (fun _ => rfl)
    (fun pre W => (∃ v, Boxed W (w1.heap.size + 1) 25 v ∧ W.ownsRow w.heap.size 3 1 v pre.length (pre.map (Value.int .i64)) ∧ True) ∧ Below w.heap.size w W)
    (fun _ _ _ => False)
    (OwnFrom.and (Own.from (holdsRow_own w.heap.size (w1.heap.size + 1) 25 3 1 (fun pre : List Int => pre.length) (fun pre : List Int => pre.map (Value.int .i64)) (fun _ _ => True)) _) (ownFrom_below (Nat.le_refl _) (by simp; omega)))
    (fun _ _ _ _ _ hs _ _ => hs)
    ⟨⟨_, bL.alloc _, (oR.alloc _).alloc _, trivial⟩, hB2⟩
    (fun x => { tmps := #[.agg #[.int .u64 (wd p 0), .int .u64 (wd p 1), .int .u64 (wd p 2), .int .u64 (wd p 3)], .pointer (some ⟨w.heap.size, 0, none⟩), .slice none 0 0, .pointer (some ⟨w1.heap.size + 1, 0, none⟩), .int .i64 x, .agg #[.int .u64 (wd p 0), .int .u64 (wd p 1), .int .u64 (wd p 2), .int .u64 (wd p 3)], .int .i64 c, .slice (some ⟨w1.heap.size, 0, none⟩) 0 c, .agg #[.int .u64 (wd p 0), .int .u64 (wd p 1), .int .u64 (wd p 2), .int .u64 (wd p 3)], .func (.func 33) #[] #[.pointer (some ⟨w1.heap.size + 1 + 1, 0, none⟩)], .int .i64 x, undef, undef, undef, undef, undef], defers := [] }) ?assign ?body ?done ?stop
  case assign =>
    intro l x W K hK
    gi_wp2
    exact hK
  case body =>
    rintro l pre x W ⟨⟨v, hv, hrow, _⟩, hB⟩ hltp
    have hc := hv.cell
    have hpl : pre.length ≤ 256 := by omega
    clear hmk b0 b1 b2 b3
    gi_wp2_with (gi_at_builtin; refine wpListIn_append_own _ rfl _ _ 25 rfl w.heap.size 3 i0 (.int .i64 0) 1 8 Tryd.underlying25 hi hz0 hz1 hz2 rfl (by decide) _ _ _ rfl (hrow.alloc _) ⟨W.heap.size, 0, none⟩ 1 1 [.int .i64 x] rfl rfl (cell_one_new _ _ _) (by simp [Value.oneCell']) (by unfold maxLen; omega) (by omega) (by have := hB.size; simp; omega) ?_; intro v' w3 hown' hgrow _; obtain ⟨g', cap', rfl⟩ := ownsRow_succ hown'; obtain ⟨hv1, hv2, hr2, hk2, hb2⟩ := hv.appended (by decide) hrow hB.size (by omega) hown' hgrow; have hc1 := hv1.cell; have hf1 := hv1.frozen)
    exact ⟨hk2.from _, hb2, ⟨_, hv2, by simpa using hr2, trivial⟩, hB.trans hb2⟩
  case done =>
    rintro D ys W hD rfl ⟨⟨v, hv, hrow, _⟩, hB⟩ hK
    have hc := hv.cell
    clear hmk b0 b1 b2 b3
    gi_wp2
    refine ⟨by simp, .inl ⟨_, _, rfl, run_takeDeferred hK, ?_⟩⟩
    exact ⟨_, results_tmp rfl _ _ _, v, rfl, by rw [HE.out]; exact ownsRow_putObj hrow _ hK rfl, hB.trans (belowK_b (w := w) (Nat.le_refl _) W D _ _ (by simp at hD; omega) hK rfl rfl)⟩
  case stop =>
    rintro D c pre W _ _ h _
    exact h.elim

end Go.Proofs.YtigafpmhgogpmaaDoor
