/- Texts of this claim, put together: YRef4, YRefP, YLaw1, YLaw3, YLaw4, YLaw5, YTied2, LTied, LTied5, KOpen, KOpen2. -/
import Derived.Test.YtlpffgmfgkleiaaDoorRows
import Derived.Test.YtlpffgmfgkleiaaDoorMT6
import Derived.Laws.BitsLemmas
import Derived.ProofKit
import Derived.LaidMore
import Derived.Lay
import Derived.OpenShut
import Derived.Lib.SmallJoins
import Derived.Lib.LaidTab
import Derived.Stop.Joined
import Derived.Deep.Slices
set_option linter.unusedVariables false
set_option linter.unusedSimpArgs false

/-
  The walk over the task that the document reads out of a row.
-/
namespace Go.Proofs.YtlpffgmfgkleiaaDoor
open Go.RowKit Go.Maps

theorem rnumK_any {w : World} {a : Option Addr} {n cap k : Nat} {W : List WV} (h : Words w a n cap W) (hk : k < 4) (hW : ∀ x ∈ W, (x.tx.size : Int) ≤ 9223372036854775807) {M : Int} (hM : mostK k = M) : Calls Tryd.prog 44 #[.slice a n cap, .int .i64 (2 + (k : Int)), .string (nameK k), .int .i64 M] w (RNumIs (numK W k) w) := by
  subst hM
  have e : ((2 + k : Nat) : Int) = 2 + (k : Int) := by omega
  have q := rnum_any h (show 2 + k ≤ 1000 by omega) hW (nameK k) (mostK k)
  rw [e] at q
  exact q
theorem size_set (w : World) (a : Addr) (v : Value) : (w.setCell a v).heap.size = w.heap.size := by simp [World.setCell]
theorem st2 {w u2 : World} {k1 : Nat} {v0 v1 : Value} (hk : w.heap.size < k1) (hb : Below w.heap.size w u2) (hx : Box u2 w.heap.size GotT #[.int .i64 0, .int .i64 0, .int .i64 0, .int .i64 0, .int .i64 0, .slice none 0 0, .slice none 0 0, .int .i64 0, .int .i64 0]) : Below w.heap.size w ((u2.setCell ⟨k1, 0, none⟩ v0).setCell ⟨k1, 1, none⟩ v1) ∧ Box ((u2.setCell ⟨k1, 0, none⟩ v0).setCell ⟨k1, 1, none⟩ v1) w.heap.size GotT #[.int .i64 0, .int .i64 0, .int .i64 0, .int .i64 0, .int .i64 0, .slice none 0 0, .slice none 0 0, .int .i64 0, .int .i64 0] := by
  refine ⟨(hb.setCell (p := ⟨k1, 0, none⟩) (Nat.le_of_lt hk) _).setCell (p := ⟨k1, 1, none⟩) (Nat.le_of_lt hk) _, ?_⟩
  show _ = _
  rw [blk_far (a := ⟨k1, 1, none⟩) (Nat.ne_of_lt hk), blk_far (a := ⟨k1, 0, none⟩) (Nat.ne_of_lt hk)]; exact hx
theorem id_laid {w u2 : World} {k1 id : Nat} (hk : w.heap.size < k1) (hb : Below w.heap.size w u2) (hx : Box u2 w.heap.size GotT #[.int .i64 0, .int .i64 0, .int .i64 0, .int .i64 0, .int .i64 0, .slice none 0 0, .slice none 0 0, .int .i64 0, .int .i64 0]) (hy : Box u2 k1 NumT #[.int .i64 0, .bool false]) :
    (fun v => Below w.heap.size w v ∧ Box v w.heap.size GotT #[.int .i64 0, .int .i64 0, .int .i64 0, .int .i64 0, .int .i64 0, .slice none 0 0, .slice none 0 0, .int .i64 0, .int .i64 0] ∧ Box v k1 NumT #[.int .i64 id, .bool true] ∧ Box v u2.heap.size 99 #[.string bC, .string bD, .string bT, .string bP] ∧ Box v (u2.heap.size + 1) 100 (four fun _ => 0)) ((((u2.setCell ⟨k1, 0, none⟩ (.int .i64 id)).setCell ⟨k1, 1, none⟩ (.bool true)).alloc (.cells #[.string bC, .string bD, .string bT, .string bP] 99)).alloc (.cells #[.int .i64 0, .int .i64 0, .int .i64 0, .int .i64 0] 100)) := by
  have hl := lt_of_block hy
  have hx1 : Box ((u2.setCell ⟨k1, 0, none⟩ (.int .i64 id)).setCell ⟨k1, 1, none⟩ (.bool true)) w.heap.size GotT #[.int .i64 0, .int .i64 0, .int .i64 0, .int .i64 0, .int .i64 0, .slice none 0 0, .slice none 0 0, .int .i64 0, .int .i64 0] := by
    show _ = _
    rw [blk_far (a := ⟨k1, 1, none⟩) (Nat.ne_of_lt hk), blk_far (a := ⟨k1, 0, none⟩) (Nat.ne_of_lt hk)]; exact hx
  have hy1 : Box ((u2.setCell ⟨k1, 0, none⟩ (.int .i64 id)).setCell ⟨k1, 1, none⟩ (.bool true)) k1 NumT #[.int .i64 id, .bool true] := by
    have q0 := blk_set (o := 0) hy (.int .i64 (id : Int))
    exact blk_set (o := 1) q0 (.bool true)
  have hs : ((u2.setCell ⟨k1, 0, none⟩ (.int .i64 id)).setCell ⟨k1, 1, none⟩ (.bool true)).heap.size = u2.heap.size := by rw [size_set, size_set]
  have hbb : Below w.heap.size w ((u2.setCell ⟨k1, 0, none⟩ (.int .i64 id)).setCell ⟨k1, 1, none⟩ (.bool true)) := (hb.setCell (p := ⟨k1, 0, none⟩) (Nat.le_of_lt hk) _).setCell (p := ⟨k1, 1, none⟩) (Nat.le_of_lt hk) _
  generalize ((u2.setCell ⟨k1, 0, none⟩ (.int .i64 id)).setCell ⟨k1, 1, none⟩ (.bool true)) = v at hx1 hy1 hs hbb ⊢
  refine ⟨below_up hbb (bw_alloc (bw_alloc (Below.refl _ _) _) _), kept_obj (bw_alloc (bw_alloc (Below.refl _ _) _) _) hx1, kept_obj (bw_alloc (bw_alloc (Below.refl _ _) _) _) hy1, ?_, ?_⟩
  · rw [← hs]; exact kept_obj (bw_alloc (Below.refl _ _) _) (heap_alloc_new v _)
  · rw [← hs]
    have := heap_alloc_new (v.alloc (.cells #[.string bC, .string bD, .string bT, .string bP] 99)) (.cells #[.int .i64 0, .int .i64 0, .int .i64 0, .int .i64 0] 100)
    rwa [World.size_alloc] at this
theorem num_laid {w u4 : World} {k1 k2 k id nn : Nat} {f : Nat → Nat} {o : Obj} (hk : w.heap.size < k2 + 1) (hk4 : k < 4) (hb : Below w.heap.size w u4) (hx : Box u4 w.heap.size GotT #[.int .i64 0, .int .i64 0, .int .i64 0, .int .i64 0, .int .i64 0, .slice none 0 0, .slice none 0 0, .int .i64 0, .int .i64 0]) (hy : Box u4 k1 NumT #[.int .i64 id, .bool true]) (hn : Box u4 k2 99 #[.string bC, .string bD, .string bT, .string bP]) (hf : Box u4 (k2 + 1) 100 (four f)) :
    Hid (Below w.heap.size w ((u4.setCell ⟨k2 + 1, k, none⟩ (.int .i64 nn)).alloc o)) ∧ Hid (Box ((u4.setCell ⟨k2 + 1, k, none⟩ (.int .i64 nn)).alloc o) w.heap.size GotT #[.int .i64 0, .int .i64 0, .int .i64 0, .int .i64 0, .int .i64 0, .slice none 0 0, .slice none 0 0, .int .i64 0, .int .i64 0]) ∧ Hid (Box ((u4.setCell ⟨k2 + 1, k, none⟩ (.int .i64 nn)).alloc o) k1 NumT #[.int .i64 id, .bool true]) ∧ Hid (Box ((u4.setCell ⟨k2 + 1, k, none⟩ (.int .i64 nn)).alloc o) k2 99 #[.string bC, .string bD, .string bT, .string bP]) ∧ Hid (Box ((u4.setCell ⟨k2 + 1, k, none⟩ (.int .i64 nn)).alloc o) (k2 + 1) 100 (four (upd f k nn))) := by
  have q : ∀ {b : Nat} {cs : Array Value} {T : TypeId}, Box u4 b T cs → T ≠ 100 → Box ((u4.setCell ⟨k2 + 1, k, none⟩ (.int .i64 nn)).alloc o) b T cs := fun {b cs T} h hT => by
    refine kept_obj (bw_alloc (Below.refl _ _) _) ?_
    rw [blk_far (a := ⟨k2 + 1, k, none⟩) (typ_ne h hf hT)]
    exact h
  refine ⟨below_up (hb.setCell (p := ⟨k2 + 1, k, none⟩) (Nat.le_of_lt hk) _) (bw_alloc (Below.refl _ _) _), q hx (by decide), q hy (by decide), q hn (by decide), ?_⟩
  refine kept_obj (bw_alloc (Below.refl _ _) _) ?_
  have h := blk_set (o := k) hf (.int .i64 (nn : Nat))
  rw [four_set f hk4 nn] at h
  exact h
theorem task_list : bTask.toList = [116, 97, 115, 107] := by rw [ByteArray.toList_eq]
theorem numL_lt {W : List WV} {k n : Nat} (h : numK W k = some n) : 2 + k < W.length := by
  rcases Nat.lt_or_ge (2 + k) W.length with q | q
  · exact q
  · unfold numK numAt valAt at h; rw [wordAt_none q] at h; cases h
set_option maxRecDepth 100000 in
set_option maxHeartbeats 8000000 in
theorem rline_any {w : World} {a : Option Addr} {n cap : Nat} {W : List WV} (h : Words w a n cap W) (hW : ∀ x ∈ W, x.tx.size ≤ 900000) : Calls Tryd.prog 26 #[.slice a n cap] w (RLineIs W w) := by
  have hl := h.len
  have HL := Lib.hid hl
  have hn9 : (n : Int) ≤ 9223372036854775807 := by have := h.le; have := h.small; omega
  have hz := zeroGot
  have hz2 := zeroNumb
  have hz3 := zeroTwo
  have HW := Lib.hid h
  have HWS : Hid (∀ x ∈ W, (x.tx.size : Int) ≤ 9223372036854775807) := fun x hx => by have := hW x hx; omega
  have HWZ : Hid (∀ i z name, valAt W i name = some z → z.size ≤ 900000) := fun i z name hz => by
    unfold valAt at hz
    obtain ⟨s, h1, h2⟩ := Option.bind_eq_some_iff.1 hz
    have h3 := namedV_size h2
    have h4 := wordAt_size hW h1
    omega
  have CW : Hid (∀ (i : Nat) (I : Int) v, (i : Int) = I → i ≤ 1000 → Below w.heap.size w v → Calls Tryd.prog 25 #[.slice a n cap, .int .i64 I] v (WrongIs (placeAt W i) v)) := fun i I v e hi hb => e ▸ wrong_any (HW.out.below hb) hi
  have CVN : Hid (∀ (i : Nat) (I : Int) (name : ByteArray) (v : World), (i : Int) = I → i ≤ 1000 → valAt W i name = none → Below w.heap.size w v → Calls Tryd.prog 45 #[.slice a n cap, .int .i64 I, .string name] v fun y w' => y = .returned (.agg #[.string ⟨#[]⟩, .string ⟨#[]⟩, .bool false]) ∧ Below v.heap.size v w') := fun i I name v e hi hn hb => by
    have q := rvalue_any (HW.out.below hb) hi HWS.out name
    unfold ValIs at q; rw [hn] at q; subst e; exact q
  have CVS : Hid (∀ (i : Nat) (I : Int) (name z : ByteArray) (v : World), (i : Int) = I → i ≤ 1000 → valAt W i name = some z → Below w.heap.size w v → Calls Tryd.prog 45 #[.slice a n cap, .int .i64 I, .string name] v fun y w' => y = .returned (.agg #[.string name, .string z, .bool true]) ∧ Below v.heap.size v w') := fun i I name z v e hi hn hb => by
    have q := rvalue_any (HW.out.below hb) hi HWS.out name
    unfold ValIs at q; rw [hn] at q; subst e; exact q
  have CE : Hid (∀ v, Below w.heap.size w v → Calls Tryd.prog 43 #[.slice a n cap] v fun y w' => y = .returned (.int .i64 (endAt W W.length)) ∧ Below v.heap.size v w') := fun v hb => rend_any (HW.out.below hb)
  have CN3 : Hid (∀ v, Below w.heap.size w v → Calls Tryd.prog 44 #[.slice a n cap, .int .i64 5, .string bP, .int .i64 99] v (RNumIs (numK W 3) v)) := fun v hb => rnumK_any (k := 3) (HW.out.below hb) (by omega) HWS.out rfl
  unfold RNumIs at CN3
  have CNK0 : Hid (∀ (k : Nat), k < 4 → ∀ (M : Int), mostK k = M → ∀ v, Below w.heap.size w v → Calls Tryd.prog 44 #[.slice a n cap, .int .i64 (2 + (k : Int)), .string (nameK k), .int .i64 M] v (RNumIs (numK W k) v)) := fun k hk M hM v hb => rnumK_any (HW.out.below hb) hk HWS.out hM
  unfold WrongIs at CW
  go_enter Tryd.func26, Tryd.ntmps26
  go_upto_region 1 with fail
  refine gen_world (fun v => Below w.heap.size w v ∧ Box v w.heap.size GotT #[.int .i64 0, .int .i64 0, .int .i64 0, .int .i64 0, .int .i64 0, .slice none 0 0, .slice none 0 0, .int .i64 0, .int .i64 0]) ⟨bw_alloc (Below.refl _ _) _, heap_alloc_new w _⟩ ?_
  intro u0 ⟨hb0, hx0⟩
  have B0 := Lib.hid hb0
  have X0 := Lib.hid hx0
  clear hb0 hx0
  by_cases e0 : wordAt W 0 = some bTask
  rotate_left
  · by_cases hn0 : n = 0
    · subst hn0
      have HB : Hid (lineOf W = .error (placeAt W 0)) := line_first e0
      clear e0
      go_wp2_with (go_at_call 25; (with_reducible refine (CW.out 0 0 _ rfl (by omega) B0.out).mono ?_); rintro y ux ⟨rfl, bx⟩; have BX := Lib.hid (below_up B0.out bx); have hx := kept_obj bx X0.out; have r0 : ux.cell? ⟨w.heap.size, 0, none⟩ = some (.int .i64 0) := blk_cell hx 0; have r1 : ux.cell? ⟨w.heap.size, 1, none⟩ = some (.int .i64 0) := blk_cell hx 1; have r2 : ux.cell? ⟨w.heap.size, 2, none⟩ = some (.int .i64 0) := blk_cell hx 2; have r3 : ux.cell? ⟨w.heap.size, 3, none⟩ = some (.int .i64 0) := blk_cell hx 3; have r4 : ux.cell? ⟨w.heap.size, 4, none⟩ = some (.int .i64 0) := blk_cell hx 4; have r5 : ux.cell? ⟨w.heap.size, 5, none⟩ = some (.slice none 0 0) := blk_cell hx 5; have r6 : ux.cell? ⟨w.heap.size, 6, none⟩ = some (.slice none 0 0) := blk_cell hx 6; have r7 : ux.cell? ⟨w.heap.size, 7, none⟩ = some (.int .i64 0) := blk_cell hx 7; have r8 : ux.cell? ⟨w.heap.size, 8, none⟩ = some (.int .i64 0) := blk_cell hx 8; have f0 := blk_free hx 0; have f1 := blk_free hx 1; have f2 := blk_free hx 2; have f3 := blk_free hx 3; have f4 := blk_free hx 4; have f5 := blk_free hx 5; have f6 := blk_free hx 6; have f7 := blk_free hx 7; have f8 := blk_free hx 8; have hr := lt_of_block hx; clear bx hx)
      exact bodyPost_ret (v := .agg #[.int .i64 0, .int .i64 0, .int .i64 0, .int .i64 0, .int .i64 0, .slice none 0 0, .slice none 0 0, .int .i64 (placeAt W 0), .int .i64 10]) (by simp [results, Tryd.results26, go_sem, hr, r0, r1, r2, r3, r4, r5, r6, r7, r8]) rfl (rline_bad HB.out (by repeat (first | with_reducible exact BX.out | refine Below.setCell ?_ (by simp) _)))
    · obtain ⟨x, hx⟩ := nth_of hl (show 0 < n by omega)
      obtain ⟨g, o, rfl, z0, z1, z2⟩ := HW.out.view.at_ hx
      have hne : ¬ x.tx = bTask := fun q => e0 (by rw [wordAt_some hx, q])
      have d1 : ¬ (n : Int) = 0 := by omega
      have d2 : (0 : Int) < (n : Int) := by omega
      have d4 : (x.tx.toList == [116, 97, 115, 107]) = false := by rw [← task_list, beq_bytes, decide_eq_false hne]
      have d5 : (x.tx.toList != [116, 97, 115, 107]) = true := by rw [bne, d4]; rfl
      have d6 : ((n : Int) == 0) = false := by rw [beq_eq_false_iff_ne]; exact d1
      have y2 := kept_cell B0.out z2
      clear hx hne
      have HB : Hid (lineOf W = .error (placeAt W 0)) := line_first e0
      clear e0
      go_wp2_with (go_at_call 25; (with_reducible refine (CW.out 0 0 _ rfl (by omega) B0.out).mono ?_); rintro y ux ⟨rfl, bx⟩; have BX := Lib.hid (below_up B0.out bx); have hx := kept_obj bx X0.out; have r0 : ux.cell? ⟨w.heap.size, 0, none⟩ = some (.int .i64 0) := blk_cell hx 0; have r1 : ux.cell? ⟨w.heap.size, 1, none⟩ = some (.int .i64 0) := blk_cell hx 1; have r2 : ux.cell? ⟨w.heap.size, 2, none⟩ = some (.int .i64 0) := blk_cell hx 2; have r3 : ux.cell? ⟨w.heap.size, 3, none⟩ = some (.int .i64 0) := blk_cell hx 3; have r4 : ux.cell? ⟨w.heap.size, 4, none⟩ = some (.int .i64 0) := blk_cell hx 4; have r5 : ux.cell? ⟨w.heap.size, 5, none⟩ = some (.slice none 0 0) := blk_cell hx 5; have r6 : ux.cell? ⟨w.heap.size, 6, none⟩ = some (.slice none 0 0) := blk_cell hx 6; have r7 : ux.cell? ⟨w.heap.size, 7, none⟩ = some (.int .i64 0) := blk_cell hx 7; have r8 : ux.cell? ⟨w.heap.size, 8, none⟩ = some (.int .i64 0) := blk_cell hx 8; have f0 := blk_free hx 0; have f1 := blk_free hx 1; have f2 := blk_free hx 2; have f3 := blk_free hx 3; have f4 := blk_free hx 4; have f5 := blk_free hx 5; have f6 := blk_free hx 6; have f7 := blk_free hx 7; have f8 := blk_free hx 8; have hr := lt_of_block hx; clear bx hx)
      exact bodyPost_ret (v := .agg #[.int .i64 0, .int .i64 0, .int .i64 0, .int .i64 0, .int .i64 0, .slice none 0 0, .slice none 0 0, .int .i64 (placeAt W 0), .int .i64 10]) (by simp [results, Tryd.results26, go_sem, hr, r0, r1, r2, r3, r4, r5, r6, r7, r8]) rfl (rline_bad HB.out (by repeat (first | with_reducible exact BX.out | refine Below.setCell ?_ (by simp) _)))
  have hl0 := w_lt e0
  obtain ⟨x, hx⟩ := nth_of hl (show 0 < n by omega)
  rw [hl] at hl0
  clear hl
  obtain ⟨g, o, rfl, z0, z1, z2⟩ := HW.out.view.at_ hx
  have hxt : x.tx = bTask := by rw [wordAt_some hx] at e0; exact Option.some.inj e0
  have d1 : ¬ (n : Int) = 0 := by omega
  have d2 : (0 : Int) < (n : Int) := by omega
  have d4 : (x.tx.toList == [116, 97, 115, 107]) = true := by rw [← task_list, beq_bytes, decide_eq_true hxt]
  have d5 : (x.tx.toList != [116, 97, 115, 107]) = false := by rw [bne, d4]; rfl
  have d6 : ((n : Int) == 0) = false := by rw [beq_eq_false_iff_ne]; exact d1
  have y2 := kept_cell B0.out z2
  have HV0 := Lib.hid HW.out.view
  clear hx hxt z0 z1 z2
  go_upto_region 4 with fail
  refine gen_world (fun v => Below w.heap.size w v ∧ Box v w.heap.size GotT #[.int .i64 0, .int .i64 0, .int .i64 0, .int .i64 0, .int .i64 0, .slice none 0 0, .slice none 0 0, .int .i64 0, .int .i64 0] ∧ Box v u0.heap.size NumT #[.int .i64 0, .bool false]) ⟨below_up B0.out (bw_alloc (Below.refl _ _) _), kept_obj (bw_alloc (Below.refl _ _) _) X0.out, heap_alloc_new u0 _⟩ ?_
  intro u1 ⟨hb1, hx1, hy1⟩
  have hk1 : w.heap.size < u0.heap.size := lt_of_block X0.out
  generalize u0.heap.size = k1 at hk1 hy1 ⊢
  have B1 := Lib.hid hb1
  have X1 := Lib.hid hx1
  have Y1 := Lib.hid hy1
  clear B0 X0 y2 d4 d5 d6
  have ar0 : u1.cell? ⟨k1, 0, none⟩ = some (.int .i64 0) := blk_cell hy1 0
  have ar1 : u1.cell? ⟨k1, 1, none⟩ = some (.bool false) := blk_cell hy1 1
  have af0 := blk_free hy1 0
  have af1 := blk_free hy1 1
  have ahr := lt_of_block hy1
  clear hb1 hx1 hy1
  cases e1 : idOf W with
  | none =>
    by_cases hn1 : 1 < n
    · obtain ⟨x1, hx1⟩ := nth_of HL.out hn1
      obtain ⟨g', o', eq1, y0, y1, y2⟩ := HV0.out.at_ hx1
      cases eq1
      have y2' := kept_cell B1.out y2
      have CI : Hid (∀ v, Calls Tryd.prog 24 #[.string x1.tx, .int .i64 99] v (NumB none v)) := fun v => by
        have q := rnumber_any x1.tx (HWS.out _ (List.mem_of_getElem? hx1)) 99 v
        have e : numOf x1.tx 99 = none := by unfold idOf at e1; rw [wordAt_some hx1] at e1; exact e1
        rwa [e] at q
      have d3 : (1 : Int) < (n : Int) := by omega
      clear hx1 y0 y1 y2
      go_upto_region 7 with (go_at_call 24; (with_reducible refine (CI.out _).mono ?_); rintro y u2 ⟨rfl, b2⟩; have B2 := Lib.hid (below_up B1.out b2); have X2 := Lib.hid (kept_obj b2 X1.out); have hy := kept_obj b2 Y1.out; have br0 : u2.cell? ⟨k1, 0, none⟩ = some (.int .i64 0) := blk_cell hy 0; have br1 : u2.cell? ⟨k1, 1, none⟩ = some (.bool false) := blk_cell hy 1; have bf0 := blk_free hy 0; have bf1 := blk_free hy 1; have bhr := lt_of_block hy; clear b2 hy)
      refine gen_world (fun v => Below w.heap.size w v ∧ Box v w.heap.size GotT #[.int .i64 0, .int .i64 0, .int .i64 0, .int .i64 0, .int .i64 0, .slice none 0 0, .slice none 0 0, .int .i64 0, .int .i64 0]) (st2 hk1 B2.out X2.out) ?_
      intro u3 ⟨hb3, hx3⟩
      have B3 := Lib.hid hb3
      have X3 := Lib.hid hx3
      clear hb3 hx3 B2 X2
      have HB : Hid (lineOf W = .error (placeAt W 1)) := line_id e0 e1
      clear e0 e1
      go_wp2_with (go_at_call 25; (with_reducible refine (CW.out 1 1 _ rfl (by omega) B3.out).mono ?_); rintro y ux ⟨rfl, bx⟩; have BX := Lib.hid (below_up B3.out bx); have hx := kept_obj bx X3.out; have r0 : ux.cell? ⟨w.heap.size, 0, none⟩ = some (.int .i64 0) := blk_cell hx 0; have r1 : ux.cell? ⟨w.heap.size, 1, none⟩ = some (.int .i64 0) := blk_cell hx 1; have r2 : ux.cell? ⟨w.heap.size, 2, none⟩ = some (.int .i64 0) := blk_cell hx 2; have r3 : ux.cell? ⟨w.heap.size, 3, none⟩ = some (.int .i64 0) := blk_cell hx 3; have r4 : ux.cell? ⟨w.heap.size, 4, none⟩ = some (.int .i64 0) := blk_cell hx 4; have r5 : ux.cell? ⟨w.heap.size, 5, none⟩ = some (.slice none 0 0) := blk_cell hx 5; have r6 : ux.cell? ⟨w.heap.size, 6, none⟩ = some (.slice none 0 0) := blk_cell hx 6; have r7 : ux.cell? ⟨w.heap.size, 7, none⟩ = some (.int .i64 0) := blk_cell hx 7; have r8 : ux.cell? ⟨w.heap.size, 8, none⟩ = some (.int .i64 0) := blk_cell hx 8; have f0 := blk_free hx 0; have f1 := blk_free hx 1; have f2 := blk_free hx 2; have f3 := blk_free hx 3; have f4 := blk_free hx 4; have f5 := blk_free hx 5; have f6 := blk_free hx 6; have f7 := blk_free hx 7; have f8 := blk_free hx 8; have hr := lt_of_block hx; clear bx hx)
      exact bodyPost_ret (v := .agg #[.int .i64 0, .int .i64 0, .int .i64 0, .int .i64 0, .int .i64 0, .slice none 0 0, .slice none 0 0, .int .i64 (placeAt W 1), .int .i64 10]) (by simp [results, Tryd.results26, go_sem, hr, r0, r1, r2, r3, r4, r5, r6, r7, r8]) rfl (rline_bad HB.out (by repeat (first | with_reducible exact BX.out | refine Below.setCell ?_ (by simp) _)))
    · have d3 : ¬ (1 : Int) < (n : Int) := by omega
      go_upto_region 7 with fail
      have HB : Hid (lineOf W = .error (placeAt W 1)) := line_id e0 e1
      clear e0 e1
      go_wp2_with (go_at_call 25; (with_reducible refine (CW.out 1 1 _ rfl (by omega) B1.out).mono ?_); rintro y ux ⟨rfl, bx⟩; have BX := Lib.hid (below_up B1.out bx); have hx := kept_obj bx X1.out; have r0 : ux.cell? ⟨w.heap.size, 0, none⟩ = some (.int .i64 0) := blk_cell hx 0; have r1 : ux.cell? ⟨w.heap.size, 1, none⟩ = some (.int .i64 0) := blk_cell hx 1; have r2 : ux.cell? ⟨w.heap.size, 2, none⟩ = some (.int .i64 0) := blk_cell hx 2; have r3 : ux.cell? ⟨w.heap.size, 3, none⟩ = some (.int .i64 0) := blk_cell hx 3; have r4 : ux.cell? ⟨w.heap.size, 4, none⟩ = some (.int .i64 0) := blk_cell hx 4; have r5 : ux.cell? ⟨w.heap.size, 5, none⟩ = some (.slice none 0 0) := blk_cell hx 5; have r6 : ux.cell? ⟨w.heap.size, 6, none⟩ = some (.slice none 0 0) := blk_cell hx 6; have r7 : ux.cell? ⟨w.heap.size, 7, none⟩ = some (.int .i64 0) := blk_cell hx 7; have r8 : ux.cell? ⟨w.heap.size, 8, none⟩ = some (.int .i64 0) := blk_cell hx 8; have f0 := blk_free hx 0; have f1 := blk_free hx 1; have f2 := blk_free hx 2; have f3 := blk_free hx 3; have f4 := blk_free hx 4; have f5 := blk_free hx 5; have f6 := blk_free hx 6; have f7 := blk_free hx 7; have f8 := blk_free hx 8; have hr := lt_of_block hx; clear bx hx)
      exact bodyPost_ret (v := .agg #[.int .i64 0, .int .i64 0, .int .i64 0, .int .i64 0, .int .i64 0, .slice none 0 0, .slice none 0 0, .int .i64 (placeAt W 1), .int .i64 10]) (by simp [results, Tryd.results26, go_sem, hr, r0, r1, r2, r3, r4, r5, r6, r7, r8]) rfl (rline_bad HB.out (by repeat (first | with_reducible exact BX.out | refine Below.setCell ?_ (by simp) _)))
  | some id =>
    have hn1 : 1 < n := by
      have : 1 < W.length := by
        rcases Nat.lt_or_ge 1 W.length with q | q
        · exact q
        · unfold idOf at e1; rw [wordAt_none q] at e1; cases e1
      have := HL.out; omega
    obtain ⟨x1, hx1⟩ := nth_of HL.out hn1
    obtain ⟨g', o', eq1, y0, y1, y2⟩ := HV0.out.at_ hx1
    cases eq1
    have y2' := kept_cell B1.out y2
    have CI : Hid (∀ v, Calls Tryd.prog 24 #[.string x1.tx, .int .i64 99] v (NumB (some id) v)) := fun v => by
      have q := rnumber_any x1.tx (HWS.out _ (List.mem_of_getElem? hx1)) 99 v
      have e : numOf x1.tx 99 = some id := by unfold idOf at e1; rw [wordAt_some hx1] at e1; exact e1
      rwa [e] at q
    have d3 : (1 : Int) < (n : Int) := by omega
    clear hx1 y0 y1 y2
    go_upto_region 10 with (go_at_call 24; (with_reducible refine (CI.out _).mono ?_); rintro y u2 ⟨rfl, b2⟩; have B2 := Lib.hid (below_up B1.out b2); have X2 := Lib.hid (kept_obj b2 X1.out); have hy := kept_obj b2 Y1.out; have Y2 := Lib.hid hy; have br0 : u2.cell? ⟨k1, 0, none⟩ = some (.int .i64 0) := blk_cell hy 0; have br1 : u2.cell? ⟨k1, 1, none⟩ = some (.bool false) := blk_cell hy 1; have bf0 := blk_free hy 0; have bf1 := blk_free hy 1; have bhr := lt_of_block hy; clear b2 hy)
    have hk12 : k1 < u2.heap.size := lt_of_block Y2.out
    refine gen_world (fun v => Below w.heap.size w v ∧ Box v w.heap.size GotT #[.int .i64 0, .int .i64 0, .int .i64 0, .int .i64 0, .int .i64 0, .slice none 0 0, .slice none 0 0, .int .i64 0, .int .i64 0] ∧ Box v k1 NumT #[.int .i64 id, .bool true] ∧ Box v u2.heap.size 99 #[.string bC, .string bD, .string bT, .string bP] ∧ Box v (u2.heap.size + 1) 100 (four fun _ => 0)) (id_laid hk1 B2.out X2.out Y2.out) ?_
    intro u3 ⟨hb3, hx3, hy3, hn3, hf3⟩
    have B3 := Lib.hid hb3
    have X3 := Lib.hid hx3
    have Y3 := Lib.hid hy3
    have hk13 : w.heap.size < u2.heap.size + 1 := by omega
    clear B1 X1 Y1 B2 X2 Y2 ar0 ar1 af0 af1 ahr br0 br1 bf0 bf1 bhr y2' CI hk12
    generalize u2.heap.size = k2 at hn3 hf3 hk13 ⊢
    have N3 := Lib.hid hn3
    have F3 := Lib.hid hf3
    clear hb3 hx3 hy3 hn3 hf3
    go_wp2_with fail
    go_loopw [6] (fun u wr => ∃ (k : Nat) (f : Nat → Nat), k ≤ 4 ∧ u = .int .i64 k ∧ Hid (∀ j, j < k → numK W j = some (f j)) ∧ Hid (Below w.heap.size w wr) ∧ Hid (Box wr w.heap.size GotT #[.int .i64 0, .int .i64 0, .int .i64 0, .int .i64 0, .int .i64 0, .slice none 0 0, .slice none 0 0, .int .i64 0, .int .i64 0]) ∧ Hid (Box wr k1 NumT #[.int .i64 id, .bool true]) ∧ Hid (Box wr k2 99 #[.string bC, .string bD, .string bT, .string bP]) ∧ Hid (Box wr (k2 + 1) 100 (four f))) (fun u _ => (4 - intOf u).toNat)
    case atStart => exact ⟨0, fun _ => 0, by omega, rfl, (fun j hj => absurd hj (Nat.not_lt_zero _)), B3, X3, Y3, N3, F3⟩
    case round =>
      obtain ⟨k, f, hk, rfl, HK, HB, HX, HY, HN, HF⟩ := hrel
      clear B3 X3 Y3 N3 F3
      by_cases hk4 : k < 4
      · have m0 : wr.cell? ⟨k2, k, none⟩ = some (.string (nameK k)) := (blk_cell HN.out k).trans (name_at hk4)
        have hkm : k2 < wr.heap.size := lt_of_block HN.out
        have d7 : (k : Int) < 4 := by omega
        have d8 : (0 : Int) ≤ (k : Int) := by omega
        have HW2 : Hid (IntKind.i64.wrap (2 + (k : Int)) = 2 + (k : Int)) := IntWalk.i64_in _ (by omega)
        have hcast : ((2 + k : Nat) : Int) = 2 + (k : Int) := by omega
        have hk1000 : 2 + k ≤ 1000 := by omega
        have CNK := Lib.hid (CNK0.out k hk4)
        unfold RNumIs at CNK
        cases e2 : numK W k with
        | none =>
          rw [e2] at CNK
          by_cases h3 : k = 3
          · subst h3
            rw [e2] at CN3
            have m3 : wr.cell? ⟨k2, 3, none⟩ = some (.string bP) := m0
            clear CNK HW2 hcast hk1000 d7 d8 m0
            go_upto_region 17 with (go_at_call 44; (with_reducible refine (CN3.out _ HB.out).mono ?_); rintro y u4 ⟨rfl, b4⟩; have HB4 := Lib.hid (below_up HB.out b4); have HX4 := Lib.hid (kept_obj b4 HX.out); have HF4 := Lib.hid (kept_obj b4 HF.out); have HY4 := Lib.hid (kept_obj b4 HY.out); have HN4 := Lib.hid (kept_obj b4 HN.out); clear b4)
            have HB : Hid (lineOf W = .error (placeAt W 5)) := line_bad (k := 3) e0 e1 hk4 (fun j hj => ⟨_, HK.out j hj⟩) e2
            clear e2
            go_wp2_with (go_at_call 25; (with_reducible refine (CW.out 5 5 _ rfl (by omega) (below_up HB4.out (bw_alloc (Below.refl _ _) _))).mono ?_); rintro y ux ⟨rfl, bx⟩; have BX := Lib.hid (below_up (below_up HB4.out (bw_alloc (Below.refl _ _) _)) bx); have hx := kept_obj bx (kept_obj (bw_alloc (Below.refl _ _) _) HX4.out); have r0 : ux.cell? ⟨w.heap.size, 0, none⟩ = some (.int .i64 0) := blk_cell hx 0; have r1 : ux.cell? ⟨w.heap.size, 1, none⟩ = some (.int .i64 0) := blk_cell hx 1; have r2 : ux.cell? ⟨w.heap.size, 2, none⟩ = some (.int .i64 0) := blk_cell hx 2; have r3 : ux.cell? ⟨w.heap.size, 3, none⟩ = some (.int .i64 0) := blk_cell hx 3; have r4 : ux.cell? ⟨w.heap.size, 4, none⟩ = some (.int .i64 0) := blk_cell hx 4; have r5 : ux.cell? ⟨w.heap.size, 5, none⟩ = some (.slice none 0 0) := blk_cell hx 5; have r6 : ux.cell? ⟨w.heap.size, 6, none⟩ = some (.slice none 0 0) := blk_cell hx 6; have r7 : ux.cell? ⟨w.heap.size, 7, none⟩ = some (.int .i64 0) := blk_cell hx 7; have r8 : ux.cell? ⟨w.heap.size, 8, none⟩ = some (.int .i64 0) := blk_cell hx 8; have f0 := blk_free hx 0; have f1 := blk_free hx 1; have f2 := blk_free hx 2; have f3 := blk_free hx 3; have f4 := blk_free hx 4; have f5 := blk_free hx 5; have f6 := blk_free hx 6; have f7 := blk_free hx 7; have f8 := blk_free hx 8; have hr := lt_of_block hx; clear bx hx)
            exact bodyPost_ret (v := .agg #[.int .i64 0, .int .i64 0, .int .i64 0, .int .i64 0, .int .i64 0, .slice none 0 0, .slice none 0 0, .int .i64 (placeAt W 5), .int .i64 10]) (by simp [results, Tryd.results26, go_sem, hr, r0, r1, r2, r3, r4, r5, r6, r7, r8]) rfl (rline_bad HB.out (by repeat (first | with_reducible exact BX.out | refine Below.setCell ?_ (by simp) _)))
          · have hM : mostK k = 1073741824 := by unfold mostK; rw [if_neg h3]
            have d9 : ((k : Int) == 3) = false := by rw [beq_eq_false_iff_ne]; omega
            have d10 : ¬ (k : Int) = 3 := by omega
            have CK := Lib.hid (CNK.out _ hM)
            clear CNK hM h3
            have hw2 := HW2.out
            go_upto_region 17 with (go_at_call 44; (with_reducible refine (CK.out _ HB.out).mono ?_); rintro y u4 ⟨rfl, b4⟩; have HB4 := Lib.hid (below_up HB.out b4); have HX4 := Lib.hid (kept_obj b4 HX.out); have HF4 := Lib.hid (kept_obj b4 HF.out); have HY4 := Lib.hid (kept_obj b4 HY.out); have HN4 := Lib.hid (kept_obj b4 HN.out); clear b4)
            have HB : Hid (lineOf W = .error (placeAt W (2 + k))) := line_bad e0 e1 hk4 (fun j hj => ⟨_, HK.out j hj⟩) e2
            clear e2
            go_wp2_with (go_at_call 25; (with_reducible refine (CW.out (2 + k) (2 + (k : Int)) _ hcast hk1000 (below_up HB4.out (bw_alloc (Below.refl _ _) _))).mono ?_); rintro y ux ⟨rfl, bx⟩; have BX := Lib.hid (below_up (below_up HB4.out (bw_alloc (Below.refl _ _) _)) bx); have hx := kept_obj bx (kept_obj (bw_alloc (Below.refl _ _) _) HX4.out); have r0 : ux.cell? ⟨w.heap.size, 0, none⟩ = some (.int .i64 0) := blk_cell hx 0; have r1 : ux.cell? ⟨w.heap.size, 1, none⟩ = some (.int .i64 0) := blk_cell hx 1; have r2 : ux.cell? ⟨w.heap.size, 2, none⟩ = some (.int .i64 0) := blk_cell hx 2; have r3 : ux.cell? ⟨w.heap.size, 3, none⟩ = some (.int .i64 0) := blk_cell hx 3; have r4 : ux.cell? ⟨w.heap.size, 4, none⟩ = some (.int .i64 0) := blk_cell hx 4; have r5 : ux.cell? ⟨w.heap.size, 5, none⟩ = some (.slice none 0 0) := blk_cell hx 5; have r6 : ux.cell? ⟨w.heap.size, 6, none⟩ = some (.slice none 0 0) := blk_cell hx 6; have r7 : ux.cell? ⟨w.heap.size, 7, none⟩ = some (.int .i64 0) := blk_cell hx 7; have r8 : ux.cell? ⟨w.heap.size, 8, none⟩ = some (.int .i64 0) := blk_cell hx 8; have f0 := blk_free hx 0; have f1 := blk_free hx 1; have f2 := blk_free hx 2; have f3 := blk_free hx 3; have f4 := blk_free hx 4; have f5 := blk_free hx 5; have f6 := blk_free hx 6; have f7 := blk_free hx 7; have f8 := blk_free hx 8; have hr := lt_of_block hx; clear bx hx)
            exact bodyPost_ret (v := .agg #[.int .i64 0, .int .i64 0, .int .i64 0, .int .i64 0, .int .i64 0, .slice none 0 0, .slice none 0 0, .int .i64 (placeAt W (2 + k)), .int .i64 10]) (by simp [results, Tryd.results26, go_sem, hr, r0, r1, r2, r3, r4, r5, r6, r7, r8]) rfl (rline_bad HB.out (by repeat (first | with_reducible exact BX.out | refine Below.setCell ?_ (by simp) _)))
        | some nn =>
          rw [e2] at CNK
          have HK2 : Hid (∀ j, j < k + 1 → numK W j = some (upd f k nn j)) := fun j hj => by
            unfold upd
            by_cases q : j = k
            · rw [if_pos q, q]; exact e2
            · rw [if_neg q]; exact HK.out j (by omega)
          by_cases h3 : k = 3
          · subst h3
            rw [e2] at CN3
            have m3 : wr.cell? ⟨k2, 3, none⟩ = some (.string bP) := m0
            clear CNK HW2 hcast hk1000 d7 d8 m0
            go_upto_region 17 with (go_at_call 44; (with_reducible refine (CN3.out _ HB.out).mono ?_); rintro y u4 ⟨rfl, b4⟩; have HB4 := Lib.hid (below_up HB.out b4); have HX4 := Lib.hid (kept_obj b4 HX.out); have HF4 := Lib.hid (kept_obj b4 HF.out); have HY4 := Lib.hid (kept_obj b4 HY.out); have HN4 := Lib.hid (kept_obj b4 HN.out); clear b4)
            have c3 : u4.cell? ⟨k2 + 1, 3, none⟩ = some (.int .i64 (f 3)) := blk_cell HF4.out 3
            have f3 := blk_free HF4.out 3
            have hl3 := lt_of_block HF4.out
            clear HB HX HY HN HF m3 hkm e2
            go_wp2_with fail
            go_roundw
            case rel => exact ⟨4, upd f 3 nn, by omega, by go_num, HK2, num_laid hk13 hk4 HB4.out HX4.out HY4.out HN4.out HF4.out⟩
            case measure => simp [intOf]
          · have hM : mostK k = 1073741824 := by unfold mostK; rw [if_neg h3]
            have d9 : ((k : Int) == 3) = false := by rw [beq_eq_false_iff_ne]; omega
            have d10 : ¬ (k : Int) = 3 := by omega
            have CK := Lib.hid (CNK.out _ hM)
            clear CNK hM h3
            have hw2 := HW2.out
            go_upto_region 17 with (go_at_call 44; (with_reducible refine (CK.out _ HB.out).mono ?_); rintro y u4 ⟨rfl, b4⟩; have HB4 := Lib.hid (below_up HB.out b4); have HX4 := Lib.hid (kept_obj b4 HX.out); have HF4 := Lib.hid (kept_obj b4 HF.out); have HY4 := Lib.hid (kept_obj b4 HY.out); have HN4 := Lib.hid (kept_obj b4 HN.out); clear b4)
            have c3 : u4.cell? ⟨k2 + 1, k, none⟩ = some (.int .i64 (f k)) := (blk_cell HF4.out k).trans (four_at f hk4)
            have f3 := blk_free HF4.out k
            have hl3 := lt_of_block HF4.out
            clear HB HX HY HN HF m0 hkm e2
            go_wp2_with fail
            go_roundw
            case rel => exact ⟨k + 1, upd f k nn, Nat.succ_le_of_lt hk4, by go_num, HK2, num_laid hk13 hk4 HB4.out HX4.out HY4.out HN4.out HF4.out⟩
            case measure => clear hw2 HW2; simp [intOf]; omega
      · obtain rfl : k = 4 := by omega
        have n0 := HK.out 0 (by omega)
        have n1 := HK.out 1 (by omega)
        have n2 := HK.out 2 (by omega)
        have n3 := HK.out 3 (by omega)
        have hle6 : 6 ≤ W.length := by have := numL_lt n3; omega
        have q0 : wr.cell? ⟨k2 + 1, 0, none⟩ = some (.int .i64 (f 0)) := blk_cell HF.out 0
        have q1 : wr.cell? ⟨k2 + 1, 1, none⟩ = some (.int .i64 (f 1)) := blk_cell HF.out 1
        have q2 : wr.cell? ⟨k2 + 1, 2, none⟩ = some (.int .i64 (f 2)) := blk_cell HF.out 2
        have q3 : wr.cell? ⟨k2 + 1, 3, none⟩ = some (.int .i64 (f 3)) := blk_cell HF.out 3
        have i0 : wr.cell? ⟨k1, 0, none⟩ = some (.int .i64 id) := blk_cell HY.out 0
        have hlf := lt_of_block HF.out
        go_upto_region 22 with fail
        refine gen_world (RSt w wr.heap.size id (f 0) (f 1) (f 2) (f 3) (.slice none 0 0) [] (.slice none 0 0) [] (.slice none 0 0) []) ⟨below_up HB.out (bw_alloc (Below.refl _ _) _), lt_of_block HX.out, kept_obj (bw_alloc (Below.refl _ _) _) HX.out, heap_alloc_new wr _, OwnI.nil _ _ _, OwnI.nil _ _ _, OwnI.nil _ _ _⟩ ?_
        intro u5 h5
        generalize wr.heap.size = k4 at h5 ⊢
        have H5 := Lib.hid h5
        clear h5 HB HX HY HN HF q0 q1 q2 q3 i0 hlf CN3 CNK0
        cases e6 : valAt W 6 bChunks with
        | none =>
          have hc0 : chAt W = none := by unfold chAt numsAt; rw [e6]; rfl
          have hp1 : plus1 W = 6 := by unfold plus1; rw [hc0]; rfl
          obtain ⟨ch, hch⟩ : ∃ ch : List Int, (chAt W).getD [] = ch := ⟨_, rfl⟩
          have hch0 : ch = [] := by rw [← hch, hc0]; rfl
          go_upto_region 29 with (go_at_call 45; (with_reducible refine (CVN.out 6 6 bChunks _ rfl (by omega) e6 H5.out.low).mono ?_); rintro y ux ⟨rfl, bx⟩; have H5a := Lib.hid (H5.out.below bx); clear bx)
          have H5b := Lib.hid (H5a.out.below (bw_alloc (Below.refl _ _) (.cells #[.string ⟨#[]⟩, .string ⟨#[]⟩, .bool false] TwoT)))
          clear H5a H5 e6 hc0
          refine gen_world (RSt w k4 id (f 0) (f 1) (f 2) (f 3) (.slice none 0 0) [] (.slice none 0 0) [] (.slice none 0 0) []) H5b.out ?_
          intro u8 h8
          have H8a : Hid (∃ (a1 : Option Addr) (m1 c1 : Nat), RSt w k4 id (f 0) (f 1) (f 2) (f 3) (.slice a1 m1 c1) ch (.slice none 0 0) [] (.slice none 0 0) [] u8) := ⟨none, 0, 0, hch0 ▸ h8⟩
          clear h8 H5b hch0
          obtain ⟨a1, m1, c1, h8⟩ := H8a.out
          have HU := Lib.hid h8
          clear h8 H8a
          cases e8 : valAt W 6 bUse with
          | none =>
            have hu0 : usAt W = none := by unfold usAt numsAt; rw [hp1, e8]; rfl
            have hp2 : plus2 W = 6 := by unfold plus2; rw [hu0, hp1]; rfl
            obtain ⟨us, hus⟩ : ∃ us : List Int, (usAt W).getD [] = us := ⟨_, rfl⟩
            have hus0 : us = [] := by rw [← hus, hu0]; rfl
            clear hu0 hp1
            go_upto_region 39 with (go_at_call 45; (with_reducible refine (CVN.out 6 6 bUse _ rfl (by omega) e8 HU.out.low).mono ?_); rintro y ux ⟨rfl, bx⟩; have H6 := Lib.hid (HU.out.below bx); clear bx)
            have H6b := Lib.hid (H6.out.below (bw_alloc (Below.refl _ _) (.cells #[.string ⟨#[]⟩, .string ⟨#[]⟩, .bool false] TwoT)))
            clear H6 HU e8
            refine gen_world (RSt w k4 id (f 0) (f 1) (f 2) (f 3) (.slice a1 m1 c1) ch (.slice none 0 0) [] (.slice none 0 0) []) H6b.out ?_
            intro u10 h10
            have H8a : Hid (∃ (a2 : Option Addr) (m2 c2 : Nat), RSt w k4 id (f 0) (f 1) (f 2) (f 3) (.slice a1 m1 c1) ch (.slice a2 m2 c2) us (.slice none 0 0) [] u10) := ⟨none, 0, 0, hus0 ▸ h10⟩
            clear h10 H6b hus0
            obtain ⟨a2, m2, c2, h10⟩ := H8a.out
            have H8 := Lib.hid h10
            clear h10 H8a
            by_cases ho : 6 < n
            · have d20 : (6 : Int) < (n : Int) := by omega
              have HB : Hid (lineOf W = .error (placeAt W 6)) := by show _ = _; rw [line_over e0 e1 n0 n1 n2 n3 (by rw [hp2, HL.out]; exact ho), hp2]
              go_wp2_with (go_at_call 25; (with_reducible refine (CW.out 6 6 _ rfl (by omega) H8.out.low).mono ?_); rintro y ux ⟨rfl, bx⟩; have BX := Lib.hid (below_up H8.out.low bx); have hx := kept_obj bx H8.out.res; have r0 : ux.cell? ⟨w.heap.size, 0, none⟩ = some (.int .i64 0) := blk_cell hx 0; have r1 : ux.cell? ⟨w.heap.size, 1, none⟩ = some (.int .i64 0) := blk_cell hx 1; have r2 : ux.cell? ⟨w.heap.size, 2, none⟩ = some (.int .i64 0) := blk_cell hx 2; have r3 : ux.cell? ⟨w.heap.size, 3, none⟩ = some (.int .i64 0) := blk_cell hx 3; have r4 : ux.cell? ⟨w.heap.size, 4, none⟩ = some (.int .i64 0) := blk_cell hx 4; have r5 : ux.cell? ⟨w.heap.size, 5, none⟩ = some (.slice none 0 0) := blk_cell hx 5; have r6 : ux.cell? ⟨w.heap.size, 6, none⟩ = some (.slice none 0 0) := blk_cell hx 6; have r7 : ux.cell? ⟨w.heap.size, 7, none⟩ = some (.int .i64 0) := blk_cell hx 7; have r8 : ux.cell? ⟨w.heap.size, 8, none⟩ = some (.int .i64 0) := blk_cell hx 8; have f0 := blk_free hx 0; have f1 := blk_free hx 1; have f2 := blk_free hx 2; have f3 := blk_free hx 3; have f4 := blk_free hx 4; have f5 := blk_free hx 5; have f6 := blk_free hx 6; have f7 := blk_free hx 7; have f8 := blk_free hx 8; have hr := lt_of_block hx; clear bx hx)
              exact bodyPost_ret (v := .agg #[.int .i64 0, .int .i64 0, .int .i64 0, .int .i64 0, .int .i64 0, .slice none 0 0, .slice none 0 0, .int .i64 (placeAt W 6), .int .i64 10]) (by simp [results, Tryd.results26, go_sem, hr, r0, r1, r2, r3, r4, r5, r6, r7, r8]) rfl (rline_bad HB.out (by repeat (first | with_reducible exact BX.out | refine Below.setCell ?_ (by simp) _)))
            · have d20 : ¬ (6 : Int) < (n : Int) := by omega
              have HOK : Hid (lineOf W = .ok ⟨id, f 0, f 1, f 2, f 3, ch, us⟩) := by show _ = _; rw [line_ok e0 e1 n0 n1 n2 n3 (by rw [hp2, HL.out]; exact ho), hch, hus]
              clear ho hp2 hch hus
              go_upto_region 41 with fail
              have cb := H8.out.box
              have p0 : _root_.Go.World.cell? _ ⟨k4, 0, none⟩ = some (.int .i64 id) := blk_cell cb 0
              have p1 : _root_.Go.World.cell? _ ⟨k4, 1, none⟩ = some (.int .i64 (f 0)) := blk_cell cb 1
              have p2 : _root_.Go.World.cell? _ ⟨k4, 2, none⟩ = some (.int .i64 (f 1)) := blk_cell cb 2
              have p3 : _root_.Go.World.cell? _ ⟨k4, 3, none⟩ = some (.int .i64 (f 2)) := blk_cell cb 3
              have p4 : _root_.Go.World.cell? _ ⟨k4, 4, none⟩ = some (.int .i64 (f 3)) := blk_cell cb 4
              have p5 : _root_.Go.World.cell? _ ⟨k4, 5, none⟩ = some (.slice a1 m1 c1) := blk_cell cb 5
              have p6 : _root_.Go.World.cell? _ ⟨k4, 6, none⟩ = some (.slice a2 m2 c2) := blk_cell cb 6
              clear cb
              go_region_law (go_simp; (with_reducible refine (CE.out _ (below_up H8.out.low (by repeat (first | exact Below.refl _ _ | (with_reducible assumption) | refine bw_alloc ?_ _ | refine bw_drew ?_)))).mono ?_); rintro y u9 ⟨rfl, bx⟩; have H9 := Lib.hid ((H8.out.below (by repeat (first | exact Below.refl _ _ | (with_reducible assumption) | refine bw_alloc ?_ _ | refine bw_drew ?_))).below bx); have ct := H9.out.box; have cr := H9.out.res; have s0 : u9.cell? ⟨k4, 0, none⟩ = some (.int .i64 id) := blk_cell ct 0; have s1 : u9.cell? ⟨k4, 1, none⟩ = some (.int .i64 (f 0)) := blk_cell ct 1; have s2 : u9.cell? ⟨k4, 2, none⟩ = some (.int .i64 (f 1)) := blk_cell ct 2; have s3 : u9.cell? ⟨k4, 3, none⟩ = some (.int .i64 (f 2)) := blk_cell ct 3; have s4 : u9.cell? ⟨k4, 4, none⟩ = some (.int .i64 (f 3)) := blk_cell ct 4; have s5 : u9.cell? ⟨k4, 5, none⟩ = some (.slice a1 m1 c1) := blk_cell ct 5; have s6 : u9.cell? ⟨k4, 6, none⟩ = some (.slice a2 m2 c2) := blk_cell ct 6; have r0 : u9.cell? ⟨w.heap.size, 0, none⟩ = some (.int .i64 0) := blk_cell cr 0; have r1 : u9.cell? ⟨w.heap.size, 1, none⟩ = some (.int .i64 0) := blk_cell cr 1; have r2 : u9.cell? ⟨w.heap.size, 2, none⟩ = some (.int .i64 0) := blk_cell cr 2; have r3 : u9.cell? ⟨w.heap.size, 3, none⟩ = some (.int .i64 0) := blk_cell cr 3; have r4 : u9.cell? ⟨w.heap.size, 4, none⟩ = some (.int .i64 0) := blk_cell cr 4; have r5 : u9.cell? ⟨w.heap.size, 5, none⟩ = some (.slice none 0 0) := blk_cell cr 5; have r6 : u9.cell? ⟨w.heap.size, 6, none⟩ = some (.slice none 0 0) := blk_cell cr 6; have r7 : u9.cell? ⟨w.heap.size, 7, none⟩ = some (.int .i64 0) := blk_cell cr 7; have r8 : u9.cell? ⟨w.heap.size, 8, none⟩ = some (.int .i64 0) := blk_cell cr 8; have f0 := blk_free cr 0; have f1 := blk_free cr 1; have f2 := blk_free cr 2; have f3 := blk_free cr 3; have f4 := blk_free cr 4; have f5 := blk_free cr 5; have f6 := blk_free cr 6; have f7 := blk_free cr 7; have f8 := blk_free cr 8; have hr := lt_of_block cr; clear bx ct cr)
              all_goals
                go_wp2_with fail
                refine bodyPost_ret (v := .agg #[.int .i64 id, .int .i64 (f 0), .int .i64 (f 1), .int .i64 (f 2), .int .i64 (f 3), .slice a1 m1 c1, .slice a2 m2 c2, .int .i64 (endAt W W.length), .int .i64 0]) (by simp [results, Tryd.results26, go_sem, hr, r0, r1, r2, r3, r4, r5, r6, r7, r8]) rfl ?_
                exact rline_done H9.out HOK.out _ _ _ _ _ _ _ _ _
          | some z2 =>
            have huz : usAt W = numsOf z2 255 := by unfold usAt numsAt; rw [hp1, e8]; rfl
            cases e9 : numsOf z2 255 with
            | none =>
              have hp2 : plus2 W = 6 := by unfold plus2; rw [huz, e9, hp1]; rfl
              have hjl := val_lt e8
              have CNB : Hid (∀ v, Calls Tryd.prog 46 #[.string z2, .int .i64 255] v fun e w' => e = .returned (.tuple #[.slice none 0 0, .bool false]) ∧ Below v.heap.size v w') := fun v => ((e9 ▸ rnumbers_own z2 (HWZ.out _ _ _ e8) 255 v)).mono fun _ _ h => numso_none h
              clear huz e9 hp1
              go_upto_region 33 with (first
                | (go_at_call 45; (with_reducible refine (CVS.out 6 6 bUse _ _ rfl (by omega) e8 HU.out.low).mono ?_); rintro y ux ⟨rfl, bx⟩; have H6 := Lib.hid (HU.out.below bx); clear bx)
                | (go_at_call 46; (with_reducible refine (CNB.out _).mono ?_); rintro y uy ⟨rfl, bx⟩; have H7 := Lib.hid ((H6.out.below (by repeat (first | exact Below.refl _ _ | (with_reducible assumption) | refine bw_alloc ?_ _ | refine bw_drew ?_))).below bx); clear bx))
              have HB : Hid (lineOf W = .error (placeAt W 6)) := by show _ = _; rw [line_over e0 e1 n0 n1 n2 n3 (by rw [hp2]; exact hjl), hp2]
              go_wp2_with (go_at_call 25; (with_reducible refine (CW.out 6 6 _ rfl (by omega) H7.out.low).mono ?_); rintro y ux ⟨rfl, bx⟩; have BX := Lib.hid (below_up H7.out.low bx); have hx := kept_obj bx H7.out.res; have r0 : ux.cell? ⟨w.heap.size, 0, none⟩ = some (.int .i64 0) := blk_cell hx 0; have r1 : ux.cell? ⟨w.heap.size, 1, none⟩ = some (.int .i64 0) := blk_cell hx 1; have r2 : ux.cell? ⟨w.heap.size, 2, none⟩ = some (.int .i64 0) := blk_cell hx 2; have r3 : ux.cell? ⟨w.heap.size, 3, none⟩ = some (.int .i64 0) := blk_cell hx 3; have r4 : ux.cell? ⟨w.heap.size, 4, none⟩ = some (.int .i64 0) := blk_cell hx 4; have r5 : ux.cell? ⟨w.heap.size, 5, none⟩ = some (.slice none 0 0) := blk_cell hx 5; have r6 : ux.cell? ⟨w.heap.size, 6, none⟩ = some (.slice none 0 0) := blk_cell hx 6; have r7 : ux.cell? ⟨w.heap.size, 7, none⟩ = some (.int .i64 0) := blk_cell hx 7; have r8 : ux.cell? ⟨w.heap.size, 8, none⟩ = some (.int .i64 0) := blk_cell hx 8; have f0 := blk_free hx 0; have f1 := blk_free hx 1; have f2 := blk_free hx 2; have f3 := blk_free hx 3; have f4 := blk_free hx 4; have f5 := blk_free hx 5; have f6 := blk_free hx 6; have f7 := blk_free hx 7; have f8 := blk_free hx 8; have hr := lt_of_block hx; clear bx hx)
              exact bodyPost_ret (v := .agg #[.int .i64 0, .int .i64 0, .int .i64 0, .int .i64 0, .int .i64 0, .slice none 0 0, .slice none 0 0, .int .i64 (placeAt W 6), .int .i64 10]) (by simp [results, Tryd.results26, go_sem, hr, r0, r1, r2, r3, r4, r5, r6, r7, r8]) rfl (rline_bad HB.out (by repeat (first | with_reducible exact BX.out | refine Below.setCell ?_ (by simp) _)))
            | some l =>
              have hp2 : plus2 W = 7 := by unfold plus2; rw [huz, e9, hp1]; rfl
              obtain ⟨us, hus⟩ : ∃ us : List Int, (usAt W).getD [] = us := ⟨_, rfl⟩
              have hus0 : l = us := by rw [← hus, huz, e9]; rfl
              subst hus0
              have hll := numsOf_len e9
              have hzz := HWZ.out _ _ _ e8
              obtain ⟨m, hm⟩ : ∃ m, l.length = m := ⟨_, rfl⟩
              have hm9 : m ≤ 900001 := by omega
              have CNB : Hid (∀ v, Calls Tryd.prog 46 #[.string z2, .int .i64 255] v fun e w' => ∃ a c, e = .returned (.tuple #[.slice a m c, .bool true]) ∧ OwnI w' 2 v.heap.size (.slice a m c) l ∧ Below v.heap.size v w') := fun v => ((e9 ▸ rnumbers_own z2 (HWZ.out _ _ _ e8) 255 v)).mono fun _ _ h => numso_some hm h
              have HLM := Lib.hid hm
              clear huz e9 hp1 hll hzz hm
              go_upto_region 34 with (first
                | (go_at_call 45; (with_reducible refine (CVS.out 6 6 bUse _ _ rfl (by omega) e8 HU.out.low).mono ?_); rintro y ux ⟨rfl, bx⟩; have H6 := Lib.hid (HU.out.below bx); clear bx)
                | (go_at_call 46; (with_reducible refine (CNB.out _).mono ?_); rintro y uy ⟨a3, c3, rfl, ox, bx⟩; have H7 := Lib.hid ((H6.out.below (by repeat (first | exact Below.refl _ _ | (with_reducible assumption) | refine bw_alloc ?_ _ | refine bw_drew ?_))).src bx ox (Nat.le_trans H6.out.low.size (((by repeat (first | exact Below.refl _ _ | (with_reducible assumption) | refine bw_alloc ?_ _ | refine bw_drew ?_)) : Below ux.heap.size ux _).size))); clear bx ox))
              clear CNB H6 HU e8
              go_wp2_with fail
              go_loopw [17] (fun u wr => ∃ (k : Nat) (a' : Option Addr) (cp' : Nat), k ≤ m ∧ u = .int .i64 k ∧ Hid (RSt w k4 id (f 0) (f 1) (f 2) (f 3) (.slice a1 m1 c1) ch (.slice a' k cp') (l.take k) (.slice a3 m c3) l wr)) (fun u _ => (m - intOf u).toNat)
              case atStart => exact ⟨0, none, 0, by omega, rfl, H7⟩
              case round =>
                obtain ⟨k, a', cp', hk, rfl, HP⟩ := hrel
                clear H7
                have b6 : wr.cell? ⟨k4, 6, none⟩ = some (.slice a' k cp') := by rw [blk_cell HP.out.box]; rfl
                by_cases hlt : k < m
                · obtain ⟨y, hy⟩ := nth_of HLM.out hlt
                  obtain ⟨g3, o3, rfl, z3⟩ := (HP.out.own3.ints).1.at_ hy
                  have hk1 : (k : Int) < (m : Int) := by omega
                  have hk0 : (0 : Int) ≤ (k : Int) := by omega
                  have HTL : Hid ((l.take k).length = k) := by show _ = _; rw [List.length_take, HLM.out]; omega
                  have HT2 : Hid (l.take k ++ [y] = l.take (k + 1)) := by show _ = _; rw [List.take_add_one, hy]; rfl
                  have HSM : Hid ((((l.take k).length : Int) + ((1 : Nat) : Int)) ≤ 17592186044416) := by show _ ≤ _; rw [HTL.out]; omega
                  have HNN : Hid ((l.take k).length + 1 = k + 1) := by show _ = _; rw [HTL.out]
                  have hkw := lt_of_block HP.out.box
                  clear hy
                  go_upto_region 37 with fail
                  go_region_law (refine step_ints (m := 1) (l := [y]) numI rfl (.tmp 124) (.tmp 129) rfl (by rfl) (by rfl) (HP.out.below (by repeat (first | exact Below.refl _ _ | (with_reducible assumption) | refine bw_alloc ?_ _ | refine bw_drew ?_))).own2 (Nat.le_trans (lt_of_block HP.out.box) (((by repeat (first | exact Below.refl _ _ | (with_reducible assumption) | refine bw_alloc ?_ _ | refine bw_drew ?_)) : Below wr.heap.size wr _).size)) (by first | exact ints_new _ _ _ | exact (ints_new _ _ _).below (by repeat (first | exact Below.refl _ _ | (with_reducible assumption) | refine bw_alloc ?_ _ | refine bw_drew ?_))) rfl HSM.out (fun z => by cases z) (k + 1) HNN.out ?_; intro a5 k5 w5 o5 g5 l5; obtain ⟨hn, y1, y2⟩ := (HP.out.below (by repeat (first | exact Below.refl _ _ | (with_reducible assumption) | refine bw_alloc ?_ _ | refine bw_drew ?_))).push g5 (HT2.out ▸ o5); have HNW := Lib.hid hn; clear hn o5 g5 l5)
                  all_goals
                    go_wp2_with fail
                    go_roundw
                    case rel => exact ⟨k + 1, a5, k5, by omega, by go_num, HNW⟩
                    case measure => simp [intOf]; omega
                · obtain rfl : m = k := by omega
                  have HT : Hid (l.take m = l) := by show _ = _; rw [← HLM.out, List.take_length]
                  have H8 : Hid (RSt w k4 id (f 0) (f 1) (f 2) (f 3) (.slice a1 m1 c1) ch (.slice a' m cp') l (.slice a3 m c3) l wr) := by
                    have q9 := HP.out
                    rw [HT.out] at q9
                    exact q9
                  clear HT HP b6 hlt hk
                  go_upto_region 39 with fail
                  obtain ⟨a2, m2, c2, hv2⟩ : ∃ (a2 : Option Addr) (m2 c2 : Nat), (Value.slice a' m cp') = .slice a2 m2 c2 := ⟨_, _, _, rfl⟩
                  rw [hv2] at H8
                  clear hv2
                  by_cases ho : 7 < n
                  · have d20 : (7 : Int) < (n : Int) := by omega
                    have HB : Hid (lineOf W = .error (placeAt W 7)) := by show _ = _; rw [line_over e0 e1 n0 n1 n2 n3 (by rw [hp2, HL.out]; exact ho), hp2]
                    go_wp2_with (go_at_call 25; (with_reducible refine (CW.out 7 7 _ rfl (by omega) H8.out.low).mono ?_); rintro y ux ⟨rfl, bx⟩; have BX := Lib.hid (below_up H8.out.low bx); have hx := kept_obj bx H8.out.res; have r0 : ux.cell? ⟨w.heap.size, 0, none⟩ = some (.int .i64 0) := blk_cell hx 0; have r1 : ux.cell? ⟨w.heap.size, 1, none⟩ = some (.int .i64 0) := blk_cell hx 1; have r2 : ux.cell? ⟨w.heap.size, 2, none⟩ = some (.int .i64 0) := blk_cell hx 2; have r3 : ux.cell? ⟨w.heap.size, 3, none⟩ = some (.int .i64 0) := blk_cell hx 3; have r4 : ux.cell? ⟨w.heap.size, 4, none⟩ = some (.int .i64 0) := blk_cell hx 4; have r5 : ux.cell? ⟨w.heap.size, 5, none⟩ = some (.slice none 0 0) := blk_cell hx 5; have r6 : ux.cell? ⟨w.heap.size, 6, none⟩ = some (.slice none 0 0) := blk_cell hx 6; have r7 : ux.cell? ⟨w.heap.size, 7, none⟩ = some (.int .i64 0) := blk_cell hx 7; have r8 : ux.cell? ⟨w.heap.size, 8, none⟩ = some (.int .i64 0) := blk_cell hx 8; have f0 := blk_free hx 0; have f1 := blk_free hx 1; have f2 := blk_free hx 2; have f3 := blk_free hx 3; have f4 := blk_free hx 4; have f5 := blk_free hx 5; have f6 := blk_free hx 6; have f7 := blk_free hx 7; have f8 := blk_free hx 8; have hr := lt_of_block hx; clear bx hx)
                    exact bodyPost_ret (v := .agg #[.int .i64 0, .int .i64 0, .int .i64 0, .int .i64 0, .int .i64 0, .slice none 0 0, .slice none 0 0, .int .i64 (placeAt W 7), .int .i64 10]) (by simp [results, Tryd.results26, go_sem, hr, r0, r1, r2, r3, r4, r5, r6, r7, r8]) rfl (rline_bad HB.out (by repeat (first | with_reducible exact BX.out | refine Below.setCell ?_ (by simp) _)))
                  · have d20 : ¬ (7 : Int) < (n : Int) := by omega
                    have HOK : Hid (lineOf W = .ok ⟨id, f 0, f 1, f 2, f 3, ch, l⟩) := by show _ = _; rw [line_ok e0 e1 n0 n1 n2 n3 (by rw [hp2, HL.out]; exact ho), hch, hus]
                    clear ho hp2 hch hus
                    go_upto_region 41 with fail
                    have cb := H8.out.box
                    have p0 : _root_.Go.World.cell? _ ⟨k4, 0, none⟩ = some (.int .i64 id) := blk_cell cb 0
                    have p1 : _root_.Go.World.cell? _ ⟨k4, 1, none⟩ = some (.int .i64 (f 0)) := blk_cell cb 1
                    have p2 : _root_.Go.World.cell? _ ⟨k4, 2, none⟩ = some (.int .i64 (f 1)) := blk_cell cb 2
                    have p3 : _root_.Go.World.cell? _ ⟨k4, 3, none⟩ = some (.int .i64 (f 2)) := blk_cell cb 3
                    have p4 : _root_.Go.World.cell? _ ⟨k4, 4, none⟩ = some (.int .i64 (f 3)) := blk_cell cb 4
                    have p5 : _root_.Go.World.cell? _ ⟨k4, 5, none⟩ = some (.slice a1 m1 c1) := blk_cell cb 5
                    have p6 : _root_.Go.World.cell? _ ⟨k4, 6, none⟩ = some (.slice a2 m2 c2) := blk_cell cb 6
                    clear cb
                    go_region_law (go_simp; (with_reducible refine (CE.out _ (below_up H8.out.low (by repeat (first | exact Below.refl _ _ | (with_reducible assumption) | refine bw_alloc ?_ _ | refine bw_drew ?_)))).mono ?_); rintro y u9 ⟨rfl, bx⟩; have H9 := Lib.hid ((H8.out.below (by repeat (first | exact Below.refl _ _ | (with_reducible assumption) | refine bw_alloc ?_ _ | refine bw_drew ?_))).below bx); have ct := H9.out.box; have cr := H9.out.res; have s0 : u9.cell? ⟨k4, 0, none⟩ = some (.int .i64 id) := blk_cell ct 0; have s1 : u9.cell? ⟨k4, 1, none⟩ = some (.int .i64 (f 0)) := blk_cell ct 1; have s2 : u9.cell? ⟨k4, 2, none⟩ = some (.int .i64 (f 1)) := blk_cell ct 2; have s3 : u9.cell? ⟨k4, 3, none⟩ = some (.int .i64 (f 2)) := blk_cell ct 3; have s4 : u9.cell? ⟨k4, 4, none⟩ = some (.int .i64 (f 3)) := blk_cell ct 4; have s5 : u9.cell? ⟨k4, 5, none⟩ = some (.slice a1 m1 c1) := blk_cell ct 5; have s6 : u9.cell? ⟨k4, 6, none⟩ = some (.slice a2 m2 c2) := blk_cell ct 6; have r0 : u9.cell? ⟨w.heap.size, 0, none⟩ = some (.int .i64 0) := blk_cell cr 0; have r1 : u9.cell? ⟨w.heap.size, 1, none⟩ = some (.int .i64 0) := blk_cell cr 1; have r2 : u9.cell? ⟨w.heap.size, 2, none⟩ = some (.int .i64 0) := blk_cell cr 2; have r3 : u9.cell? ⟨w.heap.size, 3, none⟩ = some (.int .i64 0) := blk_cell cr 3; have r4 : u9.cell? ⟨w.heap.size, 4, none⟩ = some (.int .i64 0) := blk_cell cr 4; have r5 : u9.cell? ⟨w.heap.size, 5, none⟩ = some (.slice none 0 0) := blk_cell cr 5; have r6 : u9.cell? ⟨w.heap.size, 6, none⟩ = some (.slice none 0 0) := blk_cell cr 6; have r7 : u9.cell? ⟨w.heap.size, 7, none⟩ = some (.int .i64 0) := blk_cell cr 7; have r8 : u9.cell? ⟨w.heap.size, 8, none⟩ = some (.int .i64 0) := blk_cell cr 8; have f0 := blk_free cr 0; have f1 := blk_free cr 1; have f2 := blk_free cr 2; have f3 := blk_free cr 3; have f4 := blk_free cr 4; have f5 := blk_free cr 5; have f6 := blk_free cr 6; have f7 := blk_free cr 7; have f8 := blk_free cr 8; have hr := lt_of_block cr; clear bx ct cr)
                    all_goals
                      go_wp2_with fail
                      refine bodyPost_ret (v := .agg #[.int .i64 id, .int .i64 (f 0), .int .i64 (f 1), .int .i64 (f 2), .int .i64 (f 3), .slice a1 m1 c1, .slice a2 m2 c2, .int .i64 (endAt W W.length), .int .i64 0]) (by simp [results, Tryd.results26, go_sem, hr, r0, r1, r2, r3, r4, r5, r6, r7, r8]) rfl ?_
                      exact rline_done H9.out HOK.out _ _ _ _ _ _ _ _ _
          
        | some z =>
          have hcz : chAt W = numsOf z 1073741824 := by unfold chAt numsAt; rw [e6]; rfl
          cases e7 : numsOf z 1073741824 with
          | none =>
            have hp1 : plus1 W = 6 := by unfold plus1; rw [hcz, e7]; rfl
            have hu0 : usAt W = none := by unfold usAt numsAt; rw [hp1, val_apart e6]; rfl
            have hp2 : plus2 W = 6 := by unfold plus2; rw [hu0, hp1]; rfl
            have hjl := val_lt e6
            have CNB : Hid (∀ v, Calls Tryd.prog 46 #[.string z, .int .i64 1073741824] v fun e w' => e = .returned (.tuple #[.slice none 0 0, .bool false]) ∧ Below v.heap.size v w') := fun v => ((e7 ▸ rnumbers_own z (HWZ.out _ _ _ e6) 1073741824 v)).mono fun _ _ h => numso_none h
            clear hcz e7 hp1 hu0
            go_upto_region 26 with (first
              | (go_at_call 45; (with_reducible refine (CVS.out 6 6 bChunks _ _ rfl (by omega) e6 H5.out.low).mono ?_); rintro y ux ⟨rfl, bx⟩; have H6 := Lib.hid (H5.out.below bx); clear bx)
              | (go_at_call 46; (with_reducible refine (CNB.out _).mono ?_); rintro y uy ⟨rfl, bx⟩; have H7 := Lib.hid ((H6.out.below (by repeat (first | exact Below.refl _ _ | (with_reducible assumption) | refine bw_alloc ?_ _ | refine bw_drew ?_))).below bx); clear bx))
            have HB : Hid (lineOf W = .error (placeAt W 6)) := by show _ = _; rw [line_over e0 e1 n0 n1 n2 n3 (by rw [hp2]; exact hjl), hp2]
            go_wp2_with (go_at_call 25; (with_reducible refine (CW.out 6 6 _ rfl (by omega) H7.out.low).mono ?_); rintro y ux ⟨rfl, bx⟩; have BX := Lib.hid (below_up H7.out.low bx); have hx := kept_obj bx H7.out.res; have r0 : ux.cell? ⟨w.heap.size, 0, none⟩ = some (.int .i64 0) := blk_cell hx 0; have r1 : ux.cell? ⟨w.heap.size, 1, none⟩ = some (.int .i64 0) := blk_cell hx 1; have r2 : ux.cell? ⟨w.heap.size, 2, none⟩ = some (.int .i64 0) := blk_cell hx 2; have r3 : ux.cell? ⟨w.heap.size, 3, none⟩ = some (.int .i64 0) := blk_cell hx 3; have r4 : ux.cell? ⟨w.heap.size, 4, none⟩ = some (.int .i64 0) := blk_cell hx 4; have r5 : ux.cell? ⟨w.heap.size, 5, none⟩ = some (.slice none 0 0) := blk_cell hx 5; have r6 : ux.cell? ⟨w.heap.size, 6, none⟩ = some (.slice none 0 0) := blk_cell hx 6; have r7 : ux.cell? ⟨w.heap.size, 7, none⟩ = some (.int .i64 0) := blk_cell hx 7; have r8 : ux.cell? ⟨w.heap.size, 8, none⟩ = some (.int .i64 0) := blk_cell hx 8; have f0 := blk_free hx 0; have f1 := blk_free hx 1; have f2 := blk_free hx 2; have f3 := blk_free hx 3; have f4 := blk_free hx 4; have f5 := blk_free hx 5; have f6 := blk_free hx 6; have f7 := blk_free hx 7; have f8 := blk_free hx 8; have hr := lt_of_block hx; clear bx hx)
            exact bodyPost_ret (v := .agg #[.int .i64 0, .int .i64 0, .int .i64 0, .int .i64 0, .int .i64 0, .slice none 0 0, .slice none 0 0, .int .i64 (placeAt W 6), .int .i64 10]) (by simp [results, Tryd.results26, go_sem, hr, r0, r1, r2, r3, r4, r5, r6, r7, r8]) rfl (rline_bad HB.out (by repeat (first | with_reducible exact BX.out | refine Below.setCell ?_ (by simp) _)))
          | some q =>
            have hp1 : plus1 W = 7 := by unfold plus1; rw [hcz, e7]; rfl
            obtain ⟨ch, hch⟩ : ∃ ch : List Int, (chAt W).getD [] = ch := ⟨_, rfl⟩
            have hch0 : q = ch := by rw [← hch, hcz, e7]; rfl
            subst hch0
            obtain ⟨m, hm⟩ : ∃ m, q.length = m := ⟨_, rfl⟩
            have CNB : Hid (∀ v, Calls Tryd.prog 46 #[.string z, .int .i64 1073741824] v fun e w' => ∃ a c, e = .returned (.tuple #[.slice a m c, .bool true]) ∧ OwnI w' 2 v.heap.size (.slice a m c) q ∧ Below v.heap.size v w') := fun v => ((e7 ▸ rnumbers_own z (HWZ.out _ _ _ e6) 1073741824 v)).mono fun _ _ h => numso_some hm h
            clear hcz e7 hm
            go_upto_region 27 with (first
              | (go_at_call 45; (with_reducible refine (CVS.out 6 6 bChunks _ _ rfl (by omega) e6 H5.out.low).mono ?_); rintro y ux ⟨rfl, bx⟩; have H6 := Lib.hid (H5.out.below bx); clear bx)
              | (go_at_call 46; (with_reducible refine (CNB.out _).mono ?_); rintro y uy ⟨a3, c3, rfl, ox, bx⟩; have H7 := Lib.hid ((H6.out.below (by repeat (first | exact Below.refl _ _ | (with_reducible assumption) | refine bw_alloc ?_ _ | refine bw_drew ?_))).src bx ox (Nat.le_trans H6.out.low.size (((by repeat (first | exact Below.refl _ _ | (with_reducible assumption) | refine bw_alloc ?_ _ | refine bw_drew ?_)) : Below ux.heap.size ux _).size))); clear bx ox))
            have b5 : uy.cell? ⟨k4, 5, none⟩ = some (.slice none 0 0) := by rw [blk_cell H7.out.box]; rfl
            have b5f := blk_free H7.out.box 5
            have b5l := lt_of_block H7.out.box
            have H8c := Lib.hid H7.out.chunks
            clear CNB H6 H5 e6 H7
            go_upto_region 29 with fail
            refine gen_world (RSt w k4 id (f 0) (f 1) (f 2) (f 3) (.slice a3 m c3) q (.slice none 0 0) [] (.slice a3 m c3) q) H8c.out ?_
            intro u8 h8
            have H8a : Hid (∃ (a1 : Option Addr) (m1 c1 : Nat) (v3 : Value), RSt w k4 id (f 0) (f 1) (f 2) (f 3) (.slice a1 m1 c1) q (.slice none 0 0) [] v3 q u8) := ⟨_, _, _, _, h8⟩
            clear h8 H8c b5 b5f b5l
            obtain ⟨a1, m1, c1, v3, h8⟩ := H8a.out
            have HU := Lib.hid h8
            clear h8 H8a
            cases e8 : valAt W 7 bUse with
            | none =>
              have hu0 : usAt W = none := by unfold usAt numsAt; rw [hp1, e8]; rfl
              have hp2 : plus2 W = 7 := by unfold plus2; rw [hu0, hp1]; rfl
              obtain ⟨us, hus⟩ : ∃ us : List Int, (usAt W).getD [] = us := ⟨_, rfl⟩
              have hus0 : us = [] := by rw [← hus, hu0]; rfl
              clear hu0 hp1
              go_upto_region 39 with (go_at_call 45; (with_reducible refine (CVN.out 7 7 bUse _ rfl (by omega) e8 HU.out.low).mono ?_); rintro y ux ⟨rfl, bx⟩; have H6 := Lib.hid (HU.out.below bx); clear bx)
              have H6b := Lib.hid (H6.out.below (bw_alloc (Below.refl _ _) (.cells #[.string ⟨#[]⟩, .string ⟨#[]⟩, .bool false] TwoT)))
              clear H6 HU e8
              refine gen_world (RSt w k4 id (f 0) (f 1) (f 2) (f 3) (.slice a1 m1 c1) q (.slice none 0 0) [] v3 q) H6b.out ?_
              intro u10 h10
              have H8a : Hid (∃ (a2 : Option Addr) (m2 c2 : Nat), RSt w k4 id (f 0) (f 1) (f 2) (f 3) (.slice a1 m1 c1) q (.slice a2 m2 c2) us v3 q u10) := ⟨none, 0, 0, hus0 ▸ h10⟩
              clear h10 H6b hus0
              obtain ⟨a2, m2, c2, h10⟩ := H8a.out
              have H8 := Lib.hid h10
              clear h10 H8a
              by_cases ho : 7 < n
              · have d20 : (7 : Int) < (n : Int) := by omega
                have HB : Hid (lineOf W = .error (placeAt W 7)) := by show _ = _; rw [line_over e0 e1 n0 n1 n2 n3 (by rw [hp2, HL.out]; exact ho), hp2]
                go_wp2_with (go_at_call 25; (with_reducible refine (CW.out 7 7 _ rfl (by omega) H8.out.low).mono ?_); rintro y ux ⟨rfl, bx⟩; have BX := Lib.hid (below_up H8.out.low bx); have hx := kept_obj bx H8.out.res; have r0 : ux.cell? ⟨w.heap.size, 0, none⟩ = some (.int .i64 0) := blk_cell hx 0; have r1 : ux.cell? ⟨w.heap.size, 1, none⟩ = some (.int .i64 0) := blk_cell hx 1; have r2 : ux.cell? ⟨w.heap.size, 2, none⟩ = some (.int .i64 0) := blk_cell hx 2; have r3 : ux.cell? ⟨w.heap.size, 3, none⟩ = some (.int .i64 0) := blk_cell hx 3; have r4 : ux.cell? ⟨w.heap.size, 4, none⟩ = some (.int .i64 0) := blk_cell hx 4; have r5 : ux.cell? ⟨w.heap.size, 5, none⟩ = some (.slice none 0 0) := blk_cell hx 5; have r6 : ux.cell? ⟨w.heap.size, 6, none⟩ = some (.slice none 0 0) := blk_cell hx 6; have r7 : ux.cell? ⟨w.heap.size, 7, none⟩ = some (.int .i64 0) := blk_cell hx 7; have r8 : ux.cell? ⟨w.heap.size, 8, none⟩ = some (.int .i64 0) := blk_cell hx 8; have f0 := blk_free hx 0; have f1 := blk_free hx 1; have f2 := blk_free hx 2; have f3 := blk_free hx 3; have f4 := blk_free hx 4; have f5 := blk_free hx 5; have f6 := blk_free hx 6; have f7 := blk_free hx 7; have f8 := blk_free hx 8; have hr := lt_of_block hx; clear bx hx)
                exact bodyPost_ret (v := .agg #[.int .i64 0, .int .i64 0, .int .i64 0, .int .i64 0, .int .i64 0, .slice none 0 0, .slice none 0 0, .int .i64 (placeAt W 7), .int .i64 10]) (by simp [results, Tryd.results26, go_sem, hr, r0, r1, r2, r3, r4, r5, r6, r7, r8]) rfl (rline_bad HB.out (by repeat (first | with_reducible exact BX.out | refine Below.setCell ?_ (by simp) _)))
              · have d20 : ¬ (7 : Int) < (n : Int) := by omega
                have HOK : Hid (lineOf W = .ok ⟨id, f 0, f 1, f 2, f 3, q, us⟩) := by show _ = _; rw [line_ok e0 e1 n0 n1 n2 n3 (by rw [hp2, HL.out]; exact ho), hch, hus]
                clear ho hp2 hch hus
                go_upto_region 41 with fail
                have cb := H8.out.box
                have p0 : _root_.Go.World.cell? _ ⟨k4, 0, none⟩ = some (.int .i64 id) := blk_cell cb 0
                have p1 : _root_.Go.World.cell? _ ⟨k4, 1, none⟩ = some (.int .i64 (f 0)) := blk_cell cb 1
                have p2 : _root_.Go.World.cell? _ ⟨k4, 2, none⟩ = some (.int .i64 (f 1)) := blk_cell cb 2
                have p3 : _root_.Go.World.cell? _ ⟨k4, 3, none⟩ = some (.int .i64 (f 2)) := blk_cell cb 3
                have p4 : _root_.Go.World.cell? _ ⟨k4, 4, none⟩ = some (.int .i64 (f 3)) := blk_cell cb 4
                have p5 : _root_.Go.World.cell? _ ⟨k4, 5, none⟩ = some (.slice a1 m1 c1) := blk_cell cb 5
                have p6 : _root_.Go.World.cell? _ ⟨k4, 6, none⟩ = some (.slice a2 m2 c2) := blk_cell cb 6
                clear cb
                go_region_law (go_simp; (with_reducible refine (CE.out _ (below_up H8.out.low (by repeat (first | exact Below.refl _ _ | (with_reducible assumption) | refine bw_alloc ?_ _ | refine bw_drew ?_)))).mono ?_); rintro y u9 ⟨rfl, bx⟩; have H9 := Lib.hid ((H8.out.below (by repeat (first | exact Below.refl _ _ | (with_reducible assumption) | refine bw_alloc ?_ _ | refine bw_drew ?_))).below bx); have ct := H9.out.box; have cr := H9.out.res; have s0 : u9.cell? ⟨k4, 0, none⟩ = some (.int .i64 id) := blk_cell ct 0; have s1 : u9.cell? ⟨k4, 1, none⟩ = some (.int .i64 (f 0)) := blk_cell ct 1; have s2 : u9.cell? ⟨k4, 2, none⟩ = some (.int .i64 (f 1)) := blk_cell ct 2; have s3 : u9.cell? ⟨k4, 3, none⟩ = some (.int .i64 (f 2)) := blk_cell ct 3; have s4 : u9.cell? ⟨k4, 4, none⟩ = some (.int .i64 (f 3)) := blk_cell ct 4; have s5 : u9.cell? ⟨k4, 5, none⟩ = some (.slice a1 m1 c1) := blk_cell ct 5; have s6 : u9.cell? ⟨k4, 6, none⟩ = some (.slice a2 m2 c2) := blk_cell ct 6; have r0 : u9.cell? ⟨w.heap.size, 0, none⟩ = some (.int .i64 0) := blk_cell cr 0; have r1 : u9.cell? ⟨w.heap.size, 1, none⟩ = some (.int .i64 0) := blk_cell cr 1; have r2 : u9.cell? ⟨w.heap.size, 2, none⟩ = some (.int .i64 0) := blk_cell cr 2; have r3 : u9.cell? ⟨w.heap.size, 3, none⟩ = some (.int .i64 0) := blk_cell cr 3; have r4 : u9.cell? ⟨w.heap.size, 4, none⟩ = some (.int .i64 0) := blk_cell cr 4; have r5 : u9.cell? ⟨w.heap.size, 5, none⟩ = some (.slice none 0 0) := blk_cell cr 5; have r6 : u9.cell? ⟨w.heap.size, 6, none⟩ = some (.slice none 0 0) := blk_cell cr 6; have r7 : u9.cell? ⟨w.heap.size, 7, none⟩ = some (.int .i64 0) := blk_cell cr 7; have r8 : u9.cell? ⟨w.heap.size, 8, none⟩ = some (.int .i64 0) := blk_cell cr 8; have f0 := blk_free cr 0; have f1 := blk_free cr 1; have f2 := blk_free cr 2; have f3 := blk_free cr 3; have f4 := blk_free cr 4; have f5 := blk_free cr 5; have f6 := blk_free cr 6; have f7 := blk_free cr 7; have f8 := blk_free cr 8; have hr := lt_of_block cr; clear bx ct cr)
                all_goals
                  go_wp2_with fail
                  refine bodyPost_ret (v := .agg #[.int .i64 id, .int .i64 (f 0), .int .i64 (f 1), .int .i64 (f 2), .int .i64 (f 3), .slice a1 m1 c1, .slice a2 m2 c2, .int .i64 (endAt W W.length), .int .i64 0]) (by simp [results, Tryd.results26, go_sem, hr, r0, r1, r2, r3, r4, r5, r6, r7, r8]) rfl ?_
                  exact rline_done H9.out HOK.out _ _ _ _ _ _ _ _ _
            | some z2 =>
              have huz : usAt W = numsOf z2 255 := by unfold usAt numsAt; rw [hp1, e8]; rfl
              cases e9 : numsOf z2 255 with
              | none =>
                have hp2 : plus2 W = 7 := by unfold plus2; rw [huz, e9, hp1]; rfl
                have hjl := val_lt e8
                have CNB : Hid (∀ v, Calls Tryd.prog 46 #[.string z2, .int .i64 255] v fun e w' => e = .returned (.tuple #[.slice none 0 0, .bool false]) ∧ Below v.heap.size v w') := fun v => ((e9 ▸ rnumbers_own z2 (HWZ.out _ _ _ e8) 255 v)).mono fun _ _ h => numso_none h
                clear huz e9 hp1
                go_upto_region 33 with (first
                  | (go_at_call 45; (with_reducible refine (CVS.out 7 7 bUse _ _ rfl (by omega) e8 HU.out.low).mono ?_); rintro y ux ⟨rfl, bx⟩; have H6 := Lib.hid (HU.out.below bx); clear bx)
                  | (go_at_call 46; (with_reducible refine (CNB.out _).mono ?_); rintro y uy ⟨rfl, bx⟩; have H7 := Lib.hid ((H6.out.below (by repeat (first | exact Below.refl _ _ | (with_reducible assumption) | refine bw_alloc ?_ _ | refine bw_drew ?_))).below bx); clear bx))
                have HB : Hid (lineOf W = .error (placeAt W 7)) := by show _ = _; rw [line_over e0 e1 n0 n1 n2 n3 (by rw [hp2]; exact hjl), hp2]
                go_wp2_with (go_at_call 25; (with_reducible refine (CW.out 7 7 _ rfl (by omega) H7.out.low).mono ?_); rintro y ux ⟨rfl, bx⟩; have BX := Lib.hid (below_up H7.out.low bx); have hx := kept_obj bx H7.out.res; have r0 : ux.cell? ⟨w.heap.size, 0, none⟩ = some (.int .i64 0) := blk_cell hx 0; have r1 : ux.cell? ⟨w.heap.size, 1, none⟩ = some (.int .i64 0) := blk_cell hx 1; have r2 : ux.cell? ⟨w.heap.size, 2, none⟩ = some (.int .i64 0) := blk_cell hx 2; have r3 : ux.cell? ⟨w.heap.size, 3, none⟩ = some (.int .i64 0) := blk_cell hx 3; have r4 : ux.cell? ⟨w.heap.size, 4, none⟩ = some (.int .i64 0) := blk_cell hx 4; have r5 : ux.cell? ⟨w.heap.size, 5, none⟩ = some (.slice none 0 0) := blk_cell hx 5; have r6 : ux.cell? ⟨w.heap.size, 6, none⟩ = some (.slice none 0 0) := blk_cell hx 6; have r7 : ux.cell? ⟨w.heap.size, 7, none⟩ = some (.int .i64 0) := blk_cell hx 7; have r8 : ux.cell? ⟨w.heap.size, 8, none⟩ = some (.int .i64 0) := blk_cell hx 8; have f0 := blk_free hx 0; have f1 := blk_free hx 1; have f2 := blk_free hx 2; have f3 := blk_free hx 3; have f4 := blk_free hx 4; have f5 := blk_free hx 5; have f6 := blk_free hx 6; have f7 := blk_free hx 7; have f8 := blk_free hx 8; have hr := lt_of_block hx; clear bx hx)
                exact bodyPost_ret (v := .agg #[.int .i64 0, .int .i64 0, .int .i64 0, .int .i64 0, .int .i64 0, .slice none 0 0, .slice none 0 0, .int .i64 (placeAt W 7), .int .i64 10]) (by simp [results, Tryd.results26, go_sem, hr, r0, r1, r2, r3, r4, r5, r6, r7, r8]) rfl (rline_bad HB.out (by repeat (first | with_reducible exact BX.out | refine Below.setCell ?_ (by simp) _)))
              | some l =>
                have hp2 : plus2 W = 8 := by unfold plus2; rw [huz, e9, hp1]; rfl
                obtain ⟨us, hus⟩ : ∃ us : List Int, (usAt W).getD [] = us := ⟨_, rfl⟩
                have hus0 : l = us := by rw [← hus, huz, e9]; rfl
                subst hus0
                have hll := numsOf_len e9
                have hzz := HWZ.out _ _ _ e8
                obtain ⟨m, hm⟩ : ∃ m, l.length = m := ⟨_, rfl⟩
                have hm9 : m ≤ 900001 := by omega
                have CNB : Hid (∀ v, Calls Tryd.prog 46 #[.string z2, .int .i64 255] v fun e w' => ∃ a c, e = .returned (.tuple #[.slice a m c, .bool true]) ∧ OwnI w' 2 v.heap.size (.slice a m c) l ∧ Below v.heap.size v w') := fun v => ((e9 ▸ rnumbers_own z2 (HWZ.out _ _ _ e8) 255 v)).mono fun _ _ h => numso_some hm h
                have HLM := Lib.hid hm
                clear huz e9 hp1 hll hzz hm
                go_upto_region 34 with (first
                  | (go_at_call 45; (with_reducible refine (CVS.out 7 7 bUse _ _ rfl (by omega) e8 HU.out.low).mono ?_); rintro y ux ⟨rfl, bx⟩; have H6 := Lib.hid (HU.out.below bx); clear bx)
                  | (go_at_call 46; (with_reducible refine (CNB.out _).mono ?_); rintro y uy ⟨a3, c3, rfl, ox, bx⟩; have H7 := Lib.hid ((H6.out.below (by repeat (first | exact Below.refl _ _ | (with_reducible assumption) | refine bw_alloc ?_ _ | refine bw_drew ?_))).src bx ox (Nat.le_trans H6.out.low.size (((by repeat (first | exact Below.refl _ _ | (with_reducible assumption) | refine bw_alloc ?_ _ | refine bw_drew ?_)) : Below ux.heap.size ux _).size))); clear bx ox))
                clear CNB H6 HU e8
                go_wp2_with fail
                go_loopw [17] (fun u wr => ∃ (k : Nat) (a' : Option Addr) (cp' : Nat), k ≤ m ∧ u = .int .i64 k ∧ Hid (RSt w k4 id (f 0) (f 1) (f 2) (f 3) (.slice a1 m1 c1) q (.slice a' k cp') (l.take k) (.slice a3 m c3) l wr)) (fun u _ => (m - intOf u).toNat)
                case atStart => exact ⟨0, none, 0, by omega, rfl, H7⟩
                case round =>
                  obtain ⟨k, a', cp', hk, rfl, HP⟩ := hrel
                  clear H7
                  have b6 : wr.cell? ⟨k4, 6, none⟩ = some (.slice a' k cp') := by rw [blk_cell HP.out.box]; rfl
                  by_cases hlt : k < m
                  · obtain ⟨y, hy⟩ := nth_of HLM.out hlt
                    obtain ⟨g3, o3, rfl, z3⟩ := (HP.out.own3.ints).1.at_ hy
                    have hk1 : (k : Int) < (m : Int) := by omega
                    have hk0 : (0 : Int) ≤ (k : Int) := by omega
                    have HTL : Hid ((l.take k).length = k) := by show _ = _; rw [List.length_take, HLM.out]; omega
                    have HT2 : Hid (l.take k ++ [y] = l.take (k + 1)) := by show _ = _; rw [List.take_add_one, hy]; rfl
                    have HSM : Hid ((((l.take k).length : Int) + ((1 : Nat) : Int)) ≤ 17592186044416) := by show _ ≤ _; rw [HTL.out]; omega
                    have HNN : Hid ((l.take k).length + 1 = k + 1) := by show _ = _; rw [HTL.out]
                    have hkw := lt_of_block HP.out.box
                    clear hy
                    go_upto_region 37 with fail
                    go_region_law (refine step_ints (m := 1) (l := [y]) numI rfl (.tmp 124) (.tmp 129) rfl (by rfl) (by rfl) (HP.out.below (by repeat (first | exact Below.refl _ _ | (with_reducible assumption) | refine bw_alloc ?_ _ | refine bw_drew ?_))).own2 (Nat.le_trans (lt_of_block HP.out.box) (((by repeat (first | exact Below.refl _ _ | (with_reducible assumption) | refine bw_alloc ?_ _ | refine bw_drew ?_)) : Below wr.heap.size wr _).size)) (by first | exact ints_new _ _ _ | exact (ints_new _ _ _).below (by repeat (first | exact Below.refl _ _ | (with_reducible assumption) | refine bw_alloc ?_ _ | refine bw_drew ?_))) rfl HSM.out (fun z => by cases z) (k + 1) HNN.out ?_; intro a5 k5 w5 o5 g5 l5; obtain ⟨hn, y1, y2⟩ := (HP.out.below (by repeat (first | exact Below.refl _ _ | (with_reducible assumption) | refine bw_alloc ?_ _ | refine bw_drew ?_))).push g5 (HT2.out ▸ o5); have HNW := Lib.hid hn; clear hn o5 g5 l5)
                    all_goals
                      go_wp2_with fail
                      go_roundw
                      case rel => exact ⟨k + 1, a5, k5, by omega, by go_num, HNW⟩
                      case measure => simp [intOf]; omega
                  · obtain rfl : m = k := by omega
                    have HT : Hid (l.take m = l) := by show _ = _; rw [← HLM.out, List.take_length]
                    have H8 : Hid (RSt w k4 id (f 0) (f 1) (f 2) (f 3) (.slice a1 m1 c1) q (.slice a' m cp') l (.slice a3 m c3) l wr) := by
                      have q9 := HP.out
                      rw [HT.out] at q9
                      exact q9
                    clear HT HP b6 hlt hk
                    go_upto_region 39 with fail
                    obtain ⟨a2, m2, c2, hv2⟩ : ∃ (a2 : Option Addr) (m2 c2 : Nat), (Value.slice a' m cp') = .slice a2 m2 c2 := ⟨_, _, _, rfl⟩
                    rw [hv2] at H8
                    clear hv2
                    by_cases ho : 8 < n
                    · have d20 : (8 : Int) < (n : Int) := by omega
                      have HB : Hid (lineOf W = .error (placeAt W 8)) := by show _ = _; rw [line_over e0 e1 n0 n1 n2 n3 (by rw [hp2, HL.out]; exact ho), hp2]
                      go_wp2_with (go_at_call 25; (with_reducible refine (CW.out 8 8 _ rfl (by omega) H8.out.low).mono ?_); rintro y ux ⟨rfl, bx⟩; have BX := Lib.hid (below_up H8.out.low bx); have hx := kept_obj bx H8.out.res; have r0 : ux.cell? ⟨w.heap.size, 0, none⟩ = some (.int .i64 0) := blk_cell hx 0; have r1 : ux.cell? ⟨w.heap.size, 1, none⟩ = some (.int .i64 0) := blk_cell hx 1; have r2 : ux.cell? ⟨w.heap.size, 2, none⟩ = some (.int .i64 0) := blk_cell hx 2; have r3 : ux.cell? ⟨w.heap.size, 3, none⟩ = some (.int .i64 0) := blk_cell hx 3; have r4 : ux.cell? ⟨w.heap.size, 4, none⟩ = some (.int .i64 0) := blk_cell hx 4; have r5 : ux.cell? ⟨w.heap.size, 5, none⟩ = some (.slice none 0 0) := blk_cell hx 5; have r6 : ux.cell? ⟨w.heap.size, 6, none⟩ = some (.slice none 0 0) := blk_cell hx 6; have r7 : ux.cell? ⟨w.heap.size, 7, none⟩ = some (.int .i64 0) := blk_cell hx 7; have r8 : ux.cell? ⟨w.heap.size, 8, none⟩ = some (.int .i64 0) := blk_cell hx 8; have f0 := blk_free hx 0; have f1 := blk_free hx 1; have f2 := blk_free hx 2; have f3 := blk_free hx 3; have f4 := blk_free hx 4; have f5 := blk_free hx 5; have f6 := blk_free hx 6; have f7 := blk_free hx 7; have f8 := blk_free hx 8; have hr := lt_of_block hx; clear bx hx)
                      exact bodyPost_ret (v := .agg #[.int .i64 0, .int .i64 0, .int .i64 0, .int .i64 0, .int .i64 0, .slice none 0 0, .slice none 0 0, .int .i64 (placeAt W 8), .int .i64 10]) (by simp [results, Tryd.results26, go_sem, hr, r0, r1, r2, r3, r4, r5, r6, r7, r8]) rfl (rline_bad HB.out (by repeat (first | with_reducible exact BX.out | refine Below.setCell ?_ (by simp) _)))
                    · have d20 : ¬ (8 : Int) < (n : Int) := by omega
                      have HOK : Hid (lineOf W = .ok ⟨id, f 0, f 1, f 2, f 3, q, l⟩) := by show _ = _; rw [line_ok e0 e1 n0 n1 n2 n3 (by rw [hp2, HL.out]; exact ho), hch, hus]
                      clear ho hp2 hch hus
                      go_upto_region 41 with fail
                      have cb := H8.out.box
                      have p0 : _root_.Go.World.cell? _ ⟨k4, 0, none⟩ = some (.int .i64 id) := blk_cell cb 0
                      have p1 : _root_.Go.World.cell? _ ⟨k4, 1, none⟩ = some (.int .i64 (f 0)) := blk_cell cb 1
                      have p2 : _root_.Go.World.cell? _ ⟨k4, 2, none⟩ = some (.int .i64 (f 1)) := blk_cell cb 2
                      have p3 : _root_.Go.World.cell? _ ⟨k4, 3, none⟩ = some (.int .i64 (f 2)) := blk_cell cb 3
                      have p4 : _root_.Go.World.cell? _ ⟨k4, 4, none⟩ = some (.int .i64 (f 3)) := blk_cell cb 4
                      have p5 : _root_.Go.World.cell? _ ⟨k4, 5, none⟩ = some (.slice a1 m1 c1) := blk_cell cb 5
                      have p6 : _root_.Go.World.cell? _ ⟨k4, 6, none⟩ = some (.slice a2 m2 c2) := blk_cell cb 6
                      clear cb
                      go_region_law (go_simp; (with_reducible refine (CE.out _ (below_up H8.out.low (by repeat (first | exact Below.refl _ _ | (with_reducible assumption) | refine bw_alloc ?_ _ | refine bw_drew ?_)))).mono ?_); rintro y u9 ⟨rfl, bx⟩; have H9 := Lib.hid ((H8.out.below (by repeat (first | exact Below.refl _ _ | (with_reducible assumption) | refine bw_alloc ?_ _ | refine bw_drew ?_))).below bx); have ct := H9.out.box; have cr := H9.out.res; have s0 : u9.cell? ⟨k4, 0, none⟩ = some (.int .i64 id) := blk_cell ct 0; have s1 : u9.cell? ⟨k4, 1, none⟩ = some (.int .i64 (f 0)) := blk_cell ct 1; have s2 : u9.cell? ⟨k4, 2, none⟩ = some (.int .i64 (f 1)) := blk_cell ct 2; have s3 : u9.cell? ⟨k4, 3, none⟩ = some (.int .i64 (f 2)) := blk_cell ct 3; have s4 : u9.cell? ⟨k4, 4, none⟩ = some (.int .i64 (f 3)) := blk_cell ct 4; have s5 : u9.cell? ⟨k4, 5, none⟩ = some (.slice a1 m1 c1) := blk_cell ct 5; have s6 : u9.cell? ⟨k4, 6, none⟩ = some (.slice a2 m2 c2) := blk_cell ct 6; have r0 : u9.cell? ⟨w.heap.size, 0, none⟩ = some (.int .i64 0) := blk_cell cr 0; have r1 : u9.cell? ⟨w.heap.size, 1, none⟩ = some (.int .i64 0) := blk_cell cr 1; have r2 : u9.cell? ⟨w.heap.size, 2, none⟩ = some (.int .i64 0) := blk_cell cr 2; have r3 : u9.cell? ⟨w.heap.size, 3, none⟩ = some (.int .i64 0) := blk_cell cr 3; have r4 : u9.cell? ⟨w.heap.size, 4, none⟩ = some (.int .i64 0) := blk_cell cr 4; have r5 : u9.cell? ⟨w.heap.size, 5, none⟩ = some (.slice none 0 0) := blk_cell cr 5; have r6 : u9.cell? ⟨w.heap.size, 6, none⟩ = some (.slice none 0 0) := blk_cell cr 6; have r7 : u9.cell? ⟨w.heap.size, 7, none⟩ = some (.int .i64 0) := blk_cell cr 7; have r8 : u9.cell? ⟨w.heap.size, 8, none⟩ = some (.int .i64 0) := blk_cell cr 8; have f0 := blk_free cr 0; have f1 := blk_free cr 1; have f2 := blk_free cr 2; have f3 := blk_free cr 3; have f4 := blk_free cr 4; have f5 := blk_free cr 5; have f6 := blk_free cr 6; have f7 := blk_free cr 7; have f8 := blk_free cr 8; have hr := lt_of_block cr; clear bx ct cr)
                      all_goals
                        go_wp2_with fail
                        refine bodyPost_ret (v := .agg #[.int .i64 id, .int .i64 (f 0), .int .i64 (f 1), .int .i64 (f 2), .int .i64 (f 3), .slice a1 m1 c1, .slice a2 m2 c2, .int .i64 (endAt W W.length), .int .i64 0]) (by simp [results, Tryd.results26, go_sem, hr, r0, r1, r2, r3, r4, r5, r6, r7, r8]) rfl ?_
                        exact rline_done H9.out HOK.out _ _ _ _ _ _ _ _ _
            
        
end Go.Proofs.YtlpffgmfgkleiaaDoor

/-
  What the document reads out of a text: what lies in memory.
-/
namespace Go.Proofs.YtlpffgmfgkleiaaDoor
open Go.RowKit Go.Maps

theorem lrun_ne (L : List WV) : ∀ i, i ≤ L.length → ∀ g ∈ lrun L i, g ≠ []
  | 0, _, g, h => by simp [lrun] at h
  | i + 1, hi, g, h => by
    have ih := lrun_ne L i (by omega)
    have hx : L[i]?.toList ≠ [] := by
      rw [List.getElem?_eq_getElem (by omega)]; simp
    rw [lrun] at h
    split at h
    · rcases List.mem_append.1 h with q | q
      · exact ih g q
      · simp only [List.mem_singleton] at q; subst q; exact hx
    · rcases List.mem_append.1 h with q | q
      · exact ih g (List.dropLast_subset _ q)
      · simp only [List.mem_singleton] at q; subst q
        intro e
        exact hx (List.append_eq_nil_iff.1 e).2
theorem lines_ne {s : ByteArray} {G : List WV} (h : G ∈ linesOf s) : G ≠ [] := lrun_ne _ _ (Nat.le_refl _) G h
abbrev AllT : TypeId := 39
theorem zeroAll (w : World) : (zeroValue AllT).run Tryd.prog w = .ok (.agg #[.int .i64 0, .int .i64 0, .slice none 0 0, .int .i64 0, .int .i64 0]) w := by kernel_rfl
/-- What the document tells of a text. -/
def RParseIs (s : ByteArray) (w : World) (y : Ending) (w' : World) : Prop :=
  ∃ (a : Option Addr) (n c : Nat), y = .returned (.agg #[.int .i64 (outOf s).S, .int .i64 (outOf s).R, .slice a n c, .int .i64 (outOf s).at_, .int .i64 (outOf s).e]) ∧ Holds (outOf s).S (outOf s).R (outOf s).l w.heap.size (.agg #[.int .i64 (outOf s).S, .int .i64 (outOf s).R, .slice a n c]) w' ∧ Below w.heap.size w w'
theorem below5 {w u : World} (h : Below w.heap.size w u) (y0 y1 y2 y3 y4 : Value) : Below w.heap.size w (((((u.setCell ⟨w.heap.size, 0, none⟩ y0).setCell ⟨w.heap.size, 1, none⟩ y1).setCell ⟨w.heap.size, 2, none⟩ y2).setCell ⟨w.heap.size, 3, none⟩ y3).setCell ⟨w.heap.size, 4, none⟩ y4) :=
  ((((h.setCell (p := ⟨w.heap.size, 0, none⟩) (Nat.le_refl _) _).setCell (p := ⟨w.heap.size, 1, none⟩) (Nat.le_refl _) _).setCell (p := ⟨w.heap.size, 2, none⟩) (Nat.le_refl _) _).setCell (p := ⟨w.heap.size, 3, none⟩) (Nat.le_refl _) _).setCell (p := ⟨w.heap.size, 4, none⟩) (Nat.le_refl _) _
theorem rparse_bad {s : ByteArray} {p e : Int} {w u : World} (h : outOf s = ⟨0, 0, [], p, e⟩) (hb : Below w.heap.size w u) (y0 y1 y2 y3 y4 : Value) : RParseIs s w (.returned (.agg #[.int .i64 0, .int .i64 0, .slice none 0 0, .int .i64 p, .int .i64 e])) (((((u.setCell ⟨w.heap.size, 0, none⟩ y0).setCell ⟨w.heap.size, 1, none⟩ y1).setCell ⟨w.heap.size, 2, none⟩ y2).setCell ⟨w.heap.size, 3, none⟩ y3).setCell ⟨w.heap.size, 4, none⟩ y4) := by
  unfold RParseIs; rw [h]; exact ⟨none, 0, 0, rfl, holds_zero _ _, below5 hb _ _ _ _ _⟩
theorem rparse_ok {s : ByteArray} {S R : Int} {l : List Tk} {B n c : Nat} {a : Option Addr} {w u : World} (h : outOf s = ⟨S, R, l, s.size, 0⟩) (hh : Holds S R l B (.agg #[.int .i64 S, .int .i64 R, .slice a n c]) u) (hB : w.heap.size < B) (hb : Below w.heap.size w u) (y0 y1 y2 y3 y4 : Value) : RParseIs s w (.returned (.agg #[.int .i64 S, .int .i64 R, .slice a n c, .int .i64 s.size, .int .i64 0])) (((((u.setCell ⟨w.heap.size, 0, none⟩ y0).setCell ⟨w.heap.size, 1, none⟩ y1).setCell ⟨w.heap.size, 2, none⟩ y2).setCell ⟨w.heap.size, 3, none⟩ y3).setCell ⟨w.heap.size, 4, none⟩ y4) := by
  unfold RParseIs; rw [h]; exact ⟨a, n, c, rfl, (((((hh.set hB _).set hB _).set hB _).set hB _).set hB _).low (by omega), below5 hb _ _ _ _ _⟩
theorem out_bad {s : ByteArray} {q : Int × Int} (h : parseOf s = .error q) : outOf s = ⟨0, 0, [], q.1, q.2⟩ := by unfold outOf; rw [h]
theorem out_ok {s : ByteArray} {S R : Nat} {l : List Tk} (h : parseOf s = .ok (S, R, l)) : outOf s = ⟨S, R, l, s.size, 0⟩ := by unfold outOf; rw [h]
theorem SysAt.set0 {W1 W : World} {N g : Nat} {s s' r : Int} (h : SysAt W1 N g s r (.slice none 0 0) [] W) : SysAt W1 N g s' r (.slice none 0 0) [] (W.setCell ⟨g, 0, none⟩ (.int .i64 s')) :=
  ⟨h.low.setCell (p := ⟨g, 0, none⟩) h.gl _, h.gl, (blk_set h.box _).trans rfl, OwnT.nil _ _, (fun x hx => by cases hx), (fun x hx => by cases hx), (fun x hx => by cases hx)⟩
theorem SysAt.set1 {W1 W : World} {N g : Nat} {s r r' : Int} (h : SysAt W1 N g s r (.slice none 0 0) [] W) : SysAt W1 N g s r' (.slice none 0 0) [] (W.setCell ⟨g, 1, none⟩ (.int .i64 r')) :=
  ⟨h.low.setCell (p := ⟨g, 1, none⟩) h.gl _, h.gl, (blk_set h.box _).trans rfl, OwnT.nil _ _, (fun x hx => by cases hx), (fun x hx => by cases hx), (fun x hx => by cases hx)⟩
theorem SysAt.far0 {W1 W : World} {N g b o : Nat} {s r : Int} (h : SysAt W1 N g s r (.slice none 0 0) [] W) (hb : N ≤ b) (hne : g ≠ b) (v : Value) : SysAt W1 N g s r (.slice none 0 0) [] (W.setCell ⟨b, o, none⟩ v) :=
  ⟨h.low.setCell (p := ⟨b, o, none⟩) hb _, h.gl, (farR hne v).trans h.box, OwnT.nil _ _, (fun x hx => by cases hx), (fun x hx => by cases hx), (fun x hx => by cases hx)⟩
theorem num_box {u : World} {nb : Nat} {x y : Value} (h : Box u nb NumT #[x, y]) (v0 v1 : Value) : Box ((u.setCell ⟨nb, 0, none⟩ v0).setCell ⟨nb, 1, none⟩ v1) nb NumT #[v0, v1] := by
  have q0 := blk_set (o := 0) h v0
  exact blk_set (o := 1) q0 v1
theorem c_sets {W : List WV} (h : wordAt W 0 = some bCache) (h1 : setsOf W = none) : cacheOf W = .error (placeAt W 1) := by unfold cacheOf; rw [if_neg (fun q => q h), h1]
theorem c_rel {W : List WV} (h : wordAt W 0 = some bCache) {s : Nat} (h1 : setsOf W = some s) (h2 : relOf W = none) : cacheOf W = .error (placeAt W 2) := by
  unfold cacheOf; rw [if_neg (fun q => q h), h1]; simp only []; rw [h2]
theorem c_over {W : List WV} (h : wordAt W 0 = some bCache) {s r : Nat} (h1 : setsOf W = some s) (h2 : relOf W = some r) (h3 : 3 < W.length) : cacheOf W = .error (placeAt W 3) := by
  unfold cacheOf; rw [if_neg (fun q => q h), h1]; simp only []; rw [h2]; simp only []; rw [if_pos h3]
theorem c_ok {W : List WV} (h : wordAt W 0 = some bCache) {s r : Nat} (h1 : setsOf W = some s) (h2 : relOf W = some r) (h3 : ¬ 3 < W.length) : cacheOf W = .ok (s, r) := by
  unfold cacheOf; rw [if_neg (fun q => q h), h1]; simp only []; rw [h2]; simp only []; rw [if_neg h3]
theorem b_lt {α : Type} {W : List WV} {i : Nat} {f : ByteArray → Option α} {n : α} (h : (wordAt W i).bind f = some n) : i < W.length := by
  rcases Nat.lt_or_ge i W.length with q | q
  · exact q
  · rw [wordAt_none q] at h; cases h
theorem cache_list : bCache.toList = [99, 97, 99, 104, 101] := by rw [ByteArray.toList_eq]
theorem c_first {W : List WV} (h : wordAt W 0 ≠ some bCache) : cacheOf W = .error (placeAt W 0) := by unfold cacheOf; rw [if_pos h]

set_option maxRecDepth 100000 in
set_option maxHeartbeats 8000000 in
theorem rparse_any (s : ByteArray) (hs : s.size ≤ 900000) (w : World) : Calls Tryd.prog 13 #[.string s] w (RParseIs s w) := by
  have hz := zeroAll
  have hz2 := w_zeroSys
  have hz3 := zeroNumb
  have hz4 := zeroGot
  have CL := Lib.hid (fun w => rlines_any s hs w)
  have HOK : Hid (∀ G ∈ linesOf s, WordsOk G) := fun G hG => lines_ok hs hG
  have HNE : Hid (∀ G ∈ linesOf s, G ≠ []) := fun G hG => lines_ne hG
  have HCT := lines_count s
  obtain ⟨G, hG⟩ : ∃ G, linesOf s = G := ⟨_, rfl⟩
  rw [hG] at CL HOK HCT HNE
  have HG := Lib.hid hG
  clear hG
  have hs2 : (s.size : Int) ≤ 900000 := by omega
  go_enter Tryd.func13, Tryd.ntmps13
  go_upto_region 1 with fail
  refine gen_world (fun v => Below w.heap.size w v ∧ Box v w.heap.size AllT #[.int .i64 0, .int .i64 0, .slice none 0 0, .int .i64 0, .int .i64 0]) ⟨bw_alloc (Below.refl _ _) _, heap_alloc_new w _⟩ ?_
  intro u0 ⟨hb0, hx0⟩
  have B0 := Lib.hid hb0
  have X0 := Lib.hid hx0
  clear hb0 hx0
  go_upto_region 2 with (go_at_call 23; (with_reducible refine (CL.out _).mono ?_); rintro e u1 ⟨a, c, B, cs, rfl, -, hR, b1⟩; have HR := Lib.hid hR; have B1 := Lib.hid (below_up B0.out b1); have X1 := Lib.hid (kept_obj b1 X0.out); clear hR b1)
  clear CL B0 X0
  cases G with
  | nil =>
    have hx9 := X1.out
    have r0 : u1.cell? ⟨w.heap.size, 0, none⟩ = some (.int .i64 0) := blk_cell hx9 0
    have r1 : u1.cell? ⟨w.heap.size, 1, none⟩ = some (.int .i64 0) := blk_cell hx9 1
    have r2 : u1.cell? ⟨w.heap.size, 2, none⟩ = some (.slice none 0 0) := blk_cell hx9 2
    have r3 : u1.cell? ⟨w.heap.size, 3, none⟩ = some (.int .i64 0) := blk_cell hx9 3
    have r4 : u1.cell? ⟨w.heap.size, 4, none⟩ = some (.int .i64 0) := blk_cell hx9 4
    have f0 := blk_free hx9 0
    have f1 := blk_free hx9 1
    have f2 := blk_free hx9 2
    have f3 := blk_free hx9 3
    have f4 := blk_free hx9 4
    have hr := lt_of_block hx9
    have HB : Hid (outOf s = ⟨0, 0, [], s.size, 10⟩) := out_bad (parse_none HG.out)
    have HLW : Hid (Below w.heap.size w u1) := B1.out
    clear hx9
    go_wp2_with fail
    exact bodyPost_ret (v := .agg #[.int .i64 0, .int .i64 0, .slice none 0 0, .int .i64 s.size, .int .i64 10]) (by simp [results, Tryd.results13, go_sem, hr, r0, r1, r2, r3, r4]) rfl (rparse_bad HB.out HLW.out _ _ _ _ _)
  | cons W rest =>
    obtain ⟨n, hn⟩ : ∃ n, rest.length = n := ⟨_, rfl⟩
    have HN := Lib.hid hn
    have hl1 : (W :: rest).length = n + 1 := by rw [List.length_cons, hn]
    rw [hl1] at HR HCT ⊢
    clear hn hl1
    have hn9 : (n : Int) ≤ 900000 := by omega
    have hw0 : w.heap.size < u1.heap.size := lt_of_block X1.out
    obtain ⟨g0, aW, cW, rfl, z0, hv0, hl0, hm0⟩ := rows_cell HR.out (j := 0) (x := W) rfl
    have HWD : Hid (Words u1 aW W.length cW W) := ⟨rfl, hv0, hl0, hm0⟩
    have HWO := Lib.hid (HOK.out W (by simp))
    obtain ⟨x0, hx0⟩ : ∃ x0, W[0]? = some x0 := by
      cases W with
      | nil => exact absurd rfl (HNE.out [] (by simp))
      | cons x l => exact ⟨x, rfl⟩
    obtain ⟨gw, ow, rfl, ⟨y0, y1, y2⟩⟩ := HWD.out.view.at_ hx0
    obtain ⟨m, hm⟩ : ∃ m, W.length = m := ⟨_, rfl⟩
    have HM := Lib.hid hm
    rw [hm] at z0 HWD
    have hmp : 0 < m := by have := (List.getElem?_eq_some_iff.1 hx0).1; omega
    have hmp2 : (0 : Int) < (m : Int) := by omega
    have hm9 : (m : Int) ≤ 9223372036854775807 := by have := hm0; have := hl0; omega
    have hp0 : (0 : Int) < ((n + 1 : Nat) : Int) := by omega
    have d0 : ¬ ((n + 1 : Nat) : Int) = 0 := by omega
    have d0b : ((n : Int) + 1 == 0) = false := by rw [beq_eq_false_iff_ne]; omega
    clear hv0 hl0 hm0 hm
    go_upto_region 6 with fail
    refine gen_world (SysAt u1 u1.heap.size u1.heap.size 0 0 (.slice none 0 0) []) (sysAt_new (Below.refl _ _) (Nat.le_refl _)) ?_
    intro u2 h2
    have H2 := Lib.hid h2
    have v0 := kept_cellB h2.low (block_of_cell y0) y0
    have v2 := kept_cellB h2.low (block_of_cell y2) y2
    simp only [Nat.zero_mul, Nat.add_zero] at v0 v2
    clear h2 y0 y1 y2
    by_cases e0 : wordAt W 0 = some bCache
    rotate_left
    · have hne : ¬ x0.tx = bCache := fun q => e0 (by rw [wordAt_some hx0, q])
      have d4 : (x0.tx.toList == [99, 97, 99, 104, 101]) = false := by rw [← cache_list, beq_bytes, decide_eq_false hne]
      have d5 : (x0.tx.toList != [99, 97, 99, 104, 101]) = true := by rw [bne, d4]; rfl
      have HPL := Lib.hid (placeAt_some hx0)
      clear hx0 hne
      have hx9 := (kept_objB H2.out.low hw0 X1.out)
      have r0 : u2.cell? ⟨w.heap.size, 0, none⟩ = some (.int .i64 0) := blk_cell hx9 0
      have r1 : u2.cell? ⟨w.heap.size, 1, none⟩ = some (.int .i64 0) := blk_cell hx9 1
      have r2 : u2.cell? ⟨w.heap.size, 2, none⟩ = some (.slice none 0 0) := blk_cell hx9 2
      have r3 : u2.cell? ⟨w.heap.size, 3, none⟩ = some (.int .i64 0) := blk_cell hx9 3
      have r4 : u2.cell? ⟨w.heap.size, 4, none⟩ = some (.int .i64 0) := blk_cell hx9 4
      have f0 := blk_free hx9 0
      have f1 := blk_free hx9 1
      have f2 := blk_free hx9 2
      have f3 := blk_free hx9 3
      have f4 := blk_free hx9 4
      have hr := lt_of_block hx9
      have HB : Hid (outOf s = ⟨0, 0, [], x0.at_, 10⟩) := (HPL.out ▸ out_bad (parse_cache HG.out (c_first e0)) : outOf s = ⟨0, 0, [], x0.at_, 10⟩)
      have HLW : Hid (Below w.heap.size w u2) := (below_up B1.out H2.out.low)
      clear hx9
      go_wp2_with fail
      exact bodyPost_ret (v := .agg #[.int .i64 0, .int .i64 0, .slice none 0 0, .int .i64 x0.at_, .int .i64 10]) (by simp [results, Tryd.results13, go_sem, hr, r0, r1, r2, r3, r4]) rfl (rparse_bad HB.out HLW.out _ _ _ _ _)
    have hxt : x0.tx = bCache := by rw [wordAt_some hx0] at e0; exact Option.some.inj e0
    have d4 : (x0.tx.toList == [99, 97, 99, 104, 101]) = true := by rw [← cache_list, beq_bytes, decide_eq_true hxt]
    have d5 : (x0.tx.toList != [99, 97, 99, 104, 101]) = false := by rw [bne, d4]; rfl
    clear hxt hx0
    go_upto_region 8 with fail
    clear d4 d5 v0 v2
    have CWR : Hid (∀ (i : Nat) (I : Int) (v : World), (i : Int) = I → i ≤ 1000 → Below u1.heap.size u1 v → Calls Tryd.prog 25 #[.slice (some ⟨gw, ow, none⟩) m cW, .int .i64 I] v (WrongIs (placeAt W i) v)) := fun i I v e hi hb => e ▸ wrong_any (HWD.out.below hb) hi
    unfold WrongIs at CWR
    have HWT : Hid (∀ (i : Nat) x, W[i]? = some x → ∀ v, Calls Tryd.prog 24 #[.string x.tx, .int .i64 256] v (NumB (numOf x.tx 256) v)) := fun i x hx v => rnumber_any x.tx (by have := (HWO.out x (List.mem_of_getElem? hx)).2; omega) 256 v
    have HWT2 : Hid (∀ (i : Nat) x, W[i]? = some x → ∀ v, Calls Tryd.prog 24 #[.string x.tx, .int .i64 1000] v (NumB (numOf x.tx 1000) v)) := fun i x hx v => rnumber_any x.tx (by have := (HWO.out x (List.mem_of_getElem? hx)).2; omega) 1000 v
    unfold NumB at HWT HWT2
    go_wp2_with fail
    go_loopw [6] (fun u wr => ∃ (k S R : Nat), ((k = 1 ∧ S = 0 ∧ R = 0) ∨ (k = 2 ∧ setsOf W = some S ∧ R = 0) ∨ (k = 3 ∧ setsOf W = some S ∧ relOf W = some R)) ∧ u = .int .i64 k ∧ Hid (SysAt u1 u1.heap.size u1.heap.size S R (.slice none 0 0) [] wr)) (fun u _ => (3 - intOf u).toNat)
    case atStart => exact ⟨1, 0, 0, .inl ⟨rfl, rfl, rfl⟩, rfl, H2⟩
    case round =>
      obtain ⟨k, S, R, hcase, rfl, HP⟩ := hrel
      clear H2
      have hgw2 : u1.heap.size < wr.heap.size := lt_of_block HP.out.box
      rcases hcase with ⟨rfl, rfl, rfl⟩ | ⟨rfl, e1, rfl⟩ | ⟨rfl, e1, e2⟩
      · cases e1 : setsOf W with
        | none =>
          by_cases hi : 1 < m
          · obtain ⟨xi, hxi⟩ := nth_of HM.out hi
            obtain ⟨g', o', eq1, q0, q1, q2⟩ := HWD.out.view.at_ hxi
            cases eq1
            have t2 : wr.cell? ⟨gw, ow + 3 + 2, none⟩ = some (.string xi.tx) := kept_cellB HP.out.low (block_of_cell q2) q2
            have hgx : gw < wr.heap.size := Nat.lt_trans (block_of_cell q2) hgw2
            have CI := Lib.hid (HWT.out _ _ hxi)
            have en : numOf xi.tx 256 = none := by unfold setsOf at e1; rw [wordAt_some hxi] at e1; exact e1
            rw [en] at CI
            have d3 : (1 : Int) < (m : Int) := by omega
            clear hxi q0 q1 q2 en
            go_upto_region 18 with (go_at_call 24; (with_reducible refine (CI.out _).mono ?_); rintro y ux ⟨rfl, bx⟩; have hy := kept_obj bx (heap_alloc_new wr _); have HA := Lib.hid ((HP.out.below (bw_alloc (Below.refl _ _) _)).below bx); have nr0 : ux.cell? ⟨wr.heap.size, 0, none⟩ = some (.int .i64 0) := blk_cell hy 0; have nr1 : ux.cell? ⟨wr.heap.size, 1, none⟩ = some (.bool false) := blk_cell hy 1; have nf0 := blk_free hy 0; have nf1 := blk_free hy 1; have nhr := lt_of_block hy; clear bx hy)
            refine gen_world (SysAt u1 u1.heap.size u1.heap.size ((0 : Nat) : Int) ((0 : Nat) : Int) (.slice none 0 0) []) ((HA.out.far0 (Nat.le_of_lt hgw2) (Nat.ne_of_lt hgw2) _).far0 (Nat.le_of_lt hgw2) (Nat.ne_of_lt hgw2) _) ?_
            intro u3 h3
            have H3 := Lib.hid h3
            clear h3 HA HP CI t2
            go_upto_region 19 with (go_at_call 25; (with_reducible refine (CWR.out 1 1 _ rfl (by omega) H3.out.low).mono ?_); rintro y uw ⟨rfl, bx⟩; have H4 := Lib.hid (H3.out.below bx); clear bx)
            refine gen_world (fun v => SysAt u1 u1.heap.size u1.heap.size ((0 : Nat) : Int) ((0 : Nat) : Int) (.slice none 0 0) [] v ∧ v.heap[uw.heap.size]? = some (.cells #[.int .i64 0, .int .i64 0, .int .i64 0, .int .i64 0, .int .i64 0, .slice none 0 0, .slice none 0 0, .int .i64 (placeAt W 1), .int .i64 10] GotT (0, 0))) ⟨H4.out.below (bw_alloc (Below.refl _ _) _), heap_alloc_new uw _⟩ ?_
            intro u5 ⟨h5, hy5⟩
            have H5 := Lib.hid h5
            generalize uw.heap.size = kg at hy5 ⊢
            have g7 : u5.cell? ⟨kg, 7, none⟩ = some (.int .i64 (placeAt W 1)) := blk_cell hy5 7
            have g8 : u5.cell? ⟨kg, 8, none⟩ = some (.int .i64 10) := blk_cell hy5 8
            clear h5 hy5 H3 H4
            have hx9 := (kept_objB H5.out.low hw0 X1.out)
            have r0 : u5.cell? ⟨w.heap.size, 0, none⟩ = some (.int .i64 0) := blk_cell hx9 0
            have r1 : u5.cell? ⟨w.heap.size, 1, none⟩ = some (.int .i64 0) := blk_cell hx9 1
            have r2 : u5.cell? ⟨w.heap.size, 2, none⟩ = some (.slice none 0 0) := blk_cell hx9 2
            have r3 : u5.cell? ⟨w.heap.size, 3, none⟩ = some (.int .i64 0) := blk_cell hx9 3
            have r4 : u5.cell? ⟨w.heap.size, 4, none⟩ = some (.int .i64 0) := blk_cell hx9 4
            have f0 := blk_free hx9 0
            have f1 := blk_free hx9 1
            have f2 := blk_free hx9 2
            have f3 := blk_free hx9 3
            have f4 := blk_free hx9 4
            have hr := lt_of_block hx9
            have HB : Hid (outOf s = ⟨0, 0, [], (placeAt W 1), 10⟩) := out_bad (parse_cache HG.out (c_sets e0 e1))
            have HLW : Hid (Below w.heap.size w u5) := (below_up B1.out H5.out.low)
            clear hx9
            go_wp2_with fail
            exact bodyPost_ret (v := .agg #[.int .i64 0, .int .i64 0, .slice none 0 0, .int .i64 (placeAt W 1), .int .i64 10]) (by simp [results, Tryd.results13, go_sem, hr, r0, r1, r2, r3, r4]) rfl (rparse_bad HB.out HLW.out _ _ _ _ _)
          · have d3 : ¬ (1 : Int) < (m : Int) := by omega
            go_upto_region 18 with fail
            refine gen_world (SysAt u1 u1.heap.size u1.heap.size ((0 : Nat) : Int) ((0 : Nat) : Int) (.slice none 0 0) []) (HP.out.below (bw_alloc (Below.refl _ _) _)) ?_
            intro u3 h3
            have H3 := Lib.hid h3
            clear h3 HP
            go_upto_region 19 with (go_at_call 25; (with_reducible refine (CWR.out 1 1 _ rfl (by omega) H3.out.low).mono ?_); rintro y uw ⟨rfl, bx⟩; have H4 := Lib.hid (H3.out.below bx); clear bx)
            refine gen_world (fun v => SysAt u1 u1.heap.size u1.heap.size ((0 : Nat) : Int) ((0 : Nat) : Int) (.slice none 0 0) [] v ∧ v.heap[uw.heap.size]? = some (.cells #[.int .i64 0, .int .i64 0, .int .i64 0, .int .i64 0, .int .i64 0, .slice none 0 0, .slice none 0 0, .int .i64 (placeAt W 1), .int .i64 10] GotT (0, 0))) ⟨H4.out.below (bw_alloc (Below.refl _ _) _), heap_alloc_new uw _⟩ ?_
            intro u5 ⟨h5, hy5⟩
            have H5 := Lib.hid h5
            generalize uw.heap.size = kg at hy5 ⊢
            have g7 : u5.cell? ⟨kg, 7, none⟩ = some (.int .i64 (placeAt W 1)) := blk_cell hy5 7
            have g8 : u5.cell? ⟨kg, 8, none⟩ = some (.int .i64 10) := blk_cell hy5 8
            clear h5 hy5 H3 H4
            have hx9 := (kept_objB H5.out.low hw0 X1.out)
            have r0 : u5.cell? ⟨w.heap.size, 0, none⟩ = some (.int .i64 0) := blk_cell hx9 0
            have r1 : u5.cell? ⟨w.heap.size, 1, none⟩ = some (.int .i64 0) := blk_cell hx9 1
            have r2 : u5.cell? ⟨w.heap.size, 2, none⟩ = some (.slice none 0 0) := blk_cell hx9 2
            have r3 : u5.cell? ⟨w.heap.size, 3, none⟩ = some (.int .i64 0) := blk_cell hx9 3
            have r4 : u5.cell? ⟨w.heap.size, 4, none⟩ = some (.int .i64 0) := blk_cell hx9 4
            have f0 := blk_free hx9 0
            have f1 := blk_free hx9 1
            have f2 := blk_free hx9 2
            have f3 := blk_free hx9 3
            have f4 := blk_free hx9 4
            have hr := lt_of_block hx9
            have HB : Hid (outOf s = ⟨0, 0, [], (placeAt W 1), 10⟩) := out_bad (parse_cache HG.out (c_sets e0 e1))
            have HLW : Hid (Below w.heap.size w u5) := (below_up B1.out H5.out.low)
            clear hx9
            go_wp2_with fail
            exact bodyPost_ret (v := .agg #[.int .i64 0, .int .i64 0, .slice none 0 0, .int .i64 (placeAt W 1), .int .i64 10]) (by simp [results, Tryd.results13, go_sem, hr, r0, r1, r2, r3, r4]) rfl (rparse_bad HB.out HLW.out _ _ _ _ _)
        | some S =>
          have hi : 1 < m := by have := b_lt e1; have := HM.out; omega
          obtain ⟨xi, hxi⟩ := nth_of HM.out hi
          obtain ⟨g', o', eq1, q0, q1, q2⟩ := HWD.out.view.at_ hxi
          cases eq1
          have t2 : wr.cell? ⟨gw, ow + 3 + 2, none⟩ = some (.string xi.tx) := kept_cellB HP.out.low (block_of_cell q2) q2
          have hgx : gw < wr.heap.size := Nat.lt_trans (block_of_cell q2) hgw2
          have CI := Lib.hid (HWT.out _ _ hxi)
          have en : numOf xi.tx 256 = some S := by unfold setsOf at e1; rw [wordAt_some hxi] at e1; exact e1
          rw [en] at CI
          have d3 : (1 : Int) < (m : Int) := by omega
          clear hxi q0 q1 q2 en
          go_upto_region 20 with (go_at_call 24; (with_reducible refine (CI.out _).mono ?_); rintro y ux ⟨rfl, bx⟩; have hy := kept_obj bx (heap_alloc_new wr _); have HY := Lib.hid hy; have HA := Lib.hid ((HP.out.below (bw_alloc (Below.refl _ _) _)).below bx); have nr0 : ux.cell? ⟨wr.heap.size, 0, none⟩ = some (.int .i64 0) := blk_cell hy 0; have nr1 : ux.cell? ⟨wr.heap.size, 1, none⟩ = some (.bool false) := blk_cell hy 1; have nf0 := blk_free hy 0; have nf1 := blk_free hy 1; have nhr := lt_of_block hy; clear bx hy)
          refine gen_world (fun v => SysAt u1 u1.heap.size u1.heap.size ((0 : Nat) : Int) ((0 : Nat) : Int) (.slice none 0 0) [] v ∧ Box v wr.heap.size NumT #[.int .i64 S, .bool true]) ⟨(HA.out.far0 (Nat.le_of_lt hgw2) (Nat.ne_of_lt hgw2) _).far0 (Nat.le_of_lt hgw2) (Nat.ne_of_lt hgw2) _, num_box HY.out _ _⟩ ?_
          intro u3 ⟨h3, hn3⟩
          have H3 := Lib.hid h3
          have w0 : u3.cell? ⟨wr.heap.size, 0, none⟩ = some (.int .i64 S) := blk_cell hn3 0
          have hcx := h3.box
          have xr0 : u3.cell? ⟨u1.heap.size, 0, none⟩ = some (.int .i64 (((0 : Nat) : Int))) := blk_cell hcx 0
          have xr1 : u3.cell? ⟨u1.heap.size, 1, none⟩ = some (.int .i64 (((0 : Nat) : Int))) := blk_cell hcx 1
          have xr2 : u3.cell? ⟨u1.heap.size, 2, none⟩ = some (.slice none 0 0) := blk_cell hcx 2
          have xf0 := blk_free hcx 0
          have xf1 := blk_free hcx 1
          have xf2 := blk_free hcx 2
          have xhr := lt_of_block hcx
          clear h3 hn3 hcx HA HY HP CI t2 nr0 nr1 nf0 nf1 nhr
          go_wp2_with fail
          go_roundw
          case rel => exact ⟨2, S, 0, .inr (.inl ⟨rfl, rfl, rfl⟩), by go_num, H3.out.set0⟩
          case measure => simp [intOf]
      · cases e2 : relOf W with
        | none =>
          by_cases hi : 2 < m
          · obtain ⟨xi, hxi⟩ := nth_of HM.out hi
            obtain ⟨g', o', eq1, q0, q1, q2⟩ := HWD.out.view.at_ hxi
            cases eq1
            have t2 : wr.cell? ⟨gw, ow + 6 + 2, none⟩ = some (.string xi.tx) := kept_cellB HP.out.low (block_of_cell q2) q2
            have hgx : gw < wr.heap.size := Nat.lt_trans (block_of_cell q2) hgw2
            have CI := Lib.hid (HWT2.out _ _ hxi)
            have en : numOf xi.tx 1000 = none := by unfold relOf at e2; rw [wordAt_some hxi] at e2; exact e2
            rw [en] at CI
            have d3 : (2 : Int) < (m : Int) := by omega
            clear hxi q0 q1 q2 en
            go_upto_region 18 with (go_at_call 24; (with_reducible refine (CI.out _).mono ?_); rintro y ux ⟨rfl, bx⟩; have hy := kept_obj bx (heap_alloc_new wr _); have HA := Lib.hid ((HP.out.below (bw_alloc (Below.refl _ _) _)).below bx); have nr0 : ux.cell? ⟨wr.heap.size, 0, none⟩ = some (.int .i64 0) := blk_cell hy 0; have nr1 : ux.cell? ⟨wr.heap.size, 1, none⟩ = some (.bool false) := blk_cell hy 1; have nf0 := blk_free hy 0; have nf1 := blk_free hy 1; have nhr := lt_of_block hy; clear bx hy)
            refine gen_world (SysAt u1 u1.heap.size u1.heap.size (S : Int) ((0 : Nat) : Int) (.slice none 0 0) []) ((HA.out.far0 (Nat.le_of_lt hgw2) (Nat.ne_of_lt hgw2) _).far0 (Nat.le_of_lt hgw2) (Nat.ne_of_lt hgw2) _) ?_
            intro u3 h3
            have H3 := Lib.hid h3
            clear h3 HA HP CI t2
            go_upto_region 19 with (go_at_call 25; (with_reducible refine (CWR.out 2 2 _ rfl (by omega) H3.out.low).mono ?_); rintro y uw ⟨rfl, bx⟩; have H4 := Lib.hid (H3.out.below bx); clear bx)
            refine gen_world (fun v => SysAt u1 u1.heap.size u1.heap.size (S : Int) ((0 : Nat) : Int) (.slice none 0 0) [] v ∧ v.heap[uw.heap.size]? = some (.cells #[.int .i64 0, .int .i64 0, .int .i64 0, .int .i64 0, .int .i64 0, .slice none 0 0, .slice none 0 0, .int .i64 (placeAt W 2), .int .i64 10] GotT (0, 0))) ⟨H4.out.below (bw_alloc (Below.refl _ _) _), heap_alloc_new uw _⟩ ?_
            intro u5 ⟨h5, hy5⟩
            have H5 := Lib.hid h5
            generalize uw.heap.size = kg at hy5 ⊢
            have g7 : u5.cell? ⟨kg, 7, none⟩ = some (.int .i64 (placeAt W 2)) := blk_cell hy5 7
            have g8 : u5.cell? ⟨kg, 8, none⟩ = some (.int .i64 10) := blk_cell hy5 8
            clear h5 hy5 H3 H4
            have hx9 := (kept_objB H5.out.low hw0 X1.out)
            have r0 : u5.cell? ⟨w.heap.size, 0, none⟩ = some (.int .i64 0) := blk_cell hx9 0
            have r1 : u5.cell? ⟨w.heap.size, 1, none⟩ = some (.int .i64 0) := blk_cell hx9 1
            have r2 : u5.cell? ⟨w.heap.size, 2, none⟩ = some (.slice none 0 0) := blk_cell hx9 2
            have r3 : u5.cell? ⟨w.heap.size, 3, none⟩ = some (.int .i64 0) := blk_cell hx9 3
            have r4 : u5.cell? ⟨w.heap.size, 4, none⟩ = some (.int .i64 0) := blk_cell hx9 4
            have f0 := blk_free hx9 0
            have f1 := blk_free hx9 1
            have f2 := blk_free hx9 2
            have f3 := blk_free hx9 3
            have f4 := blk_free hx9 4
            have hr := lt_of_block hx9
            have HB : Hid (outOf s = ⟨0, 0, [], (placeAt W 2), 10⟩) := out_bad (parse_cache HG.out (c_rel e0 e1 e2))
            have HLW : Hid (Below w.heap.size w u5) := (below_up B1.out H5.out.low)
            clear hx9
            go_wp2_with fail
            exact bodyPost_ret (v := .agg #[.int .i64 0, .int .i64 0, .slice none 0 0, .int .i64 (placeAt W 2), .int .i64 10]) (by simp [results, Tryd.results13, go_sem, hr, r0, r1, r2, r3, r4]) rfl (rparse_bad HB.out HLW.out _ _ _ _ _)
          · have d3 : ¬ (2 : Int) < (m : Int) := by omega
            go_upto_region 18 with fail
            refine gen_world (SysAt u1 u1.heap.size u1.heap.size (S : Int) ((0 : Nat) : Int) (.slice none 0 0) []) (HP.out.below (bw_alloc (Below.refl _ _) _)) ?_
            intro u3 h3
            have H3 := Lib.hid h3
            clear h3 HP
            go_upto_region 19 with (go_at_call 25; (with_reducible refine (CWR.out 2 2 _ rfl (by omega) H3.out.low).mono ?_); rintro y uw ⟨rfl, bx⟩; have H4 := Lib.hid (H3.out.below bx); clear bx)
            refine gen_world (fun v => SysAt u1 u1.heap.size u1.heap.size (S : Int) ((0 : Nat) : Int) (.slice none 0 0) [] v ∧ v.heap[uw.heap.size]? = some (.cells #[.int .i64 0, .int .i64 0, .int .i64 0, .int .i64 0, .int .i64 0, .slice none 0 0, .slice none 0 0, .int .i64 (placeAt W 2), .int .i64 10] GotT (0, 0))) ⟨H4.out.below (bw_alloc (Below.refl _ _) _), heap_alloc_new uw _⟩ ?_
            intro u5 ⟨h5, hy5⟩
            have H5 := Lib.hid h5
            generalize uw.heap.size = kg at hy5 ⊢
            have g7 : u5.cell? ⟨kg, 7, none⟩ = some (.int .i64 (placeAt W 2)) := blk_cell hy5 7
            have g8 : u5.cell? ⟨kg, 8, none⟩ = some (.int .i64 10) := blk_cell hy5 8
            clear h5 hy5 H3 H4
            have hx9 := (kept_objB H5.out.low hw0 X1.out)
            have r0 : u5.cell? ⟨w.heap.size, 0, none⟩ = some (.int .i64 0) := blk_cell hx9 0
            have r1 : u5.cell? ⟨w.heap.size, 1, none⟩ = some (.int .i64 0) := blk_cell hx9 1
            have r2 : u5.cell? ⟨w.heap.size, 2, none⟩ = some (.slice none 0 0) := blk_cell hx9 2
            have r3 : u5.cell? ⟨w.heap.size, 3, none⟩ = some (.int .i64 0) := blk_cell hx9 3
            have r4 : u5.cell? ⟨w.heap.size, 4, none⟩ = some (.int .i64 0) := blk_cell hx9 4
            have f0 := blk_free hx9 0
            have f1 := blk_free hx9 1
            have f2 := blk_free hx9 2
            have f3 := blk_free hx9 3
            have f4 := blk_free hx9 4
            have hr := lt_of_block hx9
            have HB : Hid (outOf s = ⟨0, 0, [], (placeAt W 2), 10⟩) := out_bad (parse_cache HG.out (c_rel e0 e1 e2))
            have HLW : Hid (Below w.heap.size w u5) := (below_up B1.out H5.out.low)
            clear hx9
            go_wp2_with fail
            exact bodyPost_ret (v := .agg #[.int .i64 0, .int .i64 0, .slice none 0 0, .int .i64 (placeAt W 2), .int .i64 10]) (by simp [results, Tryd.results13, go_sem, hr, r0, r1, r2, r3, r4]) rfl (rparse_bad HB.out HLW.out _ _ _ _ _)
        | some R =>
          have hi : 2 < m := by have := b_lt e2; have := HM.out; omega
          obtain ⟨xi, hxi⟩ := nth_of HM.out hi
          obtain ⟨g', o', eq1, q0, q1, q2⟩ := HWD.out.view.at_ hxi
          cases eq1
          have t2 : wr.cell? ⟨gw, ow + 6 + 2, none⟩ = some (.string xi.tx) := kept_cellB HP.out.low (block_of_cell q2) q2
          have hgx : gw < wr.heap.size := Nat.lt_trans (block_of_cell q2) hgw2
          have CI := Lib.hid (HWT2.out _ _ hxi)
          have en : numOf xi.tx 1000 = some R := by unfold relOf at e2; rw [wordAt_some hxi] at e2; exact e2
          rw [en] at CI
          have d3 : (2 : Int) < (m : Int) := by omega
          clear hxi q0 q1 q2 en
          go_upto_region 20 with (go_at_call 24; (with_reducible refine (CI.out _).mono ?_); rintro y ux ⟨rfl, bx⟩; have hy := kept_obj bx (heap_alloc_new wr _); have HY := Lib.hid hy; have HA := Lib.hid ((HP.out.below (bw_alloc (Below.refl _ _) _)).below bx); have nr0 : ux.cell? ⟨wr.heap.size, 0, none⟩ = some (.int .i64 0) := blk_cell hy 0; have nr1 : ux.cell? ⟨wr.heap.size, 1, none⟩ = some (.bool false) := blk_cell hy 1; have nf0 := blk_free hy 0; have nf1 := blk_free hy 1; have nhr := lt_of_block hy; clear bx hy)
          refine gen_world (fun v => SysAt u1 u1.heap.size u1.heap.size (S : Int) ((0 : Nat) : Int) (.slice none 0 0) [] v ∧ Box v wr.heap.size NumT #[.int .i64 R, .bool true]) ⟨(HA.out.far0 (Nat.le_of_lt hgw2) (Nat.ne_of_lt hgw2) _).far0 (Nat.le_of_lt hgw2) (Nat.ne_of_lt hgw2) _, num_box HY.out _ _⟩ ?_
          intro u3 ⟨h3, hn3⟩
          have H3 := Lib.hid h3
          have w0 : u3.cell? ⟨wr.heap.size, 0, none⟩ = some (.int .i64 R) := blk_cell hn3 0
          have hcx := h3.box
          have xr0 : u3.cell? ⟨u1.heap.size, 0, none⟩ = some (.int .i64 ((S : Int))) := blk_cell hcx 0
          have xr1 : u3.cell? ⟨u1.heap.size, 1, none⟩ = some (.int .i64 (((0 : Nat) : Int))) := blk_cell hcx 1
          have xr2 : u3.cell? ⟨u1.heap.size, 2, none⟩ = some (.slice none 0 0) := blk_cell hcx 2
          have xf0 := blk_free hcx 0
          have xf1 := blk_free hcx 1
          have xf2 := blk_free hcx 2
          have xhr := lt_of_block hcx
          clear h3 hn3 hcx HA HY HP CI t2 nr0 nr1 nf0 nf1 nhr
          go_wp2_with fail
          go_roundw
          case rel => exact ⟨3, S, R, .inr (.inr ⟨rfl, e1, rfl⟩), by go_num, H3.out.set1⟩
          case measure => simp [intOf]
      · have hl3 : 3 ≤ W.length := b_lt e2
        rw [HM.out] at hl3
        by_cases ho : 3 < m
        · obtain ⟨xi, hxi⟩ := nth_of HM.out ho
          obtain ⟨g', o', eq1, q0, q1, q2⟩ := HWD.out.view.at_ hxi
          cases eq1
          have t0 : wr.cell? ⟨gw, ow + 9, none⟩ = some (.int .i64 xi.at_) := kept_cellB HP.out.low (block_of_cell q0) q0
          have hgx : gw < wr.heap.size := Nat.lt_trans (block_of_cell q0) hgw2
          have d3 : (3 : Int) < (m : Int) := by omega
          have HPL := Lib.hid (placeAt_some hxi)
          have HCO := Lib.hid (c_over e0 e1 e2 (by rw [HM.out]; exact ho))
          clear hxi q0 q1 q2
          have hx9 := (kept_objB HP.out.low hw0 X1.out)
          have r0 : wr.cell? ⟨w.heap.size, 0, none⟩ = some (.int .i64 0) := blk_cell hx9 0
          have r1 : wr.cell? ⟨w.heap.size, 1, none⟩ = some (.int .i64 0) := blk_cell hx9 1
          have r2 : wr.cell? ⟨w.heap.size, 2, none⟩ = some (.slice none 0 0) := blk_cell hx9 2
          have r3 : wr.cell? ⟨w.heap.size, 3, none⟩ = some (.int .i64 0) := blk_cell hx9 3
          have r4 : wr.cell? ⟨w.heap.size, 4, none⟩ = some (.int .i64 0) := blk_cell hx9 4
          have f0 := blk_free hx9 0
          have f1 := blk_free hx9 1
          have f2 := blk_free hx9 2
          have f3 := blk_free hx9 3
          have f4 := blk_free hx9 4
          have hr := lt_of_block hx9
          have HB : Hid (outOf s = ⟨0, 0, [], xi.at_, 10⟩) := (HPL.out ▸ out_bad (parse_cache HG.out HCO.out) : outOf s = ⟨0, 0, [], xi.at_, 10⟩)
          have HLW : Hid (Below w.heap.size w wr) := (below_up B1.out HP.out.low)
          clear hx9
          go_wp2_with fail
          exact bodyPost_ret (v := .agg #[.int .i64 0, .int .i64 0, .slice none 0 0, .int .i64 xi.at_, .int .i64 10]) (by simp [results, Tryd.results13, go_sem, hr, r0, r1, r2, r3, r4]) rfl (rparse_bad HB.out HLW.out _ _ _ _ _)
        · have d3 : ¬ (3 : Int) < (m : Int) := by omega
          have HC := Lib.hid (c_ok e0 e1 e2 (by rw [HM.out]; exact ho))
          clear ho e1 e2 hl3 CWR HWT HWT2 hgw2
          go_wp2_with fail
          go_loopw [10] (fun u wr => ∃ (j k : Nat) (a' : Option Addr) (cp' : Nat) (L : List TV), k ≤ n ∧ u = .int .i64 j ∧ Hid (j = k + 1) ∧ Hid (L.length = k) ∧ Hid (∀ x ∈ L, I64 x.p ∧ I64 x.id) ∧ Hid (tailOf S R [] rest = tailOf S R (L.map TV.tk) (rest.drop k)) ∧ Hid (SysAt u1 u1.heap.size u1.heap.size S R (.slice a' k cp') L wr)) (fun u _ => (n + 1 - intOf u).toNat)
          case atStart => exact ⟨1, 0, none, 0, [], by omega, rfl, rfl, rfl, (fun x hx => by simp at hx), rfl, HP⟩
          case round =>
            obtain ⟨j, k, a', cp', L, hk, rfl, HJ, HLL, HLS, HT, HQ⟩ := hrel
            clear HP
            have b2 : wr.cell? ⟨u1.heap.size, 2, none⟩ = some (.slice a' k cp') := by rw [blk_cell HQ.out.box]; rfl
            have hgw3 : u1.heap.size < wr.heap.size := lt_of_block HQ.out.box
            by_cases hlt : k < n
            · obtain ⟨V, hV⟩ := nth_of HN.out hlt
              obtain ⟨g1, aV, cV, eq2, zV, hvV, hlV, hmV⟩ := rows_cell HR.out (j := j) (x := V) (by rw [HJ.out]; simpa using hV)
              cases eq2
              have zV' : wr.cell? ⟨g0, j, none⟩ = some (.slice aV V.length cV) := kept_cellB HQ.out.low (block_of_cell zV) zV
              have hg0 : g0 < wr.heap.size := Nat.lt_trans (block_of_cell zV) hgw3
              have hj1 : (j : Int) < ((n + 1 : Nat) : Int) := by have := HJ.out; omega
              have hj0 : (0 : Int) ≤ (j : Int) := by omega
              have hj9 : IntKind.i64.wrap ((j : Int) + 1) = ((j + 1 : Nat) : Int) := (IntWalk.i64_in _ (by have := HJ.out; omega)).trans (by omega)
              have HJ9 := Lib.hid hj9
              clear hj9
              have HVM := Lib.hid (List.mem_of_getElem? hV)
              have HVW : Hid (Words u1 aV V.length cV V) := ⟨rfl, hvV, hlV, hmV⟩
              have CT0 : Hid (∀ v, Below wr.heap.size wr v → Calls Tryd.prog 26 #[.slice aV V.length cV] v (RLineIs V v)) := fun v hb => rline_any ((HVW.out.below HQ.out.low).below hb) (fun x hx => (HOK.out V (by simp; right; exact HVM.out) x hx).2)
              have HTS := HT.out
              rw [tail_step hV] at HTS
              have HZ : Hid (u1.cell? ⟨g0, j, none⟩ = some (.slice aV V.length cV)) := zV
              clear zV hvV hlV hmV
              unfold RLineIs at CT0
              cases hq : lineOf V with
              | error p =>
                rw [hq] at CT0 HTS
                unfold WrongIs at CT0
                have HTB := Lib.hid HTS
                clear HTS hq HT
                go_upto_region 29 with (go_at_call 26; (with_reducible refine (CT0.out _ (Below.refl _ _)).mono ?_); rintro y uw ⟨rfl, bx⟩; have H4 := Lib.hid (HQ.out.below bx); clear bx)
                refine gen_world (fun v => SysAt u1 u1.heap.size u1.heap.size S R (.slice a' k cp') L v ∧ v.heap[uw.heap.size]? = some (.cells #[.int .i64 0, .int .i64 0, .int .i64 0, .int .i64 0, .int .i64 0, .slice none 0 0, .slice none 0 0, .int .i64 p, .int .i64 10] GotT (0, 0))) ⟨H4.out.below (bw_alloc (Below.refl _ _) _), heap_alloc_new uw _⟩ ?_
                intro u5 ⟨h5, hy5⟩
                have H5 := Lib.hid h5
                generalize uw.heap.size = kg at hy5 ⊢
                have g7 : u5.cell? ⟨kg, 7, none⟩ = some (.int .i64 p) := blk_cell hy5 7
                have g8 : u5.cell? ⟨kg, 8, none⟩ = some (.int .i64 10) := blk_cell hy5 8
                clear h5 hy5 H4 HQ b2
                have hx9 := (kept_objB H5.out.low hw0 X1.out)
                have r0 : u5.cell? ⟨w.heap.size, 0, none⟩ = some (.int .i64 0) := blk_cell hx9 0
                have r1 : u5.cell? ⟨w.heap.size, 1, none⟩ = some (.int .i64 0) := blk_cell hx9 1
                have r2 : u5.cell? ⟨w.heap.size, 2, none⟩ = some (.slice none 0 0) := blk_cell hx9 2
                have r3 : u5.cell? ⟨w.heap.size, 3, none⟩ = some (.int .i64 0) := blk_cell hx9 3
                have r4 : u5.cell? ⟨w.heap.size, 4, none⟩ = some (.int .i64 0) := blk_cell hx9 4
                have f0 := blk_free hx9 0
                have f1 := blk_free hx9 1
                have f2 := blk_free hx9 2
                have f3 := blk_free hx9 3
                have f4 := blk_free hx9 4
                have hr := lt_of_block hx9
                have HB : Hid (outOf s = ⟨0, 0, [], p, 10⟩) := out_bad (parse_tail HG.out HC.out HTB.out)
                have HLW : Hid (Below w.heap.size w u5) := (below_up B1.out H5.out.low)
                clear hx9
                go_wp2_with fail
                exact bodyPost_ret (v := .agg #[.int .i64 0, .int .i64 0, .slice none 0 0, .int .i64 p, .int .i64 10]) (by simp [results, Tryd.results13, go_sem, hr, r0, r1, r2, r3, r4]) rfl (rparse_bad HB.out HLW.out _ _ _ _ _)
              | ok tk =>
                rw [hq] at CT0 HTS
                simp only [] at HTS
                obtain ⟨hw0', hid, hp⟩ := line_small hq
                obtain ⟨xv, hxv⟩ : ∃ xv, V[0]? = some xv := by
                  cases h : V[0]? with
                  | some x0 => exact ⟨x0, rfl⟩
                  | none => unfold wordAt at hw0'; rw [h] at hw0'; cases hw0'
                rw [placeAt_some hxv] at HTS
                have hvl : (0 : Int) < (V.length : Int) := by have := (List.getElem?_eq_some_iff.1 hxv).1; omega
                obtain ⟨gv, ov, rfl, q0, -, -⟩ := HVW.out.view.at_ hxv
                have HQ0 : Hid (u1.cell? ⟨gv, ov, none⟩ = some (.int .i64 xv.at_)) := q0
                have hgv := block_of_cell q0
                have CT1 : Hid (∀ v, Below wr.heap.size wr v → Calls Tryd.prog 26 #[.slice (some ⟨gv, ov, none⟩) V.length cV] v fun y w' => ∃ x : TV, y = .returned (.agg #[.int .i64 x.id, .int .i64 x.c, .int .i64 x.d, .int .i64 x.t, .int .i64 x.p, .slice x.a1 x.ch.length x.c1, .slice x.a2 x.us.length x.c2, .int .i64 (endAt V V.length), .int .i64 0]) ∧ x.tk = tk ∧ x.ok w' ∧ (IsI w' x.a1 x.ch ∧ IsI w' x.a2 x.us) ∧ (FreshI u1.heap.size x.a1 x.ch ∧ FreshI u1.heap.size x.a2 x.us) ∧ Below v.heap.size v w') :=
                  fun v hb => (CT0.out v hb).mono fun y w' ⟨x, h1, h2, h3, h4, h5, h6⟩ => ⟨x, h1, h2, h3, ⟨h4.1, h5.1⟩, ⟨h4.2.low (Nat.le_trans (Nat.le_of_lt hgw3) hb.size), h5.2.low (Nat.le_trans (Nat.le_of_lt hgw3) hb.size)⟩, h6⟩
                have HSM : Hid (L.length + 1 ≤ 1000000) := by show _ ≤ _; have := HLL.out; omega
                have HNN : Hid (L.length + 1 = k + 1) := by show _ = _; rw [HLL.out]
                have HIDP : Hid (∀ x : TV, x.tk = tk → I64 x.p ∧ I64 x.id) := fun x hx => by
                  have e1 : x.p = tk.p := by rw [← hx]; rfl
                  have e2 : x.id = tk.id := by rw [← hx]; rfl
                  rw [e1, e2]; unfold I64; omega
                have HTS2 := Lib.hid HTS
                obtain ⟨E, hE⟩ : ∃ E, checkT S R (L.map TV.tk ++ [tk]) = E := ⟨_, rfl⟩
                rw [hE] at HTS2
                have HE : Hid (∀ x : TV, x.tk = tk → checkOf S R (L ++ [x]) = E) := fun x hx => by rw [check_tk, List.map_append, List.map_cons, List.map_nil, hx]; exact hE
                clear CT0 HTS hq HT hw0' hid hp hxv q0 hE
                go_upto_region 29 with (go_at_call 26; (with_reducible refine (CT1.out _ (Below.refl _ _)).mono ?_); rintro y uw ⟨y, rfl, hy, hok, hi, hfr, bx⟩; have HTK := Lib.hid hy; have HY := Lib.hid hok; have HI := Lib.hid hi; have HFR := Lib.hid hfr; have H4 := Lib.hid (HQ.out.below bx); clear bx hy hok hi hfr)
                refine gen_world (fun v => Below uw.heap.size uw v ∧ v.heap[uw.heap.size]? = some (.cells #[.int .i64 y.id, .int .i64 y.c, .int .i64 y.d, .int .i64 y.t, .int .i64 y.p, .slice y.a1 y.ch.length y.c1, .slice y.a2 y.us.length y.c2, .int .i64 (endAt V V.length), .int .i64 0] GotT (0, 0))) ⟨bw_alloc (Below.refl _ _) _, heap_alloc_new uw _⟩ ?_
                intro u5 ⟨h5, hy5⟩
                have H5 := Lib.hid (H4.out.below h5)
                have HY5 := Lib.hid (HY.out.below h5)
                have HI5 : Hid (IsI u5 y.a1 y.ch ∧ IsI u5 y.a2 y.us) := ⟨HI.out.1.below h5, HI.out.2.below h5⟩
                generalize uw.heap.size = kg at hy5 ⊢
                have tr0 : u5.cell? ⟨kg, 0, none⟩ = some (.int .i64 y.id) := blk_cell hy5 0
                have tr1 : u5.cell? ⟨kg, 1, none⟩ = some (.int .i64 y.c) := blk_cell hy5 1
                have tr2 : u5.cell? ⟨kg, 2, none⟩ = some (.int .i64 y.d) := blk_cell hy5 2
                have tr3 : u5.cell? ⟨kg, 3, none⟩ = some (.int .i64 y.t) := blk_cell hy5 3
                have tr4 : u5.cell? ⟨kg, 4, none⟩ = some (.int .i64 y.p) := blk_cell hy5 4
                have tr5 : u5.cell? ⟨kg, 5, none⟩ = some (.slice y.a1 y.ch.length y.c1) := blk_cell hy5 5
                have tr6 : u5.cell? ⟨kg, 6, none⟩ = some (.slice y.a2 y.us.length y.c2) := blk_cell hy5 6
                have tr7 : u5.cell? ⟨kg, 7, none⟩ = some (.int .i64 (endAt V V.length)) := blk_cell hy5 7
                have tr8 : u5.cell? ⟨kg, 8, none⟩ = some (.int .i64 0) := blk_cell hy5 8
                have thr := lt_of_block hy5
                have c2' : u5.cell? ⟨u1.heap.size, 2, none⟩ = some (.slice a' k cp') := by rw [blk_cell H5.out.box]; rfl
                have hg5 : u1.heap.size < u5.heap.size := lt_of_block H5.out.box
                clear h5 hy5 H4 HQ b2 CT1 HY HI
                go_upto_region 32 with (at_builtin; refine wp_append (m := 1) (l := [y]) rfl (.tmp 100) (.tmp 103) rfl rfl rfl (H5.out.below (by repeat (first | exact Below.refl _ _ | (with_reducible assumption) | refine bw_alloc ?_ _ | refine bw_drew ?_))).own (Nat.le_trans (lt_of_block H5.out.box) (((by repeat (first | exact Below.refl _ _ | (with_reducible assumption) | refine bw_alloc ?_ _ | refine bw_drew ?_)) : Below u5.heap.size u5 _).size)) (View.of_at (at_new _ _ _)) rfl HSM.out (fun z => by cases z) (k + 1) HNN.out ?_; intro a3 k3 w3 o3 g3 l3; obtain ⟨hn, z1, z2⟩ := (H5.out.below (by repeat (first | exact Below.refl _ _ | (with_reducible assumption) | refine bw_alloc ?_ _ | refine bw_drew ?_))).push g3 o3 (HY5.out.below (by repeat (first | exact Below.refl _ _ | (with_reducible assumption) | refine bw_alloc ?_ _ | refine bw_drew ?_))) ⟨HI5.out.1.below (by repeat (first | exact Below.refl _ _ | (with_reducible assumption) | refine bw_alloc ?_ _ | refine bw_drew ?_)), HI5.out.2.below (by repeat (first | exact Below.refl _ _ | (with_reducible assumption) | refine bw_alloc ?_ _ | refine bw_drew ?_))⟩ HFR.out; have HNW := Lib.hid hn; clear hn o3 g3 l3)
                refine gen_world (SysAt u1 u1.heap.size u1.heap.size S R (.slice a3 (k + 1) k3) (L ++ [y])) HNW.out ?_
                intro u7 h7
                have H7 := Lib.hid h7
                have HL1 : Hid ((L ++ [y]).length = k + 1) := by show _ = _; rw [List.length_append, HLL.out]; rfl
                have HL2 : Hid (∀ x ∈ L ++ [y], I64 x.p ∧ I64 x.id) := fun x hx => by
                  rcases List.mem_append.1 hx with q | q
                  · exact HLS.out x q
                  · simp at q; subst q; exact HIDP.out x HTK.out
                have HMAP : Hid ((L ++ [y]).map TV.tk = L.map TV.tk ++ [tk]) := by show _ = _; rw [List.map_append, List.map_cons, List.map_nil, HTK.out]
                have p0 : u7.cell? ⟨u1.heap.size, 0, none⟩ = some (.int .i64 S) := by rw [blk_cell h7.box]; rfl
                have p1 : u7.cell? ⟨u1.heap.size, 1, none⟩ = some (.int .i64 R) := by rw [blk_cell h7.box]; rfl
                have p2 : u7.cell? ⟨u1.heap.size, 2, none⟩ = some (.slice a3 (k + 1) k3) := by rw [blk_cell h7.box]; rfl
                have hg7 : u1.heap.size < u7.heap.size := lt_of_block h7.box
                have CK := Lib.hid (rcheck_any S R h7.tasks)
                rw [HE.out y HTK.out] at CK
                have zV7 : u7.cell? ⟨g0, j, none⟩ = some (.slice (some ⟨gv, ov, none⟩) V.length cV) := kept_cellB h7.low (block_of_cell HZ.out) HZ.out
                clear h7 HNW H5 HY5 HI5 c2' hg5
                by_cases hE0 : E = 0
                · subst hE0
                  have HT2 : Hid (tailOf S R [] rest = tailOf S R ((L ++ [y]).map TV.tk) (rest.drop (k + 1))) := by
                    show _ = _
                    rw [HTS2.out, if_pos rfl, HMAP.out]
                  have HJ2 : Hid (j + 1 = k + 1 + 1) := by show _ = _; rw [HJ.out]
                  have hj9 := HJ9.out
                  clear HTS2 HE HMAP zV7
                  go_wp2_with (go_at_call 16; (with_reducible refine CK.out.mono ?_); rintro e u8 ⟨rfl, b8⟩; have H8 := Lib.hid (H7.out.below b8); clear b8)
                  go_roundw
                  case rel => exact ⟨j + 1, k + 1, a3, k3, L ++ [y], Nat.succ_le_of_lt hlt, by go_num, HJ2, HL1, HL2, HT2, H8⟩
                  case measure => clear hj9; simp [intOf]; omega
                · have d1 : (E == 0) = false := by rw [beq_eq_false_iff_ne]; exact hE0
                  have d2 : (E != 0) = true := by rw [bne, d1]; rfl
                  have HPE : Hid (parseOf s = .error (xv.at_, E)) := parse_tail HG.out HC.out (by rw [HTS2.out, if_neg hE0])
                  clear hE0 HTS2 HE HMAP zV7
                  go_upto_region 33 with (go_at_call 16; (with_reducible refine CK.out.mono ?_); rintro e u8 ⟨rfl, b8⟩; have H8 := Lib.hid (H7.out.below b8); clear b8)
                  have q8 : u8.cell? ⟨gv, ov, none⟩ = some (.int .i64 xv.at_) := kept_cellB H8.out.low hgv HQ0.out
                  have z8 : u8.cell? ⟨g0, j, none⟩ = some (.slice (some ⟨gv, ov, none⟩) V.length cV) := kept_cellB H8.out.low (block_of_cell HZ.out) HZ.out
                  have hx9 := (kept_objB H8.out.low hw0 X1.out)
                  have r0 : u8.cell? ⟨w.heap.size, 0, none⟩ = some (.int .i64 0) := blk_cell hx9 0
                  have r1 : u8.cell? ⟨w.heap.size, 1, none⟩ = some (.int .i64 0) := blk_cell hx9 1
                  have r2 : u8.cell? ⟨w.heap.size, 2, none⟩ = some (.slice none 0 0) := blk_cell hx9 2
                  have r3 : u8.cell? ⟨w.heap.size, 3, none⟩ = some (.int .i64 0) := blk_cell hx9 3
                  have r4 : u8.cell? ⟨w.heap.size, 4, none⟩ = some (.int .i64 0) := blk_cell hx9 4
                  have f0 := blk_free hx9 0
                  have f1 := blk_free hx9 1
                  have f2 := blk_free hx9 2
                  have f3 := blk_free hx9 3
                  have f4 := blk_free hx9 4
                  have hr := lt_of_block hx9
                  have HB : Hid (outOf s = ⟨0, 0, [], xv.at_, E⟩) := out_bad HPE.out
                  have HLW : Hid (Below w.heap.size w u8) := (below_up B1.out H8.out.low)
                  clear hx9
                  go_wp2_with fail
                  exact bodyPost_ret (v := .agg #[.int .i64 0, .int .i64 0, .slice none 0 0, .int .i64 xv.at_, .int .i64 E]) (by simp [results, Tryd.results13, go_sem, hr, r0, r1, r2, r3, r4]) rfl (rparse_bad HB.out HLW.out _ _ _ _ _)
            · obtain rfl : n = k := by omega
              have HTE : Hid (tailOf S R [] rest = .ok (L.map TV.tk)) := by
                show _ = _
                rw [HT.out, List.drop_of_length_le (by rw [HN.out]; exact Nat.le_refl _), tailOf]
              have hjn : ¬ (j : Int) < ((n + 1 : Nat) : Int) := by have := HJ.out; omega
              by_cases hn00 : n = 0
              · subst hn00
                have hL0 : L = [] := List.length_eq_zero_iff.1 HLL.out
                subst hL0
                have HPE : Hid (parseOf s = .error (s.size, 1)) := parse_empty HG.out HC.out HTE.out
                clear HTE HT
                have hx9 := (kept_objB HQ.out.low hw0 X1.out)
                have r0 : wr.cell? ⟨w.heap.size, 0, none⟩ = some (.int .i64 0) := blk_cell hx9 0
                have r1 : wr.cell? ⟨w.heap.size, 1, none⟩ = some (.int .i64 0) := blk_cell hx9 1
                have r2 : wr.cell? ⟨w.heap.size, 2, none⟩ = some (.slice none 0 0) := blk_cell hx9 2
                have r3 : wr.cell? ⟨w.heap.size, 3, none⟩ = some (.int .i64 0) := blk_cell hx9 3
                have r4 : wr.cell? ⟨w.heap.size, 4, none⟩ = some (.int .i64 0) := blk_cell hx9 4
                have f0 := blk_free hx9 0
                have f1 := blk_free hx9 1
                have f2 := blk_free hx9 2
                have f3 := blk_free hx9 3
                have f4 := blk_free hx9 4
                have hr := lt_of_block hx9
                have HB : Hid (outOf s = ⟨0, 0, [], s.size, 1⟩) := out_bad HPE.out
                have HLW : Hid (Below w.heap.size w wr) := (below_up B1.out HQ.out.low)
                clear hx9
                go_wp2_with fail
                exact bodyPost_ret (v := .agg #[.int .i64 0, .int .i64 0, .slice none 0 0, .int .i64 s.size, .int .i64 1]) (by simp [results, Tryd.results13, go_sem, hr, r0, r1, r2, r3, r4]) rfl (rparse_bad HB.out HLW.out _ _ _ _ _)
              · have d7 : ((n : Int) == 0) = false := by rw [beq_eq_false_iff_ne]; omega
                have d8 : ¬ (n : Int) = 0 := by omega
                have hLn : L.map TV.tk ≠ [] := fun q => by
                  have := congrArg List.length q
                  rw [List.length_map, HLL.out] at this
                  exact hn00 this
                have HPE : Hid (parseOf s = .ok (S, R, L.map TV.tk)) := parse_some HG.out HC.out HTE.out hLn
                have hx9 := kept_objB HQ.out.low hw0 X1.out
                have r0 : wr.cell? ⟨w.heap.size, 0, none⟩ = some (.int .i64 0) := blk_cell hx9 0
                have r1 : wr.cell? ⟨w.heap.size, 1, none⟩ = some (.int .i64 0) := blk_cell hx9 1
                have r2 : wr.cell? ⟨w.heap.size, 2, none⟩ = some (.slice none 0 0) := blk_cell hx9 2
                have r3 : wr.cell? ⟨w.heap.size, 3, none⟩ = some (.int .i64 0) := blk_cell hx9 3
                have r4 : wr.cell? ⟨w.heap.size, 4, none⟩ = some (.int .i64 0) := blk_cell hx9 4
                have f0 := blk_free hx9 0
                have f1 := blk_free hx9 1
                have f2 := blk_free hx9 2
                have f3 := blk_free hx9 3
                have f4 := blk_free hx9 4
                have hr := lt_of_block hx9
                have p0 : wr.cell? ⟨u1.heap.size, 0, none⟩ = some (.int .i64 S) := by rw [blk_cell HQ.out.box]; rfl
                have p1 : wr.cell? ⟨u1.heap.size, 1, none⟩ = some (.int .i64 R) := by rw [blk_cell HQ.out.box]; rfl
                have HFIN : Hid (∀ y0 y1 y2 y3 y4 : Value, RParseIs s w (.returned (.agg #[.int .i64 S, .int .i64 R, .slice a' n cp', .int .i64 s.size, .int .i64 0])) (((((wr.setCell ⟨w.heap.size, 0, none⟩ y0).setCell ⟨w.heap.size, 1, none⟩ y1).setCell ⟨w.heap.size, 2, none⟩ y2).setCell ⟨w.heap.size, 3, none⟩ y3).setCell ⟨w.heap.size, 4, none⟩ y4)) := fun y0 y1 y2 y3 y4 => rparse_ok (out_ok HPE.out) (HQ.out.holds rfl HLS.out) hw0 (below_up B1.out HQ.out.low) y0 y1 y2 y3 y4
                clear HTE HT HQ hx9 hLn hn00 HPE
                go_wp2_with fail
                exact bodyPost_ret (v := .agg #[.int .i64 S, .int .i64 R, .slice a' n cp', .int .i64 s.size, .int .i64 0]) (by simp [results, Tryd.results13, go_sem, hr, r0, r1, r2, r3, r4]) rfl (HFIN.out _ _ _ _ _)
end Go.Proofs.YtlpffgmfgkleiaaDoor

/-
  The walk over the law of what is read: any bytes; a system's text of which one byte is turned, or left out, or that is cut.
-/
namespace Go.Proofs.YtlpffgmfgkleiaaDoor
open Go.RowKit Go.Maps

theorem conv_byte7 (v : Nat) (h : v < 256) (w : World) (b : Nat) (hc : w.cell? ⟨b, 0, none⟩ = some (.int .u8 (v : Int))) : Sem.run Tryd.prog (convert 34 9 (.slice (some ⟨b, 0, none⟩) 1 1)) w = .ok (.string ⟨#[UInt8.ofNat v]⟩) w := by
  refine run_convert_bytes_back w 34 9 5 ⟨b, 0, none⟩ 1 [UInt8.ofNat v] Tryd.underlying34 Tryd.underlying5 Tryd.underlying9 ?_
  intro j hj
  have : j = 0 := by simp at hj; omega
  subst this
  rw [addr_at, Nat.zero_add, hc]
  have e : (UInt8.ofNat v).toNat = v := by
    rw [UInt8.toNat_ofNat']; omega
  simp only [List.getElem_cons_zero, e]
theorem xor_u8 (x y : Int) : ∃ v : Nat, v < 256 ∧ bits .xor .u8 x y = (v : Int) := by
  obtain ⟨z, hz⟩ : ∃ z : Int, bits .xor .u8 x y = IntKind.u8.wrap z := ⟨_, rfl⟩
  rw [hz, IntKind.wrap_u8]
  exact ⟨(z % 256).toNat, by omega, by omega⟩
theorem run_ge : ∀ (l : List Tk) (h : ByteArray), h.size ≤ (printRun h l).size
  | [], _ => Nat.le_refl _
  | t :: l, h => by
    rw [printRun]
    refine Nat.le_trans ?_ (run_ge l _)
    rw [ByteArray.size_append, ByteArray.size_append]; omega
theorem print_pos {S R : Int} {L : List TV} (h : checkOf S R L = 0) : 0 < (printText S R (L.map TV.tk)).size := by
  rw [print_tk, if_pos h]
  refine Nat.lt_of_lt_of_le ?_ (run_ge _ _)
  unfold headText
  simp only [ByteArray.size_append]
  have : sCache.size = 6 := rfl
  omega
/-- A system by plain numbers, as its callers see it. -/
theorem MadeBack.open_ {w w' : World} {e : Ending} (h : MadeBack w e w') : ∃ (s r : Int) (a : Option Addr) (n c : Nat) (L : List TV), e = .returned (.agg #[.int .i64 s, .int .i64 r, .slice a n c]) ∧ Tasks w' a n c L ∧ checkOf s r L = 0 ∧ Below w.heap.size w w' := by
  obtain ⟨s, r, a, n, c, L, he, ho, hok, -, hm, hb⟩ := h
  obtain ⟨a2, cap2, e2, hv, hl2, hmx⟩ := ho.slice
  cases e2
  exact ⟨s, r, a, _, c, L, he, ⟨rfl, hv, hok, hl2, hmx⟩, check_made hm, hb⟩

set_option maxRecDepth 100000 in
set_option maxHeartbeats 8000000 in
theorem law_reads (w : World) (s : ByteArray) (S R : Int) (a : Option Addr) (n cap : Nat) (L : List NV) (hn : Nums w a n cap L) (how at_ by_ : Int) :
    Calls Tryd.prog 3 #[.string s, .agg #[.int .i64 S, .int .i64 R, .slice a n cap], .agg #[.int .i64 how, .int .i64 at_, .int .u8 by_]] w fun e w' => e = .returned (.bool true) ∧ Below w.heap.size w w' := by
  have hz := w_zeroSys
  have hz2 := zeroAll
  have AW : Hid (∀ v, Below w.heap.size w v → Calls Tryd.prog 8 #[] v fun e w' => e = .returned (.bool true) ∧ Below w.heap.size w w') := fun v hb => (awake_any v).mono fun _ _ ⟨h1, h2⟩ => ⟨h1, below_up hb h2⟩
  obtain ⟨s1, hs1⟩ : ∃ t, shortOf s 200 = t := ⟨_, rfl⟩
  have hs1s : s1.size ≤ 200 := by
    rw [← hs1]; unfold shortOf
    split
    · rw [ByteArray.size_extract]; omega
    · omega
  have SH : Hid (∀ v, Calls Tryd.prog 9 #[.string s, .int .i64 200] v fun e w' => e = .returned (.string s1) ∧ v = w') := fun v => by have := short_any s 200 (by omega) v; rwa [hs1] at this
  have MK : Hid (∀ v, Below w.heap.size w v → Calls Tryd.prog 11 #[.agg #[.int .i64 S, .int .i64 R, .slice a n cap]] v (MadeBack v)) := fun v hb => made5_any S R (hn.below hb)
  have hA0 : ∃ A, bits .and .i64 how 3 = A := ⟨_, rfl⟩
  obtain ⟨A, hA⟩ := hA0
  clear hs1 hn
  go_enter Tryd.func3, Tryd.ntmps3
  go_upto_region 1 with fail
  refine gen_world (fun v => Below w.heap.size w v ∧ Box v w.heap.size 24 #[.int .i64 S, .int .i64 R, .slice a n cap] ∧ Box v (w.heap.size + 1) 26 #[.int .i64 how, .int .i64 at_, .int .u8 by_]) ⟨(by repeat (first | exact Below.refl _ _ | (with_reducible assumption) | refine bw_alloc ?_ _ | refine bw_drew ?_)), kept_obj (b := w.heap.size) (bw_alloc (Below.refl _ _) _) (heap_alloc_new w (.cells #[.int .i64 S, .int .i64 R, .slice a n cap] 24)), by have := heap_alloc_new (w.alloc (.cells #[.int .i64 S, .int .i64 R, .slice a n cap] 24)) (.cells #[.int .i64 how, .int .i64 at_, .int .u8 by_] 26); rwa [World.size_alloc] at this⟩ ?_
  intro u0 ⟨hb0, x0, y0⟩
  have B0 := Lib.hid hb0
  have X0 := Lib.hid x0
  have Y0 := Lib.hid y0
  clear hb0 x0 y0
  go_upto_region 3 with (first
    | (go_at_call 8; (with_reducible refine ((awake_any _).mono ?_)); rintro e u1 ⟨rfl, b1⟩; have X1 := Lib.hid (kept_obj b1 X0.out); have Y1 := Lib.hid (kept_obj b1 Y0.out); have B1 := Lib.hid (below_up B0.out b1); clear b1)
    | (go_at_call 9; (with_reducible refine (SH.out _).mono ?_); rintro e u2 ⟨rfl, rfl⟩))
  clear AW SH B0 X0 Y0
  have q0 : u1.cell? ⟨w.heap.size + 1, 0, none⟩ = some (.int .i64 how) := blk_cell Y1.out 0
  have q1 : u1.cell? ⟨w.heap.size + 1, 1, none⟩ = some (.int .i64 at_) := blk_cell Y1.out 1
  have q2 : u1.cell? ⟨w.heap.size + 1, 2, none⟩ = some (.int .u8 by_) := blk_cell Y1.out 2
  have n0 : u1.cell? ⟨w.heap.size, 0, none⟩ = some (.int .i64 S) := blk_cell X1.out 0
  have n1 : u1.cell? ⟨w.heap.size, 1, none⟩ = some (.int .i64 R) := blk_cell X1.out 1
  have n2 : u1.cell? ⟨w.heap.size, 2, none⟩ = some (.slice a n cap) := blk_cell X1.out 2
  go_upto_if 21 with fail
  go_cut [0, 8, 9] from 18 to 72 (fun u _ _ wx => ∃ x : ByteArray, u = .string x ∧ Hid (x.size ≤ 400000) ∧ Hid (Below w.heap.size w wx))
  case first =>
    by_cases hA0 : A = 0
    · have d1 : (A == 0) = true := by rw [beq_iff_eq]; exact hA0
      have d2 : (A != 0) = false := by rw [bne, d1]; rfl
      go_wp2_with fail
      go_meet
      exact ⟨s1, rfl, (by show _ ≤ _; omega), B1⟩
    · have d1 : (A == 0) = false := by rw [beq_eq_false_iff_ne]; exact hA0
      have d2 : (A != 0) = true := by rw [bne, d1]; rfl
      go_upto_region 5 with (first
        | (go_at_call 11; (with_reducible refine (MK.out _ B1.out).mono ?_); rintro y u2 hm; obtain ⟨s', r', a', n', c', M, rfl, hT, hck, b2⟩ := hm.open_; have HT := Lib.hid hT; have HCK := Lib.hid hck; have B2 := Lib.hid (below_up B1.out b2); have Y2 := Lib.hid (kept_obj b2 Y1.out); clear hT hck b2 hm)
        | (go_at_call 10; (with_reducible refine ((rprint_any _ _ HT.out).mono ?_)); rintro e u3 ⟨rfl, b3⟩; have B3 := Lib.hid (below_up B2.out b3); have Y3 := Lib.hid (kept_obj b3 Y2.out); clear b3))
      clear q0 q1 q2 n0 n1 n2 B1 B2 X1 Y1 Y2 MK
      have hTp := print_pos HCK.out
      have hTs := print_size s' r' M
      generalize printText s' r' (M.map TV.tk) = T at *
      obtain ⟨N, hN⟩ : ∃ N, T.size = N := ⟨_, rfl⟩
      rw [hN] at hTp hTs
      have q0 : u3.cell? ⟨w.heap.size + 1, 0, none⟩ = some (.int .i64 how) := blk_cell Y3.out 0
      have q1 : u3.cell? ⟨w.heap.size + 1, 1, none⟩ = some (.int .i64 at_) := blk_cell Y3.out 1
      have q2 : u3.cell? ⟨w.heap.size + 1, 2, none⟩ = some (.int .u8 by_) := blk_cell Y3.out 2
      obtain ⟨t, k, e1, f2, f3, f4, f5⟩ : ∃ (t : Int) (k : Nat), at_.tmod N = t ∧ -(N : Int) < t ∧ t < N ∧ (t + N) % N = (k : Int) ∧ k < N := by
        have a := Int.tmod_lt_of_pos at_ (show (0 : Int) < N by omega)
        have b := Int.lt_tmod_of_pos at_ (show (0 : Int) < N by omega)
        have c := Int.emod_nonneg (at_.tmod N + N) (show (N : Int) ≠ 0 by omega)
        have d := Int.emod_lt_of_pos (at_.tmod N + N) (show (0 : Int) < N by omega)
        exact ⟨at_.tmod N, ((at_.tmod N + N) % N).toNat, rfl, b, a, by omega, by omega⟩
      have w1 : IntKind.i64.wrap (t + (N : Int)) = t + N := IntWalk.i64_in _ (by omega)
      have w2 : (t + (N : Int)).tmod N = (k : Int) := by rw [Int.tmod_eq_emod_of_nonneg (by omega)]; exact f4
      have z1 : ((N : Int) == 0) = false := by rw [beq_eq_false_iff_ne]; omega
      have z2 : ¬ (N : Int) = 0 := by omega
      have z3 : ¬ N = 0 := by omega
      have z4 : 0 ≤ t + (N : Int) := by omega
      have k0 : (0 : Int) ≤ (k : Int) := by omega
      have k1 : (k : Int) < (N : Int) := by omega
      have k2 : (k : Int) ≤ (N : Int) := by omega
      have k3 : IntKind.i64.wrap ((k : Int) + 1) = (k : Int) + 1 := IntWalk.i64_in _ (by omega)
      have k4 : (0 : Int) ≤ (k : Int) + 1 := by omega
      have k5 : (k : Int) + 1 ≤ (N : Int) := by omega
      have z9 := @IntKind.wrap_i64
      go_upto_if 42 with fail
      clear e1 w1 w2 z1 z2 z3 z4 f2 f3 f4 z9 q1
      by_cases hA1 : A = 1
      · subst hA1
        have hkT : k < T.size := by omega
        obtain ⟨v, hv, hxor⟩ := xor_u8 ((T[k]'hkT).toNat : Int) by_
        obtain ⟨P, hP⟩ : ∃ P, T.extract 0 k = P := ⟨_, rfl⟩
        obtain ⟨Q, hQ⟩ : ∃ Q, T.extract (k + 1) N = Q := ⟨_, rfl⟩
        have hPs : P.size ≤ 300000 := by rw [← hP, ByteArray.size_extract]; omega
        have hQs : Q.size ≤ 300000 := by rw [← hQ, ByteArray.size_extract]; omega
        obtain ⟨r1, hr1⟩ : ∃ r : ByteArray, P ++ ⟨#[UInt8.ofNat v]⟩ = r := ⟨_, rfl⟩
        obtain ⟨r2, hr2⟩ : ∃ r : ByteArray, r1 ++ Q = r := ⟨_, rfl⟩
        have hos : (⟨#[UInt8.ofNat v]⟩ : ByteArray).size = 1 := rfl
        have hs1' : r1.size = P.size + 1 := by rw [← hr1, ByteArray.size_append, hos]
        have hs2' : r2.size = r1.size + Q.size := by rw [← hr2, ByteArray.size_append]
        have a1 := add_str P ⟨#[UInt8.ofNat v]⟩ r1 hr1 (by rw [hos]; omega)
        have a2 := add_str r1 Q r2 hr2 (by omega)
        have hcv := conv_byte7 v hv
        have HR2 : Hid (r2.size ≤ 400000) := by
          show _ ≤ _
          have : P.size + Q.size ≤ N := by rw [← hP, ← hQ, ByteArray.size_extract, ByteArray.size_extract]; omega
          omega
        clear hPs hQs hr1 hr2 hos hs1' hs2' hv
        have hNi : (T.size : Int) = (N : Int) := by rw [hN]
        go_cut [0] from 18 to 60 (fun u wx => u = .string r2 ∧ Hid (Below u3.heap.size u3 wx))
        case first =>
          go_wp2_with fail
          go_region_law (fail)
          all_goals
            go_step
            go_simp
            go_step
            go_meet
            exact ⟨rfl, Lib.hid (by repeat (first | exact Below.refl _ _ | (with_reducible assumption) | refine bw_alloc ?_ _ | refine bw_drew ?_))⟩
        case rest =>
          obtain ⟨rfl, HB8⟩ := hcut
          have q8 := kept_cell HB8.out q0
          go_wp2_with fail
          go_meet
          exact ⟨r2, rfl, HR2, Lib.hid (below_up B3.out HB8.out)⟩
      by_cases hA2 : A = 2
      · subst hA2
        obtain ⟨P, hP⟩ : ∃ P, T.extract 0 k = P := ⟨_, rfl⟩
        obtain ⟨Q, hQ⟩ : ∃ Q, T.extract (k + 1) N = Q := ⟨_, rfl⟩
        have hPs : P.size ≤ 300000 := by rw [← hP, ByteArray.size_extract]; omega
        have hQs : Q.size ≤ 300000 := by rw [← hQ, ByteArray.size_extract]; omega
        obtain ⟨r2, hr2⟩ : ∃ r : ByteArray, P ++ Q = r := ⟨_, rfl⟩
        have a2 := add_str P Q r2 hr2 (by omega)
        have HR2 : Hid (r2.size ≤ 400000) := by
          show _ ≤ _
          have : P.size + Q.size ≤ N := by rw [← hP, ← hQ, ByteArray.size_extract, ByteArray.size_extract]; omega
          rw [← hr2, ByteArray.size_append]; omega
        clear hPs hQs hr2
        go_wp2_with fail
        go_quiet (fail)
        have hb6 : Below u3.heap.size u3 (u3.drewN nq) := below_same (Below.refl _ _) rfl rfl rfl rfl
        go_wp2_with fail
        go_meet
        exact ⟨r2, rfl, HR2, Lib.hid (below_up B3.out hb6)⟩
      · have d3 : (A == 1) = false := by rw [beq_eq_false_iff_ne]; exact hA1
        have d4 : (A == 2) = false := by rw [beq_eq_false_iff_ne]; exact hA2
        go_wp2_with fail
        go_meet
        exact ⟨_, rfl, (by show _ ≤ _; rw [ByteArray.size_extract]; omega), B3⟩
  case rest =>
    obtain ⟨x, rfl, hx, HB⟩ := hcut
    have C1 : Hid (∀ v, Calls Tryd.prog 12 #[.string x] v (TryIs x v)) := fun v => parse_any x (by have := hx.out; omega) v
    have C2 : Hid (∀ v, Calls Tryd.prog 13 #[.string x] v (RParseIs x v)) := fun v => rparse_any x (by have := hx.out; omega) v
    unfold TryIs at C1
    unfold RParseIs at C2
    generalize outOf x = O at C1 C2
    obtain ⟨S', R', l, p, e0⟩ := O
    simp only [] at C1 C2
    clear X1 Y1 B1 q0 q1 q2 n0 n1 n2 MK hx hA
    go_upto_region 12 with (go_at_call 12; (with_reducible refine (C1.out _).mono ?_); rintro y u2 ⟨a2, n2, k2, rfl, h2, b2⟩; have H2 := Lib.hid h2; have B2 := Lib.hid (below_up HB.out b2); clear h2 b2)
    have hbox := heap_alloc_new u2 (.cells #[.int .i64 S', .int .i64 R', .slice a2 n2 k2] SysT)
    have hsz := lt_of_block hbox
    obtain ⟨L1, hL1, hT1, -⟩ := H2.out.open_
    refine gen_world (fun v => Below w.heap.size w v ∧ Box v u2.heap.size SysT #[.int .i64 S', .int .i64 R', .slice a2 n2 k2] ∧ Tasks v a2 n2 k2 L1) ⟨bw_alloc B2.out _, hbox, hT1.below (bw_alloc (Below.refl _ _) _)⟩ ?_
    clear hbox hsz hT1
    intro u3 ⟨hb3, hx3, ht3⟩
    have B3 := Lib.hid hb3
    have X3 := Lib.hid hx3
    have T3 := Lib.hid ht3
    clear hb3 hx3 ht3 H2 B2 HB
    go_upto_region 13 with (go_at_call 13; (with_reducible refine (C2.out _).mono ?_); rintro y u4 ⟨a4, n4, k4, rfl, h4, b4⟩; have H4 := Lib.hid h4; have B4 := Lib.hid (below_up B3.out b4); have X4 := Lib.hid (kept_obj b4 X3.out); have T4 := Lib.hid (T3.out.below b4); clear h4 b4)
    obtain ⟨L2, hL2, hT2, -⟩ := H4.out.open_
    have hbb : Below u4.heap.size u4 (u4.alloc (.cells #[.int .i64 S', .int .i64 R', .slice a4 n4 k4, .int .i64 p, .int .i64 e0] AllT)) := bw_alloc (Below.refl _ _) _
    refine gen_world (fun v => Below w.heap.size w v ∧ Box v u2.heap.size SysT #[.int .i64 S', .int .i64 R', .slice a2 n2 k2] ∧ Tasks v a2 n2 k2 L1 ∧ Box v u4.heap.size AllT #[.int .i64 S', .int .i64 R', .slice a4 n4 k4, .int .i64 p, .int .i64 e0] ∧ Tasks v a4 n4 k4 L2) ⟨below_up B4.out hbb, kept_obj hbb X4.out, T4.out.below hbb, heap_alloc_new _ _, hT2.below hbb⟩ ?_
    clear hbb hT2
    intro u5 ⟨hb5, hx5, ht5, hy5, ht6⟩
    have B5 := Lib.hid hb5
    have SS : Hid (Calls Tryd.prog 14 #[.agg #[.int .i64 S', .int .i64 R', .slice a2 n2 k2], .agg #[.int .i64 S', .int .i64 R', .slice a4 n4 k4]] u5 fun e w' => e = .returned (.bool true) ∧ Below u5.heap.size u5 w') := by
      have := rsame_sys S' R' ht5 ht6
      rwa [decide_eq_true (hL1.trans hL2.symm)] at this
    have p0 : u5.cell? ⟨u2.heap.size, 0, none⟩ = some (.int .i64 S') := blk_cell hx5 0
    have p1 : u5.cell? ⟨u2.heap.size, 1, none⟩ = some (.int .i64 R') := blk_cell hx5 1
    have p2 : u5.cell? ⟨u2.heap.size, 2, none⟩ = some (.slice a2 n2 k2) := blk_cell hx5 2
    have r0 : u5.cell? ⟨u4.heap.size, 0, none⟩ = some (.int .i64 S') := blk_cell hy5 0
    have r1 : u5.cell? ⟨u4.heap.size, 1, none⟩ = some (.int .i64 R') := blk_cell hy5 1
    have r2 : u5.cell? ⟨u4.heap.size, 2, none⟩ = some (.slice a4 n4 k4) := blk_cell hy5 2
    have r3 : u5.cell? ⟨u4.heap.size, 3, none⟩ = some (.int .i64 p) := blk_cell hy5 3
    have r4 : u5.cell? ⟨u4.heap.size, 4, none⟩ = some (.int .i64 e0) := blk_cell hy5 4
    clear hb5 hx5 ht5 hy5 ht6 B3 B4 X3 X4 T3 T4 H4 hL1 hL2
    go_wp2_with (go_at_call 14; (with_reducible refine (SS.out).mono ?_); rintro e u6 ⟨rfl, b6⟩; have B6 := Lib.hid (below_up B5.out b6); have r3' := kept_cell b6 r3; have r4' := kept_cell b6 r4; clear b6)
    go_ret
    exact ⟨rfl, B6.out⟩
end Go.Proofs.YtlpffgmfgkleiaaDoor

/-
  The walk over the law of what was printed: it is read, the same; with notes, blanks and empty lines between, too.
-/
namespace Go.Proofs.YtlpffgmfgkleiaaDoor
open Go.RowKit Go.Maps

theorem small_ints {s r : Int} {L : List TV} (h : checkOf s r L = 0) : ∀ x ∈ L, I64 x.p ∧ I64 x.id := fun x hx => by
  have q := check_pass h
  have z := small_of (q.all x hx) q.s.2
  have z1 := z.id
  have z2 := z.p
  unfold I64
  omega
/-- A system by plain numbers, and its text. -/
theorem MadeBack.text {w w' : World} {e : Ending} (h : MadeBack w e w') : ∃ (s r : Int) (a : Option Addr) (n c : Nat) (L : List TV) (T : ByteArray), e = .returned (.agg #[.int .i64 s, .int .i64 r, .slice a n c]) ∧ Tasks w' a n c L ∧ printText s r (L.map TV.tk) = T ∧ 0 < T.size ∧ T.size ≤ 30000 ∧ parseOf T = .ok (s.toNat, r.toNat, L.map TV.tk) ∧ (∀ x ∈ L, I64 x.p ∧ I64 x.id) ∧ checkOf s r L = 0 ∧ Below w.heap.size w w' := by
  obtain ⟨s, r, a, n, c, L, he, ho, hok, -, hm, hb⟩ := h
  obtain ⟨a2, cap2, e2, hv, hl2, hmx⟩ := ho.slice
  cases e2
  have hck := check_made hm
  have hct : checkT s r (L.map TV.tk) = 0 := by rw [← check_tk]; exact hck
  refine ⟨s, r, a, _, c, L, _, he, ⟨rfl, hv, hok, hl2, hmx⟩, rfl, print_pos hck, ?_, parse_print hct, small_ints hck, hck, hb⟩
  rw [print_tk, if_pos hck]
  have h1 := run_size (headText s r) L L.length
  rw [List.take_of_length_le (by rw [List.length_map]; omega)] at h1
  have h2 : (headText s r).size ≤ 60 := by
    unfold headText
    have q := check_pass hck
    have z1 := digOf_size s (by have := q.s; unfold I64; omega)
    have z2 := digOf_size r (by have := q.r; unfold I64; omega)
    simp only [ByteArray.size_append]
    have k1 : sCache.size = 6 := rfl
    have k2 : sSp.size = 1 := rfl
    have k3 : sNl.size = 1 := rfl
    omega
  have := hm.six
  omega
theorem alt_size (t : ByteArray) : ∀ i, (altTo t i).size ≤ 13 * i
  | 0 => Nat.le_refl _
  | i + 1 => by
    have ih := alt_size t i
    have h1 : (repOf (byteAt t i)).size ≤ 10 := by
      unfold repOf
      rw [ByteArray.size_append]
      have k1 : sNote.size = 9 := rfl
      have k2 : sTab.size = 1 := rfl
      have k3 : noB.size = 0 := rfl
      split <;> split <;> omega
    have h2 : (repEnd (byteAt t i)).size ≤ 2 := by
      unfold repEnd
      have k1 : sBlank.size = 2 := rfl
      have k3 : noB.size = 0 := rfl
      split <;> omega
    rw [altTo, ByteArray.size_append, ByteArray.size_append, ByteArray.size_append]
    show _ + _ + 1 + _ ≤ _
    omega
theorem alt_nl {t : ByteArray} {i : Nat} (h : byteAt t i = 10) : altTo t (i + 1) = altTo t i ++ sNote ++ ⟨#[UInt8.ofNat 10]⟩ ++ sBlank := by
  rw [altTo, h, show repOf 10 = sNote from ba_add_nil _, show repEnd 10 = sBlank from rfl]
theorem alt_sp {t : ByteArray} {i : Nat} (h : byteAt t i = 32) : altTo t (i + 1) = altTo t i ++ sTab ++ ⟨#[UInt8.ofNat 32]⟩ := by
  rw [altTo, h, show repOf 32 = sTab from ba_nil_add _, show repEnd 32 = ByteArray.empty from rfl, ba_add_nil]
theorem alt_in {t : ByteArray} {i : Nat} (h : byteAt t i ≠ 10) (h2 : byteAt t i ≠ 32) : altTo t (i + 1) = altTo t i ++ ⟨#[UInt8.ofNat (byteAt t i)]⟩ := by
  rw [altTo, show repOf (byteAt t i) = ByteArray.empty by unfold repOf; rw [if_neg h, if_neg h2]; exact ba_nil_add _, show repEnd (byteAt t i) = ByteArray.empty by unfold repEnd; rw [if_neg h]; rfl, ba_add_nil, ba_add_nil]

set_option maxRecDepth 100000 in
set_option maxHeartbeats 8000000 in
theorem law_back (w : World) (hT : PT w) (S R : Int) (a : Option Addr) (n cap : Nat) (L : List NV) (hn : Nums w a n cap L) :
    Calls Tryd.prog 4 #[.agg #[.int .i64 S, .int .i64 R, .slice a n cap]] w fun e w' => e = .returned (.bool true) ∧ Below w.heap.size w w' := by
  have HPT : Hid (PT w) := hT
  have MK : Hid (∀ v, Below w.heap.size w v → Calls Tryd.prog 11 #[.agg #[.int .i64 S, .int .i64 R, .slice a n cap]] v (MadeBack v)) := fun v hb => made5_any S R (hn.below hb)
  clear hn hT
  go_enter Tryd.func4, Tryd.ntmps4
  go_upto_region 1 with fail
  refine gen_world (fun v => Below w.heap.size w v ∧ Box v w.heap.size 24 #[.int .i64 S, .int .i64 R, .slice a n cap]) ⟨bw_alloc (Below.refl _ _) _, heap_alloc_new w _⟩ ?_
  intro u0 ⟨hb0, x0⟩
  have B0 := Lib.hid hb0
  have X0 := Lib.hid x0
  clear hb0 x0
  go_upto_region 2 with (go_at_call 8; (with_reducible refine ((awake_any _).mono ?_)); rintro e u1 ⟨rfl, b1⟩; have X1 := Lib.hid (kept_obj b1 X0.out); have B1 := Lib.hid (below_up B0.out b1); clear b1)
  have n0 : u1.cell? ⟨w.heap.size, 0, none⟩ = some (.int .i64 S) := blk_cell X1.out 0
  have n1 : u1.cell? ⟨w.heap.size, 1, none⟩ = some (.int .i64 R) := blk_cell X1.out 1
  have n2 : u1.cell? ⟨w.heap.size, 2, none⟩ = some (.slice a n cap) := blk_cell X1.out 2
  clear X0 B0 X1
  go_upto_region 3 with (go_at_call 11; (with_reducible refine (MK.out _ B1.out).mono ?_); rintro y u2 hm; obtain ⟨s', r', a2, n2', c2, M, T, rfl, hT2, hPT2, hp, hz, hpa, hi, hck, b2⟩ := hm.text; have B2 := Lib.hid (below_up B1.out b2); have T2 := Lib.hid hT2; have HI := Lib.hid hi; have HPX := Lib.hid hPT2; have HPA := Lib.hid hpa; have HCK := Lib.hid hck; clear hT2 hPT2 hpa hi hck b2 hm)
  clear MK B1 n0 n1 n2
  have X2 := Lib.hid (sysIn_new (w := w) (S := s') (R := r') B2.out T2.out)
  refine gen_world (SysIn w u2.heap.size s' r' a2 n2' c2 M) X2.out ?_
  intro u3 hx3
  have X3 := Lib.hid hx3
  have q0 := hx3.c0
  have q1 := hx3.c1
  have q2 := hx3.c2
  have CP : Hid (Calls Tryd.prog 15 #[.agg #[.int .i64 s', .int .i64 r', .slice a2 n2' c2]] u3 fun e w' => e = .returned (.string T) ∧ Below u3.heap.size u3 w') := by
    have := print_any s' r' hx3.tasks HI.out (HPT.out.below hx3.low)
    rwa [HPX.out] at this
  obtain ⟨N, hN⟩ : ∃ N, T.size = N := ⟨_, rfl⟩
  have e1 : ((s'.toNat : Nat) : Int) = s' := Int.toNat_of_nonneg (check_pass HCK.out).s.1
  have e2 : ((r'.toNat : Nat) : Int) = r' := Int.toNat_of_nonneg (check_pass HCK.out).r.1
  have C1 : Hid (∀ v, Calls Tryd.prog 12 #[.string T] v (GoodIs s' r' (M.map TV.tk) N v)) := fun v => parse_good (by rw [out_right HPA.out, hN, e1, e2]) (by omega) v
  have hUz : (altTo T N).size ≤ 400000 := by have := alt_size T N; omega
  obtain ⟨U, hU⟩ : ∃ U, altTo T N = U := ⟨_, rfl⟩
  rw [hU] at hUz
  obtain ⟨K, hK⟩ : ∃ K, U.size = K := ⟨_, rfl⟩
  have C2 : Hid (∀ v, Calls Tryd.prog 12 #[.string U] v (GoodIs s' r' (M.map TV.tk) K v)) := fun v => parse_good (by
    have := parse_same (t := U) (by rw [← hU, ← hN]; exact (alt_lines T).symm) HPA.out
    rw [out_right this, hK, e1, e2]) (by omega) v
  clear X2 hx3 e1 e2 T2 HI HPX HPA HCK B2
  go_upto_region 5 with (first
    | (go_at_call 15; (with_reducible refine (CP.out).mono ?_); rintro e u4 ⟨rfl, b4⟩; have X4 := Lib.hid (X3.out.below b4); clear b4)
    | (go_at_call 12; (with_reducible refine (C1.out _).mono ?_); rintro y u5 ⟨a5, n5, c5, L5, rfl, t5, hM, -, b5⟩; have X5 := Lib.hid (X4.out.below b5); have T5 := Lib.hid t5; have HM := Lib.hid hM; clear b5 t5 hM))
  clear CP C1 X3 X4 q0 q1 q2
  have X6 := Lib.hid (X5.out.below (bw_alloc (Below.refl _ _) (.cells #[.int .i64 s', .int .i64 r', .slice a5 n5 c5] SysT)))
  have Y6 := Lib.hid (sysIn_new (w := w) (S := s') (R := r') X5.out.low T5.out)
  refine gen_world (fun v => SysIn w u2.heap.size s' r' a2 n2' c2 M v ∧ SysIn w u5.heap.size s' r' a5 n5 c5 L5 v) ⟨X6.out, Y6.out⟩ ?_
  intro u6 ⟨x6, y6⟩
  have X7 := Lib.hid x6
  have SS : Hid (Calls Tryd.prog 14 #[.agg #[.int .i64 s', .int .i64 r', .slice a5 n5 c5], .agg #[.int .i64 s', .int .i64 r', .slice a2 n2' c2]] u6 fun e w' => e = .returned (.bool true) ∧ Below u6.heap.size u6 w') := by
    have := rsame_sys s' r' y6.tasks x6.tasks
    rwa [decide_eq_true (HM.out)] at this
  have q0 := x6.c0
  have q1 := x6.c1
  have q2 := x6.c2
  have r0 := y6.c0
  have r1 := y6.c1
  have r2 := y6.c2
  clear X5 X6 Y6 T5 HM x6 y6
  go_upto_region 6 with (go_at_call 14; (with_reducible refine (SS.out).mono ?_); rintro e u7 ⟨rfl, b7⟩; have X8 := Lib.hid (X7.out.below b7); clear b7)
  clear q0 q1 q2 r0 r1 r2 SS X7
  go_wp2_with fail
  go_loopw [10, 11] (fun u i wr => ∃ (k : Nat), k ≤ N ∧ i = .int .i64 k ∧ u = .string (altTo T k) ∧ Hid (Below u7.heap.size u7 wr)) (fun _ i _ => (N - intOf i).toNat)
  case atStart => exact ⟨0, by omega, rfl, rfl, Lib.hid (Below.refl _ _)⟩
  case round =>
    obtain ⟨k, hk, rfl, rfl, HB⟩ := hrel
    by_cases hlt : k < N
    · have hkT : k < T.size := by omega
      have hk1 : (k : Int) < (T.size : Int) := by omega
      have hk0 : (0 : Int) ≤ (k : Int) := by omega
      have hbt := (byteAt_in T hkT).2
      have hxs := alt_size T k
      obtain ⟨X, hX⟩ : ∃ X, altTo T k = X := ⟨_, rfl⟩
      rw [hX] at hxs
      have hcv := conv_byte7 (T[k]'hkT).toNat (UInt8.toNat_lt _)
      have hue : UInt8.ofNat (T[k]'hkT).toNat = T[k]'hkT := by simp
      rw [hue] at hcv
      by_cases c1 : byteAt T k = 10
      · obtain ⟨m1, hm1⟩ : ∃ m, X ++ sNote = m := ⟨_, rfl⟩
        obtain ⟨m2, hm2⟩ : ∃ m, m1 ++ ⟨#[T[k]'hkT]⟩ = m := ⟨_, rfl⟩
        obtain ⟨m3, hm3⟩ : ∃ m, m2 ++ sBlank = m := ⟨_, rfl⟩
        have HN : Hid (altTo T (k + 1) = m3) := by show _ = _; rw [alt_nl c1, hX, hm1, ← c1, hbt, hue, hm2, hm3]
        have k1 : sNote.size = 9 := rfl
        have k2 : sBlank.size = 2 := rfl
        have k3 : (⟨#[T[k]'hkT]⟩ : ByteArray).size = 1 := rfl
        have z1 : m1.size = X.size + 9 := by rw [← hm1, ByteArray.size_append, k1]
        have z2 : m2.size = m1.size + 1 := by rw [← hm2, ByteArray.size_append, k3]
        have a1 := add_str X sNote m1 hm1 (by omega)
        have a2 := add_str m1 ⟨#[T[k]'hkT]⟩ m2 hm2 (by omega)
        have a3 := add_str m2 sBlank m3 hm3 (by omega)
        have d1 : (((T[k]'hkT).toNat : Int) == 10) = true := by rw [beq_iff_eq]; omega
        have d2 : (((T[k]'hkT).toNat : Int) == 32) = false := by rw [beq_eq_false_iff_ne]; omega
        rw [hX]
        clear hX hm1 hm2 hm3 k1 k2 k3 z1 z2 hxs c1 hbt hue
        go_wp2_with fail
        go_roundw
        case rel => exact ⟨k + 1, by omega, by go_num, by rw [HN.out], Lib.hid (below_up HB.out (by repeat (first | exact Below.refl _ _ | (with_reducible assumption) | refine bw_alloc ?_ _ | refine bw_drew ?_)))⟩
        case measure => simp [intOf]; omega
      by_cases c2 : byteAt T k = 32
      · obtain ⟨m1, hm1⟩ : ∃ m, X ++ sTab = m := ⟨_, rfl⟩
        obtain ⟨m2, hm2⟩ : ∃ m, m1 ++ ⟨#[T[k]'hkT]⟩ = m := ⟨_, rfl⟩
        have HN : Hid (altTo T (k + 1) = m2) := by show _ = _; rw [alt_sp c2, hX, hm1, ← c2, hbt, hue, hm2]
        have k1 : sTab.size = 1 := rfl
        have z1 : m1.size = X.size + 1 := by rw [← hm1, ByteArray.size_append, k1]
        have k3 : (⟨#[T[k]'hkT]⟩ : ByteArray).size = 1 := rfl
        have a1 := add_str X sTab m1 hm1 (by omega)
        have a2 := add_str m1 ⟨#[T[k]'hkT]⟩ m2 hm2 (by omega)
        have d1 : (((T[k]'hkT).toNat : Int) == 10) = false := by rw [beq_eq_false_iff_ne]; omega
        have d2 : (((T[k]'hkT).toNat : Int) == 32) = true := by rw [beq_iff_eq]; omega
        rw [hX]
        clear hX hm1 hm2 k1 k3 z1 hxs c1 c2 hbt hue
        go_wp2_with fail
        go_roundw
        case rel => exact ⟨k + 1, by omega, by go_num, by rw [HN.out], Lib.hid (below_up HB.out (by repeat (first | exact Below.refl _ _ | (with_reducible assumption) | refine bw_alloc ?_ _ | refine bw_drew ?_)))⟩
        case measure => simp [intOf]; omega
      · obtain ⟨m2, hm2⟩ : ∃ m, X ++ ⟨#[T[k]'hkT]⟩ = m := ⟨_, rfl⟩
        have HN : Hid (altTo T (k + 1) = m2) := by show _ = _; rw [alt_in c1 c2, hX, hbt, hue, hm2]
        have k3 : (⟨#[T[k]'hkT]⟩ : ByteArray).size = 1 := rfl
        have a2 := add_str X ⟨#[T[k]'hkT]⟩ m2 hm2 (by omega)
        have d1 : (((T[k]'hkT).toNat : Int) == 10) = false := by rw [beq_eq_false_iff_ne]; omega
        have d2 : (((T[k]'hkT).toNat : Int) == 32) = false := by rw [beq_eq_false_iff_ne]; omega
        rw [hX]
        clear hX hm2 k3 hxs c1 c2 hbt hue
        go_wp2_with fail
        go_roundw
        case rel => exact ⟨k + 1, by omega, by go_num, by rw [HN.out], Lib.hid (below_up HB.out (by repeat (first | exact Below.refl _ _ | (with_reducible assumption) | refine bw_alloc ?_ _ | refine bw_drew ?_)))⟩
        case measure => simp [intOf]; omega
    · obtain rfl : N = k := by omega
      rw [hU]
      have X9 := Lib.hid (X8.out.below HB.out)
      clear X8 HB hU
      have q0 := X9.out.c0
      have q1 := X9.out.c1
      have q2 := X9.out.c2
      go_upto_region 18 with (go_at_call 12; (with_reducible refine (C2.out _).mono ?_); rintro y u10 ⟨a10, n10, c10, L10, rfl, t10, hM, -, b10⟩; have X10 := Lib.hid (X9.out.below b10); have T10 := Lib.hid t10; have HM := Lib.hid hM; clear b10 t10 hM)
      clear X9 q0 q1 q2 C2
      have X11 := Lib.hid (X10.out.below (bw_alloc (Below.refl _ _) (.cells #[.int .i64 s', .int .i64 r', .slice a10 n10 c10] SysT)))
      have Y11 := Lib.hid (sysIn_new (w := w) (S := s') (R := r') X10.out.low T10.out)
      refine gen_world (fun v => SysIn w u2.heap.size s' r' a2 n2' c2 M v ∧ SysIn w u10.heap.size s' r' a10 n10 c10 L10 v) ⟨X11.out, Y11.out⟩ ?_
      intro u12 ⟨x6, y6⟩
      have X12 := Lib.hid x6
      have SS : Hid (Calls Tryd.prog 14 #[.agg #[.int .i64 s', .int .i64 r', .slice a10 n10 c10], .agg #[.int .i64 s', .int .i64 r', .slice a2 n2' c2]] u12 fun e w' => e = .returned (.bool true) ∧ Below u12.heap.size u12 w') := by
        have := rsame_sys s' r' y6.tasks x6.tasks
        rwa [decide_eq_true (HM.out)] at this
      have q0 := x6.c0
      have q1 := x6.c1
      have q2 := x6.c2
      have r0 := y6.c0
      have r1 := y6.c1
      have r2 := y6.c2
      have hes := nonempty T (by omega)
      have hne : T ≠ ⟨#[]⟩ := fun e => by rw [e] at hp; exact absurd hp (by decide)
      clear X10 X11 Y11 T10 HM x6 y6
      go_wp2_with (go_at_call 14; (with_reducible refine (SS.out).mono ?_); rintro e u13 ⟨rfl, b13⟩; have B13 := Lib.hid (below_up X12.out.low b13); clear b13)
      go_ret
      exact ⟨rfl, B13.out⟩
end Go.Proofs.YtlpffgmfgkleiaaDoor

/-
  The walk over the law of a system's text that is cut.
-/
namespace Go.Proofs.YtlpffgmfgkleiaaDoor
open Go.RowKit Go.Maps

theorem cut_two (T : ByteArray) {k : Nat} (h : k ≤ T.size) : T.extract 0 k ++ T.extract k T.size = T := by
  rw [ByteArray.extract_append_extract, Nat.min_eq_left (Nat.zero_le _), Nat.max_eq_right h, ByteArray.extract_zero_size]

set_option maxRecDepth 100000 in
set_option maxHeartbeats 8000000 in
theorem law_cuts (w : World) (hT : PT w) (S R : Int) (a : Option Addr) (n cap : Nat) (L : List NV) (hn : Nums w a n cap L) (at_ : Int) :
    Calls Tryd.prog 7 #[.agg #[.int .i64 S, .int .i64 R, .slice a n cap], .int .i64 at_] w fun e w' => e = .returned (.bool true) ∧ Below w.heap.size w w' := by
  have HPT : Hid (PT w) := hT
  have MK : Hid (∀ v, Below w.heap.size w v → Calls Tryd.prog 11 #[.agg #[.int .i64 S, .int .i64 R, .slice a n cap]] v (MadeBack v)) := fun v hb => made5_any S R (hn.below hb)
  clear hn hT
  go_enter Tryd.func7, Tryd.ntmps7
  go_upto_region 1 with fail
  refine gen_world (fun v => Below w.heap.size w v ∧ Box v w.heap.size 24 #[.int .i64 S, .int .i64 R, .slice a n cap]) ⟨bw_alloc (Below.refl _ _) _, heap_alloc_new w _⟩ ?_
  intro u0 ⟨hb0, x0⟩
  have B0 := Lib.hid hb0
  have X0 := Lib.hid x0
  clear hb0 x0
  go_upto_region 2 with (go_at_call 8; (with_reducible refine ((awake_any _).mono ?_)); rintro e u1 ⟨rfl, b1⟩; have X1 := Lib.hid (kept_obj b1 X0.out); have B1 := Lib.hid (below_up B0.out b1); clear b1)
  have n0 : u1.cell? ⟨w.heap.size, 0, none⟩ = some (.int .i64 S) := blk_cell X1.out 0
  have n1 : u1.cell? ⟨w.heap.size, 1, none⟩ = some (.int .i64 R) := blk_cell X1.out 1
  have n2 : u1.cell? ⟨w.heap.size, 2, none⟩ = some (.slice a n cap) := blk_cell X1.out 2
  clear X0 B0 X1
  go_upto_region 3 with (go_at_call 11; (with_reducible refine (MK.out _ B1.out).mono ?_); rintro y u2 hm; obtain ⟨s', r', a2, n2', c2, M, T, rfl, hT2, hPT2, hp, hz, hpa, hi, hck, b2⟩ := hm.text; have B2 := Lib.hid (below_up B1.out b2); have T2 := Lib.hid hT2; have HI := Lib.hid hi; have HPX := Lib.hid hPT2; have HPA := Lib.hid hpa; have HCK := Lib.hid hck; clear hT2 hPT2 hpa hi hck b2 hm)
  clear MK B1 n0 n1 n2
  have X2 := Lib.hid (sysIn_new (w := w) (S := s') (R := r') B2.out T2.out)
  refine gen_world (SysIn w u2.heap.size s' r' a2 n2' c2 M) X2.out ?_
  intro u3 hx3
  have X3 := Lib.hid hx3
  have q0 := hx3.c0
  have q1 := hx3.c1
  have q2 := hx3.c2
  have CP : Hid (Calls Tryd.prog 15 #[.agg #[.int .i64 s', .int .i64 r', .slice a2 n2' c2]] u3 fun e w' => e = .returned (.string T) ∧ Below u3.heap.size u3 w') := by
    have := print_any s' r' hx3.tasks HI.out (HPT.out.below hx3.low)
    rwa [HPX.out] at this
  obtain ⟨N, hN⟩ : ∃ N, T.size = N := ⟨_, rfl⟩
  rw [hN] at hp hz
  have e1 : ((s'.toNat : Nat) : Int) = s' := Int.toNat_of_nonneg (check_pass HCK.out).s.1
  obtain ⟨t, k, e2, f2, f3, f4, f5⟩ : ∃ (t : Int) (k : Nat), at_.tmod N = t ∧ -(N : Int) < t ∧ t < N ∧ (t + N) % N = (k : Int) ∧ k < N := by
    have a := Int.tmod_lt_of_pos at_ (show (0 : Int) < N by omega)
    have b := Int.lt_tmod_of_pos at_ (show (0 : Int) < N by omega)
    have c := Int.emod_nonneg (at_.tmod N + N) (show (N : Int) ≠ 0 by omega)
    have d := Int.emod_lt_of_pos (at_.tmod N + N) (show (0 : Int) < N by omega)
    exact ⟨at_.tmod N, ((at_.tmod N + N) % N).toNat, rfl, b, a, by omega, by omega⟩
  have w1 : IntKind.i64.wrap (t + (N : Int)) = t + N := IntWalk.i64_in _ (by omega)
  have w2 : (t + (N : Int)).tmod N = (k : Int) := by rw [Int.tmod_eq_emod_of_nonneg (by omega)]; exact f4
  have z1 : ((N : Int) == 0) = false := by rw [beq_eq_false_iff_ne]; omega
  have z2 : ¬ (N : Int) = 0 := by omega
  have z3 : ¬ N = 0 := by omega
  have k0 : (0 : Int) ≤ (k : Int) := by omega
  have k2 : (k : Int) ≤ (N : Int) := by omega
  have z9 := @IntKind.wrap_i64
  have HNT : Hid ((T.size : Int) = (N : Int)) := by show _ = _; rw [hN]
  clear X2 hx3 T2 HI HPX B2 f4
  go_upto_region 4 with (go_at_call 15; (with_reducible refine (CP.out).mono ?_); rintro e u4 ⟨rfl, b4⟩; have X4 := Lib.hid (X3.out.below b4); clear b4)
  clear CP X3 q0 q1 q2
  have q0 := X4.out.c0
  have q1 := X4.out.c1
  have q2 := X4.out.c2
  go_upto_region 7 with fail
  clear e2 w1 w2 z1 z2 f2 f3 z9
  obtain ⟨P, hP⟩ : ∃ P, T.extract 0 k = P := ⟨_, rfl⟩
  have hPk : P.size = k := by rw [← hP, ByteArray.size_extract]; omega
  have hPQ : P ++ T.extract k T.size = T := by rw [← hP]; exact cut_two T (by omega)
  rcases hq : parseOf P with ⟨p, e⟩ | ⟨S1, R1, l1⟩
  · obtain ⟨he, hp0, hp1⟩ := parse_err (by omega) hq
    rw [hPk] at hp1
    have C1 : Hid (∀ v, Calls Tryd.prog 12 #[.string P] v (BadIs p e v)) := fun v => parse_bad (out_wrong hq) (by omega) v
    have d1 : (e == 0) = false := by rw [beq_eq_false_iff_ne]; exact he
    have d2 : (e != 0) = true := by rw [bne, d1]; rfl
    have hNi : (T.size : Int) = (N : Int) := HNT.out
    clear hq he hPQ HPA
    go_wp2_with (go_at_call 12; (with_reducible refine (C1.out _).mono ?_); rintro y u5 ⟨a5, c5, rfl, b5⟩; have B5 := Lib.hid (below_up X4.out.low b5); clear b5)
    go_ret
    exact ⟨rfl, bw_alloc B5.out _⟩
  · obtain ⟨hS1, hl1, hl0⟩ := parse_cut (a := P) (b := T.extract k T.size) (by rw [hPQ]; exact HPA.out) hq
    obtain ⟨_, _, _, _, _, _, hck1, _⟩ := parse_parts hq
    have hS2 : (S1 : Int) = s' := by rw [hS1]; exact e1
    have hr := out_right hq
    rw [hS2, hPk] at hr
    rw [hS2] at hck1
    have C1 : Hid (∀ v, Calls Tryd.prog 12 #[.string P] v (GoodIs s' R1 l1 k v)) := fun v => parse_good hr (by omega) v
    have hNi : (T.size : Int) = (N : Int) := HNT.out
    have HC1 := Lib.hid hck1
    rw [List.length_map] at hl1
    clear hr hq hPQ HPA hS1 hS2 hck1
    have hMl : M.length = n2' := X4.out.tasks.len
    rw [hMl] at hl1
    clear hMl
    go_upto_region 8 with (go_at_call 12; (with_reducible refine (C1.out _).mono ?_); rintro y u5 ⟨a5, n5, c5, L5, rfl, t5, hM, -, b5⟩; have X5 := Lib.hid (X4.out.below b5); have T5 := Lib.hid t5; have HM := Lib.hid hM; have h5 : Hid (n5 = l1.length) := (by show _ = _; rw [← hM, List.length_map]; exact t5.len.symm); clear b5 t5 hM)
    clear C1 q0 q1 q2
    have h6 := h5.out
    have g1 : (1 : Int) ≤ (n5 : Int) := by omega
    have g2 : (n5 : Int) ≤ (n2' : Int) := by omega
    clear h6
    have X6 := Lib.hid (X5.out.below (bw_alloc (Below.refl _ _) (.cells #[.int .i64 s', .int .i64 R1, .slice a5 n5 c5] SysT)))
    have Y6 := Lib.hid (sysIn_new (w := w) (S := s') (R := (R1 : Int)) X5.out.low T5.out)
    refine gen_world (fun v => SysIn w u2.heap.size s' r' a2 n2' c2 M v ∧ SysIn w u5.heap.size s' R1 a5 n5 c5 L5 v) ⟨X6.out, Y6.out⟩ ?_
    intro u6 ⟨x6, y6⟩
    have Y7 := Lib.hid y6
    have CK : Hid (Calls Tryd.prog 16 #[.agg #[.int .i64 s', .int .i64 R1, .slice a5 n5 c5]] u6 fun e w' => e = .returned (.int .i64 0) ∧ Below w.heap.size w w') := by
      have := rcheck_any s' (R1 : Int) y6.tasks
      rw [check_tk, HM.out, HC1.out] at this
      exact this.mono fun _ _ ⟨h1, h2⟩ => ⟨h1, below_up y6.low h2⟩
    have q0 := x6.c0
    have q1 := x6.c1
    have q2 := x6.c2
    have r0 := y6.c0
    have r1 := y6.c1
    have r2 := y6.c2
    clear X5 X6 Y6 T5 HM x6 y6 X4 HC1 hl1 hl0 h5
    go_wp2_with (go_at_call 16; (with_reducible refine CK.out.mono ?_); rintro e u8 ⟨rfl, b8⟩)
    go_ret
    exact ⟨rfl, b8⟩
end Go.Proofs.YtlpffgmfgkleiaaDoor

/-
  The walk over the law of what stands behind a line that is wrong.
-/
namespace Go.Proofs.YtlpffgmfgkleiaaDoor
open Go.RowKit Go.Maps

abbrev wrong0 : ByteArray := ⟨#[116, 97, 115, 107, 32, 48, 32, 99, 61, 49, 32, 100, 61, 49, 32, 116, 61, 49, 32, 112, 61, 57, 57]⟩
abbrev wrong1 : ByteArray := ⟨#[116, 97, 115, 107, 32, 57, 56]⟩
abbrev wrong2 : ByteArray := ⟨#[116, 97, 115, 107, 32, 57, 56, 32, 99, 61, 49, 32, 100, 61, 49, 32, 116, 61, 49, 32, 112, 61, 57, 56, 32, 120]⟩
abbrev wrong3 : ByteArray := ⟨#[116, 97, 115, 107, 32, 57, 56, 32, 99, 61, 48, 49, 32, 100, 61, 49, 32, 116, 61, 49, 32, 112, 61, 57, 56]⟩
abbrev wrong4 : ByteArray := ⟨#[116, 97, 115, 107, 115, 32, 57, 56, 32, 99, 61, 49, 32, 100, 61, 49, 32, 116, 61, 49, 32, 112, 61, 57, 56]⟩
abbrev wrong5 : ByteArray := ⟨#[116, 97, 115, 107, 32, 57, 56, 32, 99, 61, 50, 32, 100, 61, 49, 32, 116, 61, 49, 32, 112, 61, 57, 56]⟩
/-- The lines that are wrong. -/
def wrongAt : Nat → ByteArray
  | 0 => wrong0
  | 1 => wrong1
  | 2 => wrong2
  | 3 => wrong3
  | 4 => wrong4
  | _ => wrong5
def wrongLine (b : ByteArray) : Bool := match linesOf b with
  | [W] => match lineOf W with
    | .error _ => true
    | .ok x => decide (rightOf x.tv 256 ≠ 0)
  | _ => false
theorem wrong_0 : wrongLine wrong0 = true := by kernel_rfl
theorem wrong_1 : wrongLine wrong1 = true := by kernel_rfl
theorem wrong_2 : wrongLine wrong2 = true := by kernel_rfl
theorem wrong_3 : wrongLine wrong3 = true := by kernel_rfl
theorem wrong_4 : wrongLine wrong4 = true := by kernel_rfl
theorem wrong_5 : wrongLine wrong5 = true := by kernel_rfl
theorem wrong_all : ∀ k, k < 6 → wrongLine (wrongAt k) = true ∧ (wrongAt k).size ≤ 40
  | 0, _ => ⟨wrong_0, by decide⟩
  | 1, _ => ⟨wrong_1, by decide⟩
  | 2, _ => ⟨wrong_2, by decide⟩
  | 3, _ => ⟨wrong_3, by decide⟩
  | 4, _ => ⟨wrong_4, by decide⟩
  | 5, _ => ⟨wrong_5, by decide⟩
  | k + 6, h => by omega
theorem wrong_line {b : ByteArray} (h : wrongLine b = true) : ∃ W, linesOf b = [W] ∧ ∀ x, lineOf W = .ok x → rightOf x.tv 256 ≠ 0 := by
  unfold wrongLine at h
  cases q : linesOf b with
  | nil => rw [q] at h; cases h
  | cons W L =>
    cases L with
    | cons V L => rw [q] at h; cases h
    | nil =>
      refine ⟨W, rfl, fun x hx => ?_⟩
      rw [q] at h
      simp only [] at h
      rw [hx] at h
      exact of_decide_eq_true h
theorem print_nl {s r : Int} {L : List TV} (h : checkOf s r L = 0) : ∃ T, printText s r (L.map TV.tk) = T ++ nl := by
  have q := check_pass h
  rw [print_tk, if_pos h]
  rcases List.eq_nil_or_concat (L.map TV.tk) with e | ⟨l, t, e⟩
  · have := congrArg List.length e
    rw [List.length_map] at this
    exact absurd (show L.length = 0 from this) (by have := q.pos; omega)
  · rw [e, List.concat_eq_append, run_snoc]
    exact ⟨_, rfl⟩
/-- A wrong line behind a system's text. -/
theorem text_first {T : ByteArray} {s r : Int} {L : List TV} {R1 R2 : Nat} (h : checkOf s r L = 0) (hT : printText s r (L.map TV.tk) = T) (hp : parseOf T = .ok (R1, R2, L.map TV.tk)) (hz : T.size ≤ 30000) {b : ByteArray} (hb : wrongLine b = true) (hb2 : b.size ≤ 40) :
    ∃ p e, e ≠ 0 ∧ (T.size : Int) ≤ p ∧ p ≤ ((T ++ b).size : Int) ∧ outOf (T ++ b) = ⟨0, 0, [], p, e⟩ ∧ ∀ rest, outOf (T ++ b ++ nl ++ rest) = ⟨0, 0, [], p, e⟩ := by
  obtain ⟨T', e1⟩ := print_nl h
  obtain rfl : T = T' ++ nl := hT.symm.trans e1
  obtain ⟨W, h1, h2⟩ := wrong_line hb
  obtain ⟨p, e, k1, k2, k3, k4, k5⟩ := parse_first hp h1 h2 (by rw [ByteArray.size_append]; omega)
  exact ⟨p, e, k1, k2, k3, out_wrong k4, fun rest => out_wrong (k5 rest)⟩

set_option maxRecDepth 100000 in
set_option maxHeartbeats 8000000 in
theorem law_first (w : World) (hT : PT w) (S R : Int) (a : Option Addr) (n cap : Nat) (L : List NV) (hn : Nums w a n cap L) (which : Int) (rest : ByteArray) :
    Calls Tryd.prog 6 #[.agg #[.int .i64 S, .int .i64 R, .slice a n cap], .int .i64 which, .string rest] w fun e w' => e = .returned (.bool true) ∧ Below w.heap.size w w' := by
  have HPT : Hid (PT w) := hT
  have MK : Hid (∀ v, Below w.heap.size w v → Calls Tryd.prog 11 #[.agg #[.int .i64 S, .int .i64 R, .slice a n cap]] v (MadeBack v)) := fun v hb => made5_any S R (hn.below hb)
  obtain ⟨r1, hr1⟩ : ∃ t, shortOf rest 40 = t := ⟨_, rfl⟩
  have hr1s : r1.size ≤ 40 := by
    rw [← hr1]; unfold shortOf
    split
    · rw [ByteArray.size_extract]; omega
    · omega
  have SH : Hid (∀ v, Calls Tryd.prog 9 #[.string rest, .int .i64 40] v fun e w' => e = .returned (.string r1) ∧ v = w') := fun v => by have := short_any rest 40 (by omega) v; rwa [hr1] at this
  obtain ⟨t, k, e2, f2, f3, f4, f5⟩ : ∃ (t : Int) (k : Nat), which.tmod 6 = t ∧ -6 < t ∧ t < 6 ∧ (t + 6) % 6 = (k : Int) ∧ k < 6 := by
    have a := Int.tmod_lt_of_pos which (show (0 : Int) < 6 by omega)
    have b := Int.lt_tmod_of_pos which (show (0 : Int) < 6 by omega)
    exact ⟨which.tmod 6, ((which.tmod 6 + 6) % 6).toNat, rfl, b, a, by omega, by omega⟩
  have w1 : IntKind.i64.wrap (t + 6) = t + 6 := IntWalk.i64_in _ (by omega)
  have w2 : (t + 6).tmod 6 = (k : Int) := by rw [Int.tmod_eq_emod_of_nonneg (by omega)]; exact f4
  have k0 : (0 : Int) ≤ (k : Int) := by omega
  have k1 : (k : Int) < 6 := by omega
  have z9 := @IntKind.wrap_i64
  obtain ⟨b, hb⟩ : ∃ b, wrongAt k = b := ⟨_, rfl⟩
  obtain ⟨hbw, hbs⟩ := wrong_all k f5
  rw [hb] at hbw hbs
  clear hn hT hr1 f4
  go_enter Tryd.func6, Tryd.ntmps6
  go_upto_region 1 with fail
  refine gen_world (fun v => Below w.heap.size w v ∧ Box v w.heap.size 24 #[.int .i64 S, .int .i64 R, .slice a n cap]) ⟨bw_alloc (Below.refl _ _) _, heap_alloc_new w _⟩ ?_
  intro u0 ⟨hb0, x0⟩
  have B0 := Lib.hid hb0
  have X0 := Lib.hid x0
  clear hb0 x0
  go_upto_region 3 with (go_at_call 8; (with_reducible refine ((awake_any _).mono ?_)); rintro e u1 ⟨rfl, b1⟩; have X1 := Lib.hid (kept_obj b1 X0.out); have B1 := Lib.hid (below_up B0.out b1); clear b1)
  have hcell : (u1.alloc (.cells #[.string wrong0, .string wrong1, .string wrong2, .string wrong3, .string wrong4, .string wrong5] 46)).cell? ⟨u1.heap.size, k, none⟩ = some (.string b) := by
    rw [World.cell?_alloc_new, ← hb]
    match k, f5 with
    | 0, _ => rfl
    | 1, _ => rfl
    | 2, _ => rfl
    | 3, _ => rfl
    | 4, _ => rfl
    | 5, _ => rfl
  have X2 := Lib.hid (kept_obj (bw_alloc (Below.refl _ _) (.cells #[.string wrong0, .string wrong1, .string wrong2, .string wrong3, .string wrong4, .string wrong5] 46) : Below u1.heap.size u1 _) X1.out)
  refine gen_world (fun v => Below w.heap.size w v ∧ Box v w.heap.size 24 #[.int .i64 S, .int .i64 R, .slice a n cap] ∧ v.cell? ⟨u1.heap.size, k, none⟩ = some (.string b)) ⟨bw_alloc B1.out _, X2.out, hcell⟩ ?_
  clear hcell X2 X1 B1 X0 B0
  intro v1 ⟨hb1, hx1, hc1⟩
  have B1 := Lib.hid hb1
  have Q1 := Lib.hid hc1
  have n0 : v1.cell? ⟨w.heap.size, 0, none⟩ = some (.int .i64 S) := blk_cell hx1 0
  have n1 : v1.cell? ⟨w.heap.size, 1, none⟩ = some (.int .i64 R) := blk_cell hx1 1
  have n2 : v1.cell? ⟨w.heap.size, 2, none⟩ = some (.slice a n cap) := blk_cell hx1 2
  clear hb1 hx1 hc1
  go_upto_region 4 with (first
    | (go_at_call 11; (with_reducible refine (MK.out _ B1.out).mono ?_); rintro y u2 hm; obtain ⟨s', r', a2, n2', c2, M, T, rfl, hT2, hPT2, hp, hz, hpa, hi, hck, b2⟩ := hm.text; have B2 := Lib.hid (below_up B1.out b2); have Q2 := Lib.hid (kept_cell b2 Q1.out); have CP : Hid (Calls Tryd.prog 15 #[.agg #[.int .i64 s', .int .i64 r', .slice a2 n2' c2]] u2 fun e w' => e = .returned (.string T) ∧ Below u2.heap.size u2 w') := (by rw [← hPT2]; exact print_any s' r' hT2 hi (HPT.out.below B2.out)); have HPX := Lib.hid hPT2; have HPA := Lib.hid hpa; have HCK := Lib.hid hck; clear hT2 hPT2 hpa hi hck b2 hm)
    | (go_at_call 15; (with_reducible refine (CP.out).mono ?_); rintro e u4 ⟨rfl, b4⟩; have B4 := Lib.hid (below_up B2.out b4); have q4 := kept_cell b4 Q2.out; clear b4))
  clear MK n0 n1 n2 B1 Q1 Q2 B2 CP
  obtain ⟨p, e, he, g1, g2, o1, o2⟩ := text_first HCK.out HPX.out HPA.out hz hbw hbs
  obtain ⟨A, hA⟩ : ∃ A, T ++ b = A := ⟨_, rfl⟩
  obtain ⟨A2, hA2⟩ : ∃ A2, A ++ ⟨#[10]⟩ = A2 := ⟨_, rfl⟩
  obtain ⟨A3, hA3⟩ : ∃ A3, A2 ++ r1 = A3 := ⟨_, rfl⟩
  have o3 := o2 r1
  rw [hA] at g2 o1 o3
  rw [show A ++ nl ++ r1 = A3 from by rw [← hA3, ← hA2]; rfl] at o3
  have k3 : (⟨#[10]⟩ : ByteArray).size = 1 := rfl
  have y1 : A.size = T.size + b.size := by rw [← hA, ByteArray.size_append]
  have y2 : A2.size = A.size + 1 := by rw [← hA2, ByteArray.size_append, k3]
  have y3 : A3.size = A2.size + r1.size := by rw [← hA3, ByteArray.size_append]
  have s1 := add_str T b A hA (by omega)
  have s2 := add_str A ⟨#[10]⟩ A2 hA2 (by omega)
  have s3 := add_str A2 r1 A3 hA3 (by omega)
  have C1 : Hid (∀ v, Calls Tryd.prog 12 #[.string A] v (BadIs p e v)) := fun v => parse_bad o1 (by omega) v
  have C2 : Hid (∀ v, Calls Tryd.prog 12 #[.string A3] v (BadIs p e v)) := fun v => parse_bad o3 (by omega) v
  have d1 : (e == 0) = false := by rw [beq_eq_false_iff_ne]; exact he
  have d2 : (e != 0) = true := by rw [bne, d1]; rfl
  have hes := nonempty T (by omega)
  have hne : T ≠ ⟨#[]⟩ := fun e => by rw [e] at hp; exact absurd hp (by decide)
  clear o1 o2 o3 hA hA2 hA3 y1 y2 y3 k3 he HPA HPX HCK hb hbw hbs hr1s
  go_upto_region 6 with (go_at_call 12; (with_reducible refine (C1.out _).mono ?_); rintro y u5 ⟨a5, c5, rfl, b5⟩; have B5 := Lib.hid (below_up B4.out b5); clear b5)
  refine gen_world (fun v => Below w.heap.size w v) (bw_alloc B5.out _) ?_
  intro u6 hb6
  have B6 := Lib.hid hb6
  clear hb6 B5 B4 q4 e2 w1 w2 f2 f3 k0 k1
  go_wp2_with (first
    | (go_at_call 9; (with_reducible refine (SH.out _).mono ?_); rintro e u7 ⟨rfl, rfl⟩)
    | (go_at_call 12; (with_reducible refine (C2.out _).mono ?_); rintro y u8 ⟨a8, c8, rfl, b8⟩; have B8 := Lib.hid (below_up B6.out b8); clear b8))
  go_ret
  exact ⟨rfl, bw_alloc B8.out _⟩
end Go.Proofs.YtlpffgmfgkleiaaDoor

/-
  What the two listed tables hold where a call begins; a start at which they hold it; how bytes are turned, opened.
-/
namespace Go.Proofs.YtlpffgmfgkleiaaDoor
open Go.ChangeShapes Go.WideShapes Go.ChangeAt Go.RowKit

theorem tiedOwn7 : ownKnob Tryd.prog.godebug = none := by kernel_rfl
theorem tiedLaidOut7 : laidOutB Tryd.prog = true := by kernel_rfl
abbrev tabLaid2 : List (String × DataW Unit) := [("unicode/utf8.acceptRanges", Rows.laid_unicode_utf8_acceptRanges), ("unicode/utf8.first", Rows.laid_unicode_utf8_first)]
theorem all_shaped2 (os : Os) : (World.laidAll Tryd.prog os tabLaid2).Shaped Tryd.prog := World.shaped_of_ZipB (by kernel_rfl) (by kernel_rfl)
theorem door_met2 (os : Os) (args : Array Value) : laidMetH Tryd.prog tabLaid2 ((World.laidAll Tryd.prog os tabLaid2).forCall (fun _ _ => 0) ⟨#[], args, []⟩).memory := by
  rw [MakeChecks.laidMetH_plain _ _ _ (by kernel_rfl)]
  exact laidMet_laidAll _ (by kernel_rfl) (by kernel_rfl)
section
variable {H : Type} {enc : TypeId × Value → H} {W : World} {base : Nat} {spare : Nat → Bool} {held : Bool}
set_option maxRecDepth 100000 in
theorem open_turn {r : Reach} {b0 : Nat} {v : Value} {d : DataW H} {p : List MemPlace} (hv : Value.okWide Tryd.prog W r b0 26 v) (h : DataW.Trod enc Tryd.prog W base spare held 26 v d p) :
    ∃ (how at_ by_ : Int), v = .agg #[.int .i64 how, .int .i64 at_, .int .u8 by_] := by
  obtain ⟨v0, v1, v2, y0, y1, y2, n, rfl, _, _, t0, t1, t2⟩ := Go.Joins.open_agg3 Tryd.underlying26 (by kernel_rfl) (by kernel_rfl) hv h
  obtain ⟨n0, e0, _, _⟩ := DataW.trod_int Tryd.underlying3 t0
  obtain ⟨n1, e1, _, _⟩ := DataW.trod_int Tryd.underlying3 t1
  obtain ⟨n2, e2, _, _⟩ := DataW.trod_int Tryd.underlying5 t2
  simp at e0 e1 e2
  subst e0 e1 e2
  exact ⟨n0, n1, n2, rfl⟩
end
end Go.Proofs.YtlpffgmfgkleiaaDoor

/-
  What the listed variables hold where a call begins; a start at which they hold it.
-/
namespace Go.Proofs.YtlpffgmfgkleiaaDoor
open Go.ChangeShapes Go.WideShapes Go.ChangeAt Go.RowKit

theorem tiedOwn : ownKnob Tryd.prog.godebug = none := by kernel_rfl
theorem tiedLaidOut : laidOutB Tryd.prog = true := by kernel_rfl
theorem laidMet_tail {P : Program} {x : String × DataW Unit} {r : List (String × DataW Unit)} {w : World} (h : laidMet P (x :: r) w) : laidMet P r w := by
  obtain ⟨ps, hv, hn, hr⟩ := h
  obtain ⟨g, t, cs, fuel, p, q, h1, h2, h3, h4, h5, h6⟩ := hv
  subst h6
  exact ⟨q, h5, (List.nodup_append.1 hn).2.1, fun b off hp => hr b off (List.mem_append_right _ hp)⟩
theorem powName : Tryd.prog.globalNamed "internal/strconv.uint64pow10" = some 0 := by kernel_rfl
theorem powType : (Tryd.prog.globals[0]?).map (·.type) = some 164 := by kernel_rfl
theorem powCells1 : Tryd.prog.cellsOf 87 = 1 := by kernel_rfl
theorem powCells : Tryd.prog.cellsOf 164 = 20 := by kernel_rfl
theorem pt_of_met {r : List (String × DataW Unit)} {W : World} (h : laidMet Tryd.prog (("internal/strconv.uint64pow10", Rows.laid_internal_strconv_uint64pow10) :: r) W) : PT W :=
  Lib.tabIs_of_head powName powType Tryd.underlying164 Tryd.underlying87 powCells1 powCells h

abbrev tabLaid3 : List (String × DataW Unit) := [("math/bits.deBruijn32tab", Rows.laid_math_bits_deBruijn32tab), ("math/bits.deBruijn64tab", Rows.laid_math_bits_deBruijn64tab), ("internal/strconv.uint64pow10", Rows.laid_internal_strconv_uint64pow10)]
theorem door_met3 (os : Os) (args : Array Value) : laidMetH Tryd.prog tabLaid3 ((World.doorLaid Tryd.prog 400 os).forCall (fun _ _ => 0) ⟨#[], args, []⟩).memory :=
  laidMetH_of_parts3 (fuel := 8) (laidMet_of_run' 8 (by kernel_rfl) (by kernel_rfl)) (by kernel_rfl) (by kernel_rfl)
theorem pt_of_laid3 {W : World} (h : laidMetH Tryd.prog tabLaid3 W) : PT W := by
  rw [MakeChecks.laidMetH_plain _ _ _ (by kernel_rfl)] at h
  exact pt_of_met (laidMet_tail (laidMet_tail h))
end Go.Proofs.YtlpffgmfgkleiaaDoor

/-
  What the listed variables hold where a call begins, with two more tables; a start at which they hold it.
-/
namespace Go.Proofs.YtlpffgmfgkleiaaDoor
open Go.ChangeShapes Go.WideShapes Go.ChangeAt Go.RowKit

abbrev tabLaid5 : List (String × DataW Unit) := [("math/bits.deBruijn32tab", Rows.laid_math_bits_deBruijn32tab), ("math/bits.deBruijn64tab", Rows.laid_math_bits_deBruijn64tab), ("internal/strconv.uint64pow10", Rows.laid_internal_strconv_uint64pow10), ("unicode/utf8.acceptRanges", Rows.laid_unicode_utf8_acceptRanges), ("unicode/utf8.first", Rows.laid_unicode_utf8_first)]
theorem all_shaped5 (os : Os) : (World.laidAll Tryd.prog os tabLaid5).Shaped Tryd.prog := World.shaped_of_ZipB (by kernel_rfl) (by kernel_rfl)
theorem door_met5 (os : Os) (args : Array Value) : laidMetH Tryd.prog tabLaid5 ((World.laidAll Tryd.prog os tabLaid5).forCall (fun _ _ => 0) ⟨#[], args, []⟩).memory := by
  rw [MakeChecks.laidMetH_plain _ _ _ (by kernel_rfl)]
  exact laidMet_laidAll _ (by kernel_rfl) (by kernel_rfl)
theorem pt_of_laid5 {W : World} (h : laidMetH Tryd.prog tabLaid5 W) : PT W := by
  rw [MakeChecks.laidMetH_plain _ _ _ (by kernel_rfl)] at h
  exact pt_of_met (laidMet_tail (laidMet_tail h))
end Go.Proofs.YtlpffgmfgkleiaaDoor

/-
  Tasks and systems that came in, opened.
-/
namespace Go.Proofs.YtlpffgmfgkleiaaDoor
open Go.ChangeShapes Go.WideShapes Go.ChangeAt Go.RowKit

instance : Inhabited TV := ⟨⟨0, 0, 0, 0, 0, none, [], 0, none, [], 0⟩⟩
section
variable {H : Type} {enc : TypeId × Value → H} {W : World} {base : Nat} {spare : Nat → Bool} {held : Bool}

/-- A row of numbers. -/
theorem open_nums {t e : TypeId} {fuel : Nat} {v : Value} {x : DataW H × List MemPlace} (ht : Tryd.prog.underlying t = some (.slice e)) (he : Tryd.prog.underlying e = some (.int .i64)) (hc : Tryd.prog.cellsOf e = 1)
    (h : DataW.trod enc Tryd.prog W base spare held fuel t [v] = some x) : ∃ (a : Option Addr) (l : List Int) (c : Nat), v = .slice a l.length c ∧ Ints W a l ∧ l.length ≤ c ∧ (c : Int) ≤ 9223372036854775807 ∧ ∀ y ∈ l, I64 y := by
  rcases open_ints ht he hc h with ⟨hcs, _⟩ | ⟨a, len, cap, zs, hcs, _, hl, hm, hz, _, hcell, hw⟩
  · simp at hcs; subst hcs
    exact ⟨none, [], 0, rfl, .inl rfl, Nat.le_refl _, by omega, fun y hy => by cases hy⟩
  · simp at hcs; subst hcs
    have hlz : len ≤ zs.length := by rw [hz]; split <;> omega
    have hlen : (zs.take len).length = len := by rw [List.length_take]; omega
    refine ⟨some a, zs.take len, cap, by rw [hlen], ?_, by omega, by unfold maxLen at hm; omega, fun y hy => i64_of_wf (hw y (List.mem_of_mem_take hy))⟩
    rcases Nat.eq_zero_or_pos len with e | e
    · left; rw [e]; simp
    · right
      have h0 := hcell 0 (by omega)
      rcases a with ⟨b, off, spot⟩
      have hs : spot = none := by
        cases spot with
        | none => rfl
        | some s => simp [World.cell?, Addr.add] at h0; split at h0 <;> simp at h0
      subst hs
      refine ⟨b, off, rfl, fun j u hj => ?_⟩
      rw [List.getElem?_take] at hj
      split at hj
      · obtain ⟨q1, q2⟩ := List.getElem?_eq_some_iff.1 hj
        have := hcell j q1
        rw [addr_at] at this
        rw [this]
        simp [List.getD_eq_getElem?_getD, hj]
      · cases hj

set_option maxRecDepth 100000 in
/-- The cells of a task. -/
theorem open_cells {fuel : Nat} {cs : List Value} {y : DataW H × List MemPlace} (h : DataW.trod enc Tryd.prog W base spare held fuel TT cs = some y) : ∃ x : TV, cs = x.cells ∧ x.ok W ∧ I64 x.p ∧ I64 x.id := by
  obtain ⟨xs, n, _, _, hl, hlen, hf⟩ := DataW.trod_struct Tryd.underlying52 h
  have hl7 : cs.length = 7 := hl.trans (by kernel_rfl)
  have hx7 : xs.length = 7 := hlen
  have k1 : Tryd.prog.cellsOf 3 = 1 := by kernel_rfl
  have k2 : Tryd.prog.cellsOf 2 = 1 := by kernel_rfl
  have k3 : Tryd.prog.cellsOf 49 = 1 := by kernel_rfl
  have k4 : Tryd.prog.cellsOf 50 = 1 := by kernel_rfl
  match cs, hl7, xs, hx7 with
  | [v0, v1, v2, v3, v4, v5, v6], _, [y0, y1, y2, y3, y4, y5, y6], _ =>
    have t0 : DataW.trod enc Tryd.prog W base spare held n 3 [v0] = some y0 := by have q := hf 0 _ rfl; simpa [k1, k2, k3, k4] using q
    have t1 : DataW.trod enc Tryd.prog W base spare held n 2 [v1] = some y1 := by have q := hf 1 _ rfl; simpa [k1, k2, k3, k4] using q
    have t2 : DataW.trod enc Tryd.prog W base spare held n 2 [v2] = some y2 := by have q := hf 2 _ rfl; simpa [k1, k2, k3, k4] using q
    have t3 : DataW.trod enc Tryd.prog W base spare held n 2 [v3] = some y3 := by have q := hf 3 _ rfl; simpa [k1, k2, k3, k4] using q
    have t4 : DataW.trod enc Tryd.prog W base spare held n 3 [v4] = some y4 := by have q := hf 4 _ rfl; simpa [k1, k2, k3, k4] using q
    have t5 : DataW.trod enc Tryd.prog W base spare held n 49 [v5] = some y5 := by have q := hf 5 _ rfl; simpa [k1, k2, k3, k4] using q
    have t6 : DataW.trod enc Tryd.prog W base spare held n 50 [v6] = some y6 := by have q := hf 6 _ rfl; simpa [k1, k2, k3, k4] using q
    obtain ⟨n0, e0, _, w0⟩ := DataW.trod_int Tryd.underlying3 t0
    obtain ⟨n1, e1, _, w1⟩ := DataW.trod_int Tryd.underlying2 t1
    obtain ⟨n2, e2, _, w2⟩ := DataW.trod_int Tryd.underlying2 t2
    obtain ⟨n3, e3, _, w3⟩ := DataW.trod_int Tryd.underlying2 t3
    obtain ⟨n4, e4, _, w4⟩ := DataW.trod_int Tryd.underlying3 t4
    obtain ⟨a1, l1, c1, e5, i5, le5, m5, _⟩ := open_nums (v := v5) Tryd.underlying49 Tryd.underlying2 k2 t5
    obtain ⟨a2, l2, c2, e6, i6, le6, m6, _⟩ := open_nums (v := v6) Tryd.underlying50 Tryd.underlying3 k1 t6
    simp at e0 e1 e2 e3 e4
    subst e0 e1 e2 e3 e4 e5 e6
    exact ⟨⟨n0, n1, n2, n3, n4, a1, l1, c1, a2, l2, c2⟩, rfl, ⟨i5, i6, le5, m5, le6, m6⟩, i64_of_wf w4, i64_of_wf w0⟩

set_option maxRecDepth 100000 in
/-- A task by value. -/
theorem open_task {r : Reach} {b0 : Nat} {v : Value} {d : DataW H} {p : List MemPlace} (hv : Value.okWide Tryd.prog W r b0 TT v) (h : DataW.Trod enc Tryd.prog W base spare held TT v d p) : ∃ x : TV, v = x.val ∧ x.ok W ∧ I64 x.p ∧ I64 x.id := by
  obtain ⟨cs, rfl, _⟩ := okWide_struct Tryd.underlying52 hv
  obtain ⟨fuel, hf⟩ := h
  obtain ⟨x, hx, h1, h2⟩ := open_cells hf
  refine ⟨x, ?_, h1, h2⟩
  simp only [Value.cells] at hx
  unfold TV.val
  congr 1
  apply Array.ext'
  exact hx

set_option maxRecDepth 100000 in
/-- A row of tasks. -/
theorem open_tasks {fuel : Nat} {v : Value} {y : DataW H × List MemPlace} (h : DataW.trod enc Tryd.prog W base spare held fuel 30 [v] = some y) :
    ∃ (a : Option Addr) (n c : Nat) (L : List TV), v = .slice a n c ∧ Tasks W a n c L ∧ ∀ x ∈ L, I64 x.p ∧ I64 x.id := by
  rcases Go.Deep.open_slice Tryd.underlying30 h with ⟨hcs, _⟩ | ⟨a, len, cap, m, n, D, Pl, hcs, hb, hl, hm, hmm, hx, hi⟩
  · simp at hcs; subst hcs
    exact ⟨none, 0, 0, [], rfl, ⟨rfl, .inl rfl, (fun x hx => by cases hx), Nat.le_refl _, by omega⟩, (fun x hx => by cases hx)⟩
  · simp at hcs; subst hcs
    have k7 : Tryd.prog.cellsOf TT = 7 := by kernel_rfl
    have hlm : len ≤ m := by rw [hmm]; split <;> omega
    obtain ⟨O, hO⟩ := Go.Deep.choose_lt (n := len) (p := fun i (x : TV) => (x.ok W ∧ I64 x.p ∧ I64 x.id) ∧ ∀ j u, x.cells[j]? = some u → W.cell? (a.add (i * 7 + j)) = some u) (fun i hil => by
      obtain ⟨cs, hc, htr⟩ := hi i (by omega)
      rw [k7] at hc
      obtain ⟨_, hcl, hat⟩ := World.cells?_some hc
      obtain ⟨x, rfl, h1, h2⟩ := open_cells htr
      refine ⟨x, ⟨h1, h2⟩, fun j u hj => ?_⟩
      have hjl : j < 7 := by
        have := (List.getElem?_eq_some_iff.1 hj).1
        rwa [cells_len] at this
      have := hat j hjl
      rw [Go.Deep.add_add] at this
      rw [this]; exact hj)
    refine ⟨some a, len, cap, (List.range len).map O, rfl, ⟨by simp, ?_, ?_, hl, by unfold maxLen at hm; omega⟩, ?_⟩
    · rcases Nat.eq_zero_or_pos len with z | z
      · subst z; left; rfl
      have z0 := (hO 0 z).2 0 _ rfl
      rcases a with ⟨b, off, spot⟩
      have hs : spot = none := by
        cases spot with
        | none => rfl
        | some s => simp [World.cell?, Addr.add] at z0; split at z0 <;> simp at z0
      subst hs
      refine .inr ⟨b, off, rfl, fun j u hj => ?_⟩
      have hjl : j < len * 7 := by
        have := (List.getElem?_eq_some_iff.1 hj).1
        rwa [flat_len, List.length_map, List.length_range] at this
      have hk : ((List.range len).map O)[j / 7]? = some (O (j / 7)) := by simp [show j / 7 < len by omega]
      have hf := flat_at _ _ _ hk (j % 7) (by omega)
      rw [show j / 7 * 7 + j % 7 = j by omega, hj] at hf
      have := (hO (j / 7) (by omega)).2 (j % 7) u hf.symm
      rw [addr_at, show j / 7 * 7 + j % 7 = j by omega] at this
      exact this
    · intro x hx
      obtain ⟨i, hi, rfl⟩ := List.mem_map.1 hx
      exact (hO i (by simpa using hi)).1.1
    · intro x hx
      obtain ⟨i, hi, rfl⟩ := List.mem_map.1 hx
      exact (hO i (by simpa using hi)).1.2

set_option maxRecDepth 100000 in
/-- A system by value. -/
theorem open_system {r : Reach} {b0 : Nat} {v : Value} {d : DataW H} {p : List MemPlace} (hv : Value.okWide Tryd.prog W r b0 32 v) (h : DataW.Trod enc Tryd.prog W base spare held 32 v d p) :
    ∃ (s r : Int) (a : Option Addr) (n c : Nat) (L : List TV), v = .agg #[.int .i64 s, .int .i64 r, .slice a n c] ∧ Tasks W a n c L ∧ ∀ x ∈ L, I64 x.p ∧ I64 x.id := by
  obtain ⟨v0, v1, v2, y0, y1, y2, n, rfl, _, _, t0, t1, t2⟩ := Go.Joins.open_agg3 Tryd.underlying32 (by kernel_rfl) (by kernel_rfl) hv h
  obtain ⟨n0, e0, _, _⟩ := DataW.trod_int Tryd.underlying3 t0
  obtain ⟨n1, e1, _, _⟩ := DataW.trod_int Tryd.underlying2 t1
  obtain ⟨a, n2, c, L, e2, h2, h3⟩ := open_tasks t2
  simp at e0 e1
  subst e0 e1 e2
  exact ⟨n0, n1, a, n2, c, L, rfl, h2, h3⟩
end
end Go.Proofs.YtlpffgmfgkleiaaDoor

/-
  A system by plain numbers that came in, opened.
-/
namespace Go.Proofs.YtlpffgmfgkleiaaDoor
open Go.ChangeShapes Go.WideShapes Go.ChangeAt Go.RowKit

instance : Inhabited NV := ⟨⟨0, 0, 0, 0, 0, none, [], 0⟩⟩
section
variable {H : Type} {enc : TypeId × Value → H} {W : World} {base : Nat} {spare : Nat → Bool} {held : Bool}

set_option maxRecDepth 100000 in
/-- The cells of a task's plain numbers. -/
theorem open_ncells {fuel : Nat} {cs : List Value} {y : DataW H × List MemPlace} (h : DataW.trod enc Tryd.prog W base spare held fuel 60 cs = some y) : ∃ x : NV, cs = x.cells ∧ x.ok W := by
  obtain ⟨xs, n, _, _, hl, hlen, hf⟩ := DataW.trod_struct Tryd.underlying60 h
  have hl7 : cs.length = 6 := hl.trans (by kernel_rfl)
  have hx7 : xs.length = 6 := hlen
  have k1 : Tryd.prog.cellsOf 3 = 1 := by kernel_rfl
  have k4 : Tryd.prog.cellsOf 50 = 1 := by kernel_rfl
  match cs, hl7, xs, hx7 with
  | [v0, v1, v2, v3, v4, v5], _, [y0, y1, y2, y3, y4, y5], _ =>
    have t0 : DataW.trod enc Tryd.prog W base spare held n 3 [v0] = some y0 := by have q := hf 0 _ rfl; simpa [k1, k4] using q
    have t1 : DataW.trod enc Tryd.prog W base spare held n 3 [v1] = some y1 := by have q := hf 1 _ rfl; simpa [k1, k4] using q
    have t2 : DataW.trod enc Tryd.prog W base spare held n 3 [v2] = some y2 := by have q := hf 2 _ rfl; simpa [k1, k4] using q
    have t3 : DataW.trod enc Tryd.prog W base spare held n 3 [v3] = some y3 := by have q := hf 3 _ rfl; simpa [k1, k4] using q
    have t4 : DataW.trod enc Tryd.prog W base spare held n 3 [v4] = some y4 := by have q := hf 4 _ rfl; simpa [k1, k4] using q
    have t5 : DataW.trod enc Tryd.prog W base spare held n 50 [v5] = some y5 := by have q := hf 5 _ rfl; simpa [k1, k4] using q
    obtain ⟨n0, e0, _, _⟩ := DataW.trod_int Tryd.underlying3 t0
    obtain ⟨n1, e1, _, _⟩ := DataW.trod_int Tryd.underlying3 t1
    obtain ⟨n2, e2, _, _⟩ := DataW.trod_int Tryd.underlying3 t2
    obtain ⟨n3, e3, _, _⟩ := DataW.trod_int Tryd.underlying3 t3
    obtain ⟨n4, e4, _, _⟩ := DataW.trod_int Tryd.underlying3 t4
    obtain ⟨a2, l2, c2, e5, i6, le6, m6, _⟩ := open_nums (v := v5) Tryd.underlying50 Tryd.underlying3 k1 t5
    simp at e0 e1 e2 e3 e4
    subst e0 e1 e2 e3 e4 e5
    exact ⟨⟨n0, n1, n2, n3, n4, a2, l2, c2⟩, rfl, ⟨i6, le6, m6⟩⟩

set_option maxRecDepth 100000 in
/-- A row of tasks' plain numbers. -/
theorem open_nrow {fuel : Nat} {v : Value} {y : DataW H × List MemPlace} (h : DataW.trod enc Tryd.prog W base spare held fuel 22 [v] = some y) :
    ∃ (a : Option Addr) (n c : Nat) (L : List NV), v = .slice a n c ∧ Nums W a n c L := by
  rcases Go.Deep.open_slice Tryd.underlying22 h with ⟨hcs, _⟩ | ⟨a, len, cap, m, n, D, Pl, hcs, hb, hl, hm, hmm, hx, hi⟩
  · simp at hcs; subst hcs
    exact ⟨none, 0, 0, [], rfl, ⟨rfl, .inl rfl, (fun x hx => by cases hx), by omega⟩⟩
  · simp at hcs; subst hcs
    have k7 : Tryd.prog.cellsOf 60 = 6 := by kernel_rfl
    have hlm : len ≤ m := by rw [hmm]; split <;> omega
    obtain ⟨O, hO⟩ := Go.Deep.choose_lt (n := len) (p := fun i (x : NV) => x.ok W ∧ ∀ j u, x.cells[j]? = some u → W.cell? (a.add (i * 6 + j)) = some u) (fun i hil => by
      obtain ⟨cs, hc, htr⟩ := hi i (by omega)
      rw [k7] at hc
      obtain ⟨_, hcl, hat⟩ := World.cells?_some hc
      obtain ⟨x, rfl, h1⟩ := open_ncells htr
      refine ⟨x, h1, fun j u hj => ?_⟩
      have hjl : j < 6 := by
        have := (List.getElem?_eq_some_iff.1 hj).1
        rwa [ncells_len] at this
      have := hat j hjl
      rw [Go.Deep.add_add] at this
      rw [this]; exact hj)
    refine ⟨some a, len, cap, (List.range len).map O, rfl, ⟨by simp, ?_, ?_, by unfold maxLen at hm; omega⟩⟩
    · rcases Nat.eq_zero_or_pos len with z | z
      · subst z; left; rfl
      have z0 := (hO 0 z).2 0 _ rfl
      rcases a with ⟨b, off, spot⟩
      have hs : spot = none := by
        cases spot with
        | none => rfl
        | some s => simp [World.cell?, Addr.add] at z0; split at z0 <;> simp at z0
      subst hs
      refine .inr ⟨b, off, rfl, fun j u hj => ?_⟩
      have hjl : j < len * 6 := by
        have := (List.getElem?_eq_some_iff.1 hj).1
        rwa [nflat_len, List.length_map, List.length_range] at this
      have hk : ((List.range len).map O)[j / 6]? = some (O (j / 6)) := by simp [show j / 6 < len by omega]
      have hf := nflat_at _ _ _ hk (j % 6) (by omega)
      rw [show j / 6 * 6 + j % 6 = j by omega, hj] at hf
      have := (hO (j / 6) (by omega)).2 (j % 6) u hf.symm
      rw [addr_at, show j / 6 * 6 + j % 6 = j by omega] at this
      exact this
    · intro x hx
      obtain ⟨i, hi, rfl⟩ := List.mem_map.1 hx
      exact (hO i (by simpa using hi)).1

set_option maxRecDepth 100000 in
/-- A system by plain numbers, by value. -/
theorem open_nsys {r : Reach} {b0 : Nat} {v : Value} {d : DataW H} {p : List MemPlace} (hv : Value.okWide Tryd.prog W r b0 24 v) (h : DataW.Trod enc Tryd.prog W base spare held 24 v d p) :
    ∃ (s r : Int) (a : Option Addr) (n c : Nat) (L : List NV), v = .agg #[.int .i64 s, .int .i64 r, .slice a n c] ∧ Nums W a n c L := by
  obtain ⟨v0, v1, v2, y0, y1, y2, n, rfl, _, _, t0, t1, t2⟩ := Go.Joins.open_agg3 Tryd.underlying24 (by kernel_rfl) (by kernel_rfl) hv h
  obtain ⟨n0, e0, _, _⟩ := DataW.trod_int Tryd.underlying3 t0
  obtain ⟨n1, e1, _, _⟩ := DataW.trod_int Tryd.underlying3 t1
  obtain ⟨a, n2, c, L, e2, h2⟩ := open_nrow t2
  simp at e0 e1
  subst e0 e1 e2
  exact ⟨n0, n1, a, n2, c, L, rfl, h2⟩
end
end Go.Proofs.YtlpffgmfgkleiaaDoor
