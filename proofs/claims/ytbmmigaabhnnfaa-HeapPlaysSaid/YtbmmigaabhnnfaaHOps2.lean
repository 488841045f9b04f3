/-
  The walks over a key's number, a key dropped, a number lowered, a key put.
-/
import Derived.Test.YtbmmigaabhnnfaaHOps1
import Derived.OwnWalk
namespace Go.Proofs.Ytbmmigaabhnnfaa
open Go.RowKit Go.Maps

theorem con_places {n : Nat} {e : Nat → Int × Int} {f c : Int → Option Int} (hp : Places n e f) (hc : Content n e c) (k : Int) : (f k = none ∧ c k = none) ∨ ∃ i x : Nat → Int, ∃ j : Nat, j < n ∧ f k = some (j : Int) ∧ (e j).1 = k ∧ c k = some (e j).2 := by
  cases hf : f k with
  | none =>
    left
    refine ⟨rfl, ?_⟩
    cases hk : c k with
    | none => rfl
    | some x =>
      obtain ⟨i, hi, he⟩ := (hc k x).1 hk
      have := (hp k (i : Int)).2 ⟨i, hi, by rw [he], rfl⟩
      rw [hf] at this; cases this
  | some x =>
    right
    obtain ⟨j, hj, h1, rfl⟩ := (hp k x).1 hf
    exact ⟨fun _ => 0, fun _ => 0, j, hj, rfl, h1, (hc k _).2 ⟨j, hj, by rw [← h1]⟩⟩

/-- A key that is there, or that is not. -/
theorem find_cases {n : Nat} {e : Nat → Int × Int} {f c : Int → Option Int} (hp : Places n e f) (hc : Content n e c) (k : Int) : (f k = none ∧ c k = none) ∨ ∃ j : Nat, j < n ∧ f k = some (j : Int) ∧ (e j).1 = k ∧ c k = some (e j).2 := by
  rcases con_places hp hc k with h | ⟨_, _, j, h⟩
  · exact .inl h
  · exact .inr ⟨j, h⟩

theorem mapv_some {w : World} {mv : Value} {N : Nat} {f : Int → Option Int} (h : MapV w mv N f) (hm : mv ≠ .map none) : ∃ bm, mv = .map (some bm) ∧ MapIs w bm N f := h.resolve_left hm

set_option maxRecDepth 100000 in
set_option maxHeartbeats 1000000 in
theorem get_some {w : World} {sb g cap n N : Nat} {bm : Nat} {e : Nat → Int × Int} {f : Int → Option Int} {key : Int} {i : Nat} (hk : I64 key) (h : Hm w sb g cap (.map (some bm)) n N e f) (hm : MapIs w bm N f) (hi : i < n) (hf : f key = some (i : Int)) (hn : (n : Int) ≤ 1000000) :
    Calls Try.prog 21 #[.pointer (some ⟨sb, 0, none⟩), .int .i64 key] w fun r w' => r = .returned (.tuple #[.int .i64 (e i).2, .bool true]) ∧ Below w.heap.size w w' := by
  have CF := Lib.hid (find_some sb bm N _ f key i hk w h.str hm hf)
  have HH := Lib.hid (fun w1 (hb : Below w.heap.size w w1) => (h.below hb).row.cells hi)
  have HS := Lib.hid (fun w1 (hb : Below w.heap.size w w1) => (h.below hb).str.cells)
  have hi1 : (i : Int) < (n : Int) := by omega
  have hi0 : (0 : Int) ≤ (i : Int) := by omega
  clear h hm hf
  generalize (e i).2 = y at HH ⊢
  generalize (e i).1 = z at HH
  go_enter Try.func21, Try.ntmps21
  go_wp2_with (go_at_call 29; (refine (CF.out).mono ?_); rintro r w1 ⟨rfl, hb⟩; have HB := Lib.hid hb; clear hb; obtain ⟨c0, c1, c2⟩ := HS.out _ HB.out; obtain ⟨i0, i1⟩ := HH.out _ HB.out)
  go_ret2
  exact ⟨rfl, HB.out⟩
set_option maxRecDepth 100000 in
set_option maxHeartbeats 1000000 in
theorem get_no {w : World} {p : Option Addr} {key q : Int} (hq : q < 0) (hf : Calls Try.prog 29 #[.pointer p, .int .i64 key] w fun r w' => r = .returned (.int .i64 q) ∧ Below w.heap.size w w') :
    Calls Try.prog 21 #[.pointer p, .int .i64 key] w fun r w' => r = .returned (.tuple #[.int .i64 0, .bool false]) ∧ Below w.heap.size w w' := by
  have CF := Lib.hid hf
  clear hf
  go_enter Try.func21, Try.ntmps21
  go_wp2_with (go_at_call 29; (refine (CF.out).mono ?_); rintro r w1 ⟨rfl, hb⟩; have HB := Lib.hid hb; clear hb)
  go_ret2
  exact ⟨rfl, HB.out⟩

set_option maxRecDepth 100000 in
set_option maxHeartbeats 1000000 in
theorem drop_some {w : World} {sb g cap m N : Nat} {bm : Nat} {e : Nat → Int × Int} {f : Int → Option Int} {key : Int} {i : Nat} (hk : I64 key) (h : Hm w sb g cap (.map (some bm)) (m + 1) N e f) (hm : MapIs w bm N f) (hi : i < m + 1) (hf : f key = some (i : Int)) (hn : (m : Int) + 1 ≤ 1000000) (hN : N < maxLen) :
    Calls Try.prog 17 #[.pointer (some ⟨sb, 0, none⟩), .int .i64 key] w fun r w' => r = .returned (.bool true) ∧ ∃ w1 e' f', Below w.heap.size w w1 ∧ Gone w1 sb g cap (.map (some bm)) m N e i w' e' f' := by
  have CF := Lib.hid (find_some sb bm N _ f key i hk w h.str hm hf)
  have CR := Lib.hid (fun w1 (hb : Below w.heap.size w w1) => remove_any sb g m cap N _ e f i hi hn hN w1 (h.below hb))
  have hi0 : (0 : Int) ≤ (i : Int) := by omega
  clear h hm hf hi hn hN hk
  go_enter Try.func17, Try.ntmps17
  go_wp2_with (first | (go_at_call 29; (refine (CF.out).mono ?_); rintro r w1 ⟨rfl, hb⟩; have HB := Lib.hid hb; clear hb) | (go_at_call 32; (refine (CR.out _ HB.out).mono ?_); rintro r w2 ⟨rfl, e', f', hg⟩; have HG := Lib.hid hg; clear hg))
  go_ret
  exact ⟨rfl, w1, e', f', HB.out, HG.out⟩
set_option maxRecDepth 100000 in
set_option maxHeartbeats 1000000 in
theorem drop_no {w : World} {p : Option Addr} {key q : Int} (hq : q < 0) (hf : Calls Try.prog 29 #[.pointer p, .int .i64 key] w fun r w' => r = .returned (.int .i64 q) ∧ Below w.heap.size w w') :
    Calls Try.prog 17 #[.pointer p, .int .i64 key] w fun r w' => r = .returned (.bool false) ∧ Below w.heap.size w w' := by
  have CF := Lib.hid hf
  clear hf
  go_enter Try.func17, Try.ntmps17
  go_wp2_with (go_at_call 29; (refine (CF.out).mono ?_); rintro r w1 ⟨rfl, hb⟩; have HB := Lib.hid hb; clear hb)
  go_ret
  exact ⟨rfl, HB.out⟩

set_option maxRecDepth 100000 in
set_option maxHeartbeats 1000000 in
theorem lower_no {w : World} {p : Option Addr} {key x q : Int} (hq : q < 0) (hf : Calls Try.prog 29 #[.pointer p, .int .i64 key] w fun r w' => r = .returned (.int .i64 q) ∧ Below w.heap.size w w') :
    Calls Try.prog 13 #[.pointer p, .int .i64 key, .int .i64 x] w fun r w' => r = .returned (.bool false) ∧ Below w.heap.size w w' := by
  have CF := Lib.hid hf
  clear hf
  go_enter Try.func13, Try.ntmps13
  go_wp2_with (go_at_call 29; (refine (CF.out).mono ?_); rintro r w1 ⟨rfl, hb⟩; have HB := Lib.hid hb; clear hb)
  go_ret
  exact ⟨rfl, HB.out⟩
set_option maxRecDepth 100000 in
set_option maxHeartbeats 1000000 in
theorem lower_stay {w : World} {sb g cap n N : Nat} {bm : Nat} {e : Nat → Int × Int} {f : Int → Option Int} {key x : Int} {i : Nat} (hk : I64 key) (h : Hm w sb g cap (.map (some bm)) n N e f) (hm : MapIs w bm N f) (hi : i < n) (hf : f key = some (i : Int)) (hn : (n : Int) ≤ 1000000) (hx : (e i).2 ≤ x) :
    Calls Try.prog 13 #[.pointer (some ⟨sb, 0, none⟩), .int .i64 key, .int .i64 x] w fun r w' => r = .returned (.bool false) ∧ Below w.heap.size w w' := by
  have CF := Lib.hid (find_some sb bm N _ f key i hk w h.str hm hf)
  have HH := Lib.hid (fun w1 (hb : Below w.heap.size w w1) => (h.below hb).row.cells hi)
  have HS := Lib.hid (fun w1 (hb : Below w.heap.size w w1) => (h.below hb).str.cells)
  have hi1 : (i : Int) < (n : Int) := by omega
  have hi0 : (0 : Int) ≤ (i : Int) := by omega
  clear h hm hf
  generalize (e i).2 = y at HH hx
  generalize (e i).1 = z at HH
  go_enter Try.func13, Try.ntmps13
  go_wp2_with (go_at_call 29; (refine (CF.out).mono ?_); rintro r w1 ⟨rfl, hb⟩; have HB := Lib.hid hb; clear hb; obtain ⟨c0, c1, c2⟩ := HS.out _ HB.out; obtain ⟨i0, i1⟩ := HH.out _ HB.out)
  go_ret
  exact ⟨rfl, HB.out⟩

theorem Row.set1 {w : World} {g n cap : Nat} {e : Nat → Int × Int} (h : Row w g n cap e) {i : Nat} (hi : i < n) (x : Int) : Row (w.setCell ⟨g, i * 2 + 1, none⟩ (.int .i64 x)) g n cap (upd e i ((e i).1, x)) := by
  obtain ⟨h1, h2, cur, h3, h4, h5⟩ := h
  refine ⟨h1, h2, cur.setIfInBounds (i * 2 + 1) (.int .i64 x), blk_set h3 _, by simp [h4], fun k hk => ?_⟩
  have hs : i * 2 + 1 < cur.size := by omega
  unfold upd
  by_cases q : k = i
  · subst q
    have := h5 k hk
    simp only [Array.getElem?_setIfInBounds]
    rw [if_neg (by omega)]
    simp [hs]
    simpa using this.1
  · rw [if_neg q]
    have := h5 k hk
    simp only [Array.getElem?_setIfInBounds]
    rw [if_neg (by omega), if_neg (by omega)]
    exact this

/-- One number lowered, ahead of the way up. -/
theorem lower_hm {w w1 : World} {sb g cap n N : Nat} {mv : Value} {e : Nat → Int × Int} {f : Int → Option Int} {i : Nat} {x : Int} (h : Hm w sb g cap mv n N e f) (hi : i < n) (hx : I64 x) (hb : Below w.heap.size w w1) :
    Hm (w1.setCell ⟨g, i * 2 + 1, none⟩ (.int .i64 x)) sb g cap mv n N (upd e i ((e i).1, x)) f ∧ Turn (Two2 g mv) w (w1.setCell ⟨g, i * 2 + 1, none⟩ (.int .i64 x)) := by
  have h1 := h.below hb
  have hk : ∀ k, (upd e i ((e i).1, x) k).1 = (e k).1 := by
    intro k
    unfold upd
    split
    · rename_i q; rw [q]
    · rfl
  obtain ⟨_, _, cur, hg, _⟩ := h1.row
  have ht : Turn (fun k => k = g) w1 (w1.setCell ⟨g, i * 2 + 1, none⟩ (.int .i64 x)) := Turn.setCell (S := fun k => k = g) (Turn.refl _ _) (p := ⟨g, i * 2 + 1, none⟩) (fun _ => rfl) _
  refine ⟨⟨h1.str.far (a := ⟨g, i * 2 + 1, none⟩) h1.ne _, h1.row.set1 hi x, h1.map.kept ht (fun k hk q => h1.map_ne.2 (q ▸ hk)), fun k y => ?_, fun a b ha hb hab => h.once a b ha hb (by rw [← hk a, ← hk b]; exact hab), fun k hkn => ?_⟩, (Turn.of_below hb).then (ht.mono fun k _ q => .inl q)⟩
  · rw [h.loc k y]
    constructor
    · rintro ⟨j, hj, h1, h2⟩; exact ⟨j, hj, by rw [hk, h1], h2⟩
    · rintro ⟨j, hj, h1, h2⟩; exact ⟨j, hj, by rw [← hk, h1], h2⟩
  · refine ⟨by rw [hk]; exact (h.wf k hkn).1, ?_⟩
    unfold upd; split
    · exact hx
    · exact (h.wf k hkn).2

set_option maxRecDepth 100000 in
set_option maxHeartbeats 2000000 in
theorem lower_go {w : World} {sb g cap n N : Nat} {bm : Nat} {e : Nat → Int × Int} {f : Int → Option Int} {key x : Int} {i : Nat} (hk : I64 key) (hxw : I64 x) (h : Hm w sb g cap (.map (some bm)) n N e f) (hm : MapIs w bm N f) (hi : i < n) (hf : f key = some (i : Int)) (hn : (n : Int) ≤ 1000000) (hN : N < maxLen) (hx : x < (e i).2) :
    Calls Try.prog 13 #[.pointer (some ⟨sb, 0, none⟩), .int .i64 key, .int .i64 x] w fun r w' => r = .returned (.bool true) ∧ ∃ w1 e' f', Turn (Two2 g (.map (some bm))) w w1 ∧ UpDone w1 sb g cap (.map (some bm)) n N (upd e i ((e i).1, x)) i w' e' f' := by
  have CF := Lib.hid (find_some sb bm N _ f key i hk w h.str hm hf)
  have HH := Lib.hid (fun w1 (hb : Below w.heap.size w w1) => (h.below hb).row.cells hi)
  have HS := Lib.hid (fun w1 (hb : Below w.heap.size w w1) => (h.below hb).str.cells)
  have HF := Lib.hid (fun w1 (hb : Below w.heap.size w w1) => (h.below hb).row.free (i * 2 + 1))
  have HL := Lib.hid (fun w1 (hb : Below w.heap.size w w1) => lower_hm (w1 := w1) (x := x) h hi hxw hb)
  have CU := Lib.hid (fun v (q : Hm v sb g cap (.map (some bm)) n N (upd e i ((e i).1, x)) f) => up_any sb g n cap N _ _ f i hi (by omega) hN v q)
  have hi1 : (i : Int) < (n : Int) := by omega
  have hi0 : (0 : Int) ≤ (i : Int) := by omega
  clear h hm hf
  generalize upd e i ((e i).1, x) = e1 at HL CU ⊢
  generalize (e i).2 = y at HH hx
  generalize (e i).1 = z at HH
  have hx2 : ¬ y ≤ x := by omega
  go_enter Try.func13, Try.ntmps13
  go_upto_region 5 with (go_at_call 29; (refine (CF.out).mono ?_); rintro r w1 ⟨rfl, hb⟩; have HB := Lib.hid hb; clear hb; obtain ⟨c0, c1, c2⟩ := HS.out _ HB.out; obtain ⟨i0, i1⟩ := HH.out _ HB.out; have z1 := HF.out _ HB.out)
  refine gen_world (fun v => Hm v sb g cap (.map (some bm)) n N e1 f ∧ Turn (Two2 g (.map (some bm))) w v) (HL.out _ HB.out) ?_
  intro v ⟨hv1, hv2⟩
  have C1 := Lib.hid (CU.out v hv1)
  have HT := Lib.hid hv2
  clear hv1 hv2 c0 c1 c2 i0 i1 z1 CF HH HS HF HL CU hx hx2
  go_wp2_with (go_at_call 30; (refine (C1.out).mono ?_); rintro r w2 ⟨rfl, e', f', hu⟩; have HU := Lib.hid hu; clear hu)
  go_ret
  exact ⟨rfl, v, e', f', HT.out, HU.out⟩

end Go.Proofs.Ytbmmigaabhnnfaa
