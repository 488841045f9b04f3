/-
  The walk over the exchange of two places.
-/
import Derived.Test.YtbmmigaabhnnfaaHWalk2
import Derived.Deep.CutBlock
import Derived.Deep.CutRange
import Derived.Deep.DeepCutAuto
namespace Go.Proofs.Ytbmmigaabhnnfaa
open Go.RowKit Go.Maps

/-- The map says where each key stands. -/
def Places (n : Nat) (e : Nat → Int × Int) (f : Int → Option Int) : Prop := ∀ k x, f k = some x ↔ ∃ i : Nat, i < n ∧ (e i).1 = k ∧ x = (i : Int)

/-- A heap of n keys, n above 0. -/
structure Hm (w : World) (sb g cap : Nat) (mv : Value) (n N : Nat) (e : Nat → Int × Int) (f : Int → Option Int) : Prop where
  str : Str w sb (.slice (some ⟨g, 0, none⟩) n cap) mv
  row : Row w g n cap e
  map : MapV w mv N f
  loc : Places n e f
  once : Once n e
  wf : ∀ i, i < n → I64 (e i).1 ∧ I64 (e i).2

/-- The blocks of a row and of a map. -/
def Two2 (g : Nat) (mv : Value) (k : Nat) : Prop := k = g ∨ mBlock mv = some k

theorem MapV.kept {S : Nat → Prop} {w w' : World} {mv : Value} {N : Nat} {f : Int → Option Int} (h : MapV w mv N f) (ht : Turn S w w') (hn : ∀ k, mBlock mv = some k → ¬ S k) : MapV w' mv N f := by
  rcases h with h | ⟨bm, rfl, h⟩
  · exact .inl h
  · exact .inr ⟨bm, rfl, h.kept ht (hn bm rfl)⟩
theorem MapV.ext {w : World} {mv : Value} {N : Nat} {f f' : Int → Option Int} (h : MapV w mv N f) (he : ∀ k, f k = f' k) : MapV w mv N f' := by
  rcases h with h | ⟨bm, rfl, h⟩
  · exact .inl h
  · exact .inr ⟨bm, rfl, h.ext he⟩
theorem MapV.ne_cells {w : World} {mv : Value} {N b : Nat} {f : Int → Option Int} {cs : Array Value} {T : TypeId} {fr : Nat × Nat} (h : MapV w mv N f) (hb : w.heap[b]? = some (.cells cs T fr)) : ¬ mBlock mv = some b := by
  rcases h with rfl | ⟨bm, rfl, h⟩
  · simp [mBlock]
  · have := h.ne_cells hb
    simp [mBlock]; exact fun e => this e.symm
theorem Hm.ne {w : World} {sb g cap : Nat} {mv : Value} {n N : Nat} {e : Nat → Int × Int} {f : Int → Option Int} (h : Hm w sb g cap mv n N e f) : sb ≠ g := by
  intro e
  subst e
  have h1 := h.str
  obtain ⟨_, _, cur, h2, _⟩ := h.row
  unfold Str at h1
  rw [h1] at h2
  simp at h2
theorem Hm.map_ne {w : World} {sb g cap : Nat} {mv : Value} {n N : Nat} {e : Nat → Int × Int} {f : Int → Option Int} (h : Hm w sb g cap mv n N e f) : ¬ mBlock mv = some sb ∧ ¬ mBlock mv = some g := by
  obtain ⟨_, _, cur, h2, _⟩ := h.row
  exact ⟨h.map.ne_cells h.str, h.map.ne_cells h2⟩
theorem Hm.kept {S : Nat → Prop} {w w' : World} {sb g cap : Nat} {mv : Value} {n N : Nat} {e : Nat → Int × Int} {f : Int → Option Int} (h : Hm w sb g cap mv n N e f) (ht : Turn S w w') (h1 : ¬ S sb) (h2 : ¬ S g) (h3 : ∀ k, mBlock mv = some k → ¬ S k) : Hm w' sb g cap mv n N e f :=
  ⟨h.str.kept ht h1, h.row.kept ht h2, h.map.kept ht h3, h.loc, h.once, h.wf⟩
theorem Hm.below {w w' : World} {sb g cap : Nat} {mv : Value} {n N : Nat} {e : Nat → Int × Int} {f : Int → Option Int} (h : Hm w sb g cap mv n N e f) (hb : Below w.heap.size w w') : Hm w' sb g cap mv n N e f :=
  h.kept (Turn.of_below (S := fun _ => False) hb) (fun h => h) (fun h => h) (fun _ _ h => h)

theorem note_v (sb g n cap N M : Nat) (mv : Value) (e : Nat → Int × Int) (f : Int → Option Int) (i : Nat) (hi : i < n) (hn : (n : Int) ≤ 9223372036854775807) (w : World) (hs : Str w sb (.slice (some ⟨g, 0, none⟩) n cap) mv) (hr : Row w g n cap e)
    (hm : MapV w mv N f) (hN : N < maxLen) (hk : I64 (e i).1) (hM : (f (e i).1).isSome = true ∧ N ≤ M ∨ N + 1 ≤ M) :
    Calls Try.prog 33 #[.pointer (some ⟨sb, 0, none⟩), .int .i64 i] w fun r w' => r = .returned (.tuple #[]) ∧ MapV w' mv M (fput f (e i).1 i) ∧ Turn (fun k => mBlock mv = some k) w w' := by
  rcases hm with rfl | ⟨bm, rfl, hm⟩
  · exact (note_nil sb g n cap e i hi hn w hs hr).mono fun _ _ ⟨h1, h2⟩ => ⟨h1, .inl rfl, h2 ▸ Turn.refl _ _⟩
  · exact (note_any sb g n cap bm N M e f i hi hn w hs hr hm hN hk hM).mono fun _ _ ⟨h1, h2, h3⟩ => ⟨h1, .inr ⟨bm, rfl, h2⟩, turned_turn h3 fun _ => rfl⟩

theorem places_has {n : Nat} {e : Nat → Int × Int} {f : Int → Option Int} (h : Places n e f) {i : Nat} (hi : i < n) : f (e i).1 = some (i : Int) := (h _ _).2 ⟨i, hi, rfl, rfl⟩
theorem places_sw {n : Nat} {e : Nat → Int × Int} {f : Int → Option Int} (h : Places n e f) (ho : Once n e) {i j : Nat} (hi : i < n) (hj : j < n) : Places n (sw e i j) (fput (fput f (sw e i j i).1 i) (sw e i j j).1 j) := by
  have ho' := (sw_same (e := e) hi hj).2 ho
  intro k x
  unfold fput
  by_cases c1 : k = (sw e i j j).1
  · rw [if_pos c1]
    constructor
    · intro h; cases h; exact ⟨j, hj, c1.symm, rfl⟩
    · rintro ⟨m, hm, h1, rfl⟩
      rw [ho' m j hm hj (by rw [h1, c1])]
  · rw [if_neg c1]
    by_cases c2 : k = (sw e i j i).1
    · rw [if_pos c2]
      constructor
      · intro h; cases h; exact ⟨i, hi, c2.symm, rfl⟩
      · rintro ⟨m, hm, h1, rfl⟩
        rw [ho' m i hm hi (by rw [h1, c2])]
    · rw [if_neg c2, h k x]
      have ei : (sw e i j i).1 = (e j).1 := by simp [sw]
      have ej : (sw e i j j).1 = (e i).1 := by unfold sw; split; · rename_i q; rw [q]
                                               rw [if_pos rfl]
      rw [ei] at c2
      rw [ej] at c1
      constructor
      · rintro ⟨m, hm, h1, rfl⟩
        refine ⟨m, hm, ?_, rfl⟩
        have a1 : m ≠ i := by rintro rfl; exact c1 h1.symm
        have a2 : m ≠ j := by rintro rfl; exact c2 h1.symm
        rw [← h1]; simp [sw, a1, a2]
      · rintro ⟨m, hm, h1, rfl⟩
        refine ⟨m, hm, ?_, rfl⟩
        have a1 : m ≠ i := by rintro rfl; rw [ei] at h1; exact c2 h1.symm
        have a2 : m ≠ j := by rintro rfl; rw [ej] at h1; exact c1 h1.symm
        simp [sw, a1, a2] at h1
        exact h1

theorem sw_row {w : World} {g n cap : Nat} {e : Nat → Int × Int} (hr : Row w g n cap e) {i j : Nat} (hi : i < n) (hj : j < n) : Row (setE (setE w g i (e j)) g j (e i)) g n cap (sw e i j) :=
  ((hr.set hi (e j)).set hj (e i)).congr fun k _ => by
    unfold upd sw
    by_cases c1 : k = j
    · by_cases c2 : k = i
      · rw [if_pos c1, if_pos c2, ← c1, ← c2]
      · rw [if_pos c1, if_neg c2, if_pos c1]
    · rw [if_neg c1]
      by_cases c2 : k = i
      · rw [if_pos c2, if_pos c2]
      · rw [if_neg c2, if_neg c2, if_neg c1]

/-- Behind the exchange, ahead of the notes. -/
structure Mid (w : World) (sb g cap : Nat) (mv : Value) (n N : Nat) (e : Nat → Int × Int) (f : Int → Option Int) (w0 : World) : Prop where
  str : Str w sb (.slice (some ⟨g, 0, none⟩) n cap) mv
  row : Row w g n cap e
  map : MapV w mv N f
  turn : Turn (Two2 g mv) w0 w

theorem mid_sw {w v : World} {sb g cap : Nat} {mv : Value} {n N : Nat} {e : Nat → Int × Int} {f : Int → Option Int} (h : Hm w sb g cap mv n N e f) {i j : Nat} (hi : i < n) (hj : j < n) {x y : Int × Int} (hx : e i = x) (hy : e j = y)
    (hv : v = (setE (setE w g i y) g j x).drew) : Mid v sb g cap mv n N (sw e i j) f w := by
  subst hv hx hy
  have ht : Turn (fun k => k = g) w (setE (setE w g i (e j)) g j (e i)) := Turn.setE (S := fun k => k = g) (g := g) (Turn.setE (S := fun k => k = g) (g := g) (Turn.refl _ w) (fun _ => rfl) i (e j)) (fun _ => rfl) j (e i)
  refine ⟨h.str.kept ht.drew h.ne, sw_row h.row hi hj, h.map.kept ht.drew (fun k hk e => h.map_ne.2 (e ▸ hk)), (ht.mono fun k _ e => .inl e).drew⟩

/-- What a note leaves. -/
def Noted (w : World) (sb g cap : Nat) (mv : Value) (n N : Nat) (e : Nat → Int × Int) (f : Int → Option Int) (r : Ending) (w' : World) : Prop :=
  r = .returned (.tuple #[]) ∧ Mid w' sb g cap mv n N e f w
theorem noted {w v : World} {sb g cap : Nat} {mv : Value} {n N : Nat} {e : Nat → Int × Int} {f : Int → Option Int} (h : Mid v sb g cap mv n N e f w) {i : Nat} (hi : i < n) (hn : (n : Int) ≤ 9223372036854775807) (hN : N < maxLen) (hk : I64 (e i).1) (hf : (f (e i).1).isSome = true) :
    Calls Try.prog 33 #[.pointer (some ⟨sb, 0, none⟩), .int .i64 i] v fun r w' => r = .returned (.tuple #[]) ∧ Mid w' sb g cap mv n N e (fput f (e i).1 i) w :=
  (note_v sb g n cap N N mv e f i hi hn v h.str h.row h.map hN hk (.inl ⟨hf, Nat.le_refl _⟩)).mono fun _ _ ⟨h1, h2, h3⟩ => by
    obtain ⟨_, _, cur, hg, _⟩ := h.row
    exact ⟨h1, h.str.kept h3 (h.map.ne_cells h.str), h.row.kept h3 (h.map.ne_cells hg), h2, h.turn.then (h3.mono fun k _ q => .inr q)⟩

theorem fput_some {f : Int → Option Int} {k v x : Int} (h : (f x).isSome = true) : (fput f k v x).isSome = true := by
  unfold fput; split
  · rfl
  · exact h

set_option maxRecDepth 1000000 in
set_option maxHeartbeats 4000000 in
theorem swap_any (sb g n cap N : Nat) (mv : Value) (e : Nat → Int × Int) (f : Int → Option Int) (i j : Nat) (hi : i < n) (hj : j < n) (hn : (n : Int) ≤ 9223372036854775807) (hN : N < maxLen) (w : World) (h : Hm w sb g cap mv n N e f) :
    Calls Try.prog 38 #[.pointer (some ⟨sb, 0, none⟩), .int .i64 i, .int .i64 j] w fun r w' => r = .returned (.tuple #[]) ∧ Hm w' sb g cap mv n N (sw e i j) (fput (fput f (sw e i j i).1 i) (sw e i j j).1 j) ∧ Turn (Two2 g mv) w w' := by
  obtain ⟨c0, c1, c2⟩ := h.str.cells
  obtain ⟨i0, i1⟩ := h.row.cells hi
  obtain ⟨j0, j1⟩ := h.row.cells hj
  have z0 := h.row.free (i * 2)
  have z1 := h.row.free (i * 2 + 1)
  have z2 := h.row.free (j * 2)
  have z3 := h.row.free (j * 2 + 1)
  have hi1 : (i : Int) < (n : Int) := by omega
  have hj1 : (j : Int) < (n : Int) := by omega
  have hi0 : (0 : Int) ≤ (i : Int) := by omega
  have hj0 : (0 : Int) ≤ (j : Int) := by omega
  have ho := (sw_same (e := e) hi hj).2 h.once
  have hw : ∀ k, k < n → I64 (sw e i j k).1 ∧ I64 (sw e i j k).2 := fun k hk => by
    rw [sw_at]
    refine h.wf _ ?_
    split
    · exact hj
    · split
      · exact hi
      · exact hk
  have E1 : (sw e i j i).1 = (e j).1 := by simp [sw]
  have E2 : (sw e i j j).1 = (e i).1 := by
    unfold sw
    split
    · rename_i q; rw [q]
    · rw [if_pos rfl]
  have FI : (f (sw e i j i).1).isSome = true := by rw [E1, places_has h.loc hj]; rfl
  have FJ : (fput f (sw e i j i).1 i (sw e i j j).1).isSome = true := fput_some (by rw [E2, places_has h.loc hi]; rfl)
  have HP := Lib.hid (places_sw h.loc h.once hi hj)
  have HO := Lib.hid ho
  have HW := Lib.hid hw
  have HS : Hid (∀ v, v = (setE (setE w g i (e j)) g j (e i)).drew → Mid v sb g cap mv n N (sw e i j) f w) := fun v hv => mid_sw h hi hj rfl rfl hv
  have KI : Hid (∀ v, Mid v sb g cap mv n N (sw e i j) f w → _) := fun v (m : Mid v sb g cap mv n N (sw e i j) f w) => noted m hi hn hN (hw i hi).1 FI
  have KJ : Hid (∀ v, Mid v sb g cap mv n N (sw e i j) (fput f (sw e i j i).1 i) w → _) := fun v (m : Mid v sb g cap mv n N (sw e i j) (fput f (sw e i j i).1 i) w) => noted m hj hn hN (hw j hj).1 FJ
  clear h hw ho FI FJ E1 E2
  generalize fput f (sw e i j i).1 i = f1 at KI KJ HP ⊢
  generalize fput f1 (sw e i j j).1 j = f2 at KJ HP ⊢
  generalize sw e i j = e' at KI KJ HP HS HO HW ⊢
  generalize e i = x at i0 i1 HS
  generalize e j = y at j0 j1 HS
  obtain ⟨xk, xn⟩ := x
  obtain ⟨yk, yn⟩ := y
  simp only at i0 i1 j0 j1
  by_cases hij : i = j
  · subst hij
    rw [i0] at j0
    rw [i1] at j1
    simp only [Option.some.injEq, Value.int.injEq, true_and] at j0 j1
    subst j0 j1
    go_enter Try.func38, Try.ntmps38
    go_wp2_with fail
    go_region
    all_goals
      go_upto_region 1 with (fail)
      refine gen_world (fun v => Mid v sb g cap mv n N e' f w) (HS.out _ (by first | rfl | (unfold setE; simp))) ?_
      intro v hm
      have HM := Lib.hid hm
      clear hm HS i0 i1 c0 c1 c2 z0 z1 z2 z3
      go_wp2_with (first | (go_at_call 33; (with_reducible refine (KI.out _ HM.out).mono ?_); rintro e1 w1 ⟨rfl, hm1⟩; have HM1 := Lib.hid hm1; clear hm1 HM) | (go_at_call 33; (with_reducible refine (KJ.out _ HM1.out).mono ?_); rintro e1 w2 ⟨rfl, hm1⟩; have HM2 := Lib.hid hm1; clear hm1))
      go_end0
      exact ⟨rfl, ⟨HM2.out.str, HM2.out.row, HM2.out.map, HP.out, HO.out, HW.out⟩, HM2.out.turn⟩
  · have hij2 : ¬ j = i := fun h => hij h.symm
    go_enter Try.func38, Try.ntmps38
    go_wp2_with fail
    go_region
    all_goals
      go_upto_region 1 with (fail)
      refine gen_world (fun v => Mid v sb g cap mv n N e' f w) (HS.out _ rfl) ?_
      intro v hm
      have HM := Lib.hid hm
      clear hm HS i0 i1 j0 j1 c0 c1 c2 z0 z1 z2 z3
      go_wp2_with (first | (go_at_call 33; (with_reducible refine (KI.out _ HM.out).mono ?_); rintro e1 w1 ⟨rfl, hm1⟩; have HM1 := Lib.hid hm1; clear hm1 HM) | (go_at_call 33; (with_reducible refine (KJ.out _ HM1.out).mono ?_); rintro e1 w2 ⟨rfl, hm1⟩; have HM2 := Lib.hid hm1; clear hm1))
      go_end0
      exact ⟨rfl, ⟨HM2.out.str, HM2.out.row, HM2.out.map, HP.out, HO.out, HW.out⟩, HM2.out.turn⟩

end Go.Proofs.Ytbmmigaabhnnfaa
