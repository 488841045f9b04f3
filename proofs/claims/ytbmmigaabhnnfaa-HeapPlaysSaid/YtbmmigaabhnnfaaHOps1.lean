/-
  What a heap is to its callers; the walks over a new one, how many keys, the first one, a key's number.
-/
import Derived.Test.YtbmmigaabhnnfaaHWalk5
namespace Go.Proofs.Ytbmmigaabhnnfaa
open Go.RowKit Go.Maps
attribute [local go_sem] map_ne_nil map_ne_some fn_eq_nil fn_eq_less

/-- A row that may have no block yet. -/
def RowV (w : World) (v : Value) (n : Nat) (e : Nat → Int × Int) : Prop := (v = .slice none 0 0 ∧ n = 0) ∨ ∃ g cap, v = .slice (some ⟨g, 0, none⟩) n cap ∧ Row w g n cap e
/-- What the row holds: keys and their numbers. -/
def Content (n : Nat) (e : Nat → Int × Int) (c : Int → Option Int) : Prop := ∀ k x, c k = some x ↔ ∃ i, i < n ∧ e i = (k, x)

/-- A heap of n keys, in order: c tells each one's number; A its own blocks. -/
structure Hv (w : World) (sb : Nat) (v mv : Value) (n N : Nat) (e : Nat → Int × Int) (f : Int → Option Int) (c : Int → Option Int) : Prop where
  str : Str w sb v mv
  row : RowV w v n e
  map : MapV w mv N f
  loc : Places n e f
  once : Once n e
  wf : ∀ i, i < n → I64 (e i).1 ∧ I64 (e i).2
  ord : Ord n e
  con : Content n e c
structure Hp (w : World) (sb : Nat) (mv : Value) (A : Nat → Prop) (n N : Nat) (c : Int → Option Int) : Prop where
  ex : ∃ v e f, Hv w sb v mv n N e f c ∧ ∀ k, A k ↔ Own sb v mv k
/-- What a call has made of a heap. -/
def Step (w : World) (sb : Nat) (mv : Value) (A : Nat → Prop) (n N : Nat) (c : Int → Option Int) (w' : World) : Prop :=
  ∃ A', Hp w' sb mv A' n N c ∧ Turn A w w' ∧ ∀ k, A' k → A k ∨ w.heap.size ≤ k

theorem RowV.slice {w : World} {v : Value} {n : Nat} {e : Nat → Int × Int} (h : RowV w v n e) : ∃ a cap, v = .slice a n cap := by
  rcases h with ⟨h1, h2⟩ | ⟨g, cap, h1, _⟩
  · exact ⟨none, 0, by rw [h1, h2]⟩
  · exact ⟨_, cap, h1⟩
theorem RowV.kept {S : Nat → Prop} {w w' : World} {v : Value} {n : Nat} {e : Nat → Int × Int} (h : RowV w v n e) (ht : Turn S w w') (hn : ∀ k, v.ownBlock = some k → ¬ S k) : RowV w' v n e := by
  rcases h with h | ⟨g, cap, rfl, hr⟩
  · exact .inl h
  · exact .inr ⟨g, cap, rfl, hr.kept ht (hn g rfl)⟩
theorem Hv.kept {S : Nat → Prop} {w w' : World} {sb : Nat} {v mv : Value} {n N : Nat} {e : Nat → Int × Int} {f c : Int → Option Int} (h : Hv w sb v mv n N e f c) (ht : Turn S w w') (hn : ∀ k, Own sb v mv k → ¬ S k) : Hv w' sb v mv n N e f c :=
  ⟨h.str.kept ht (hn _ (.inl rfl)), h.row.kept ht (fun k hk => hn k (.inr (.inl hk))), h.map.kept ht (fun k hk => hn k (.inr (.inr hk))), h.loc, h.once, h.wf, h.ord, h.con⟩
theorem Hp.kept {S : Nat → Prop} {w w' : World} {sb : Nat} {mv : Value} {A : Nat → Prop} {n N : Nat} {c : Int → Option Int} (h : Hp w sb mv A n N c) (ht : Turn S w w') (hn : ∀ k, A k → ¬ S k) : Hp w' sb mv A n N c := by
  obtain ⟨v, e, f, h, ha⟩ := h.ex
  exact ⟨v, e, f, h.kept ht (fun k hk => hn k ((ha k).2 hk)), ha⟩
theorem Hp.below {w w' : World} {sb : Nat} {mv : Value} {A : Nat → Prop} {n N : Nat} {c : Int → Option Int} (h : Hp w sb mv A n N c) (hb : Below w.heap.size w w') : Hp w' sb mv A n N c :=
  h.kept (Turn.of_below (S := fun _ => False) hb) (fun _ _ h => h)
theorem Step.same {w w' : World} {sb : Nat} {mv : Value} {A : Nat → Prop} {n N : Nat} {c : Int → Option Int} (h : Hp w sb mv A n N c) (hb : Below w.heap.size w w') : Step w sb mv A n N c w' :=
  ⟨A, h.below hb, Turn.of_below hb, fun _ h => .inl h⟩
theorem Step.trans {w w1 w2 : World} {sb : Nat} {mv : Value} {A A1 : Nat → Prop} {n N : Nat} {c : Int → Option Int} (h1 : Turn A w w1) (ha : ∀ k, A1 k → A k ∨ w.heap.size ≤ k) (h2 : Step w1 sb mv A1 n N c w2) : Step w sb mv A n N c w2 := by
  obtain ⟨A2, h3, h4, h5⟩ := h2
  refine ⟨A2, h3, h1.trans h4 (fun i hi q => (ha i q).resolve_right (by omega)), fun k hk => ?_⟩
  rcases h5 k hk with q | q
  · exact ha k q
  · exact .inr (Nat.le_trans h1.size q)

theorem Own.lt {w : World} {sb : Nat} {v mv : Value} {n N : Nat} {e : Nat → Int × Int} {f c : Int → Option Int} (h : Hv w sb v mv n N e f c) {k : Nat} (hk : Own sb v mv k) : k < w.heap.size := by
  rcases hk with rfl | hk | hk
  · exact h.str.lt
  · rcases h.row with ⟨rfl, _⟩ | ⟨g, cap, rfl, hr⟩
    · simp [Value.ownBlock] at hk
    · simp [Value.ownBlock] at hk; subst hk; exact hr.lt
  · rcases h.map with rfl | ⟨bm, rfl, hm⟩
    · simp [mBlock] at hk
    · simp [mBlock] at hk; subst hk; exact hm.lt
theorem Hp.lt {w : World} {sb : Nat} {mv : Value} {A : Nat → Prop} {n N : Nat} {c : Int → Option Int} (h : Hp w sb mv A n N c) {k : Nat} (hk : A k) : k < w.heap.size := by
  obtain ⟨v, e, f, h, ha⟩ := h.ex
  exact Own.lt h ((ha k).1 hk)

theorem Hv.hm {w : World} {sb : Nat} {v mv : Value} {n N : Nat} {e : Nat → Int × Int} {f c : Int → Option Int} (h : Hv w sb v mv n N e f c) (hn : 0 < n) : ∃ g cap, v = .slice (some ⟨g, 0, none⟩) n cap ∧ Hm w sb g cap mv n N e f := by
  rcases h.row with ⟨_, h0⟩ | ⟨g, cap, rfl, hr⟩
  · omega
  · exact ⟨g, cap, rfl, h.str, hr, h.map, h.loc, h.once, h.wf⟩
theorem Hm.hv {w : World} {sb g cap : Nat} {mv : Value} {n N : Nat} {e : Nat → Int × Int} {f c : Int → Option Int} (h : Hm w sb g cap mv n N e f) (ho : Ord n e) (hc : Content n e c) : Hv w sb (.slice (some ⟨g, 0, none⟩) n cap) mv n N e f c :=
  ⟨h.str, .inr ⟨g, cap, rfl, h.row⟩, h.map, h.loc, h.once, h.wf, ho, hc⟩
theorem own_two {sb g cap n : Nat} {mv : Value} {k : Nat} : Own sb (.slice (some ⟨g, 0, none⟩) n cap) mv k ↔ k = sb ∨ Two2 g mv k := by
  unfold Own Two2
  simp [Value.ownBlock, eq_comm]

theorem new_map (w : World) : MapIs (w.alloc (.map #[] 0)) w.heap.size 0 (fun _ => none) := ⟨.map [], World.ownsMap_made w _ _ _, fun _ => ⟨rfl, rfl⟩⟩

set_option maxHeartbeats 1000000 in
theorem new_any (w : World) : Calls Try.prog 10 #[lessV] w fun r w' => ∃ sb mv A, r = .returned (.pointer (some ⟨sb, 0, none⟩)) ∧ Hp w' sb mv A 0 0 (fun _ => none) ∧ mv ≠ .map none ∧ Below w.heap.size w w' ∧ ∀ k, A k → w.heap.size ≤ k := by
  have hmm := @run_makeMap Try.prog
  unfold lessV
  go_enter Try.func10, Try.ntmps10
  go_wp2
  go_ret
  refine ⟨w.heap.size + 1, .map (some w.heap.size), Own (w.heap.size + 1) (.slice none 0 0) (.map (some w.heap.size)), rfl, ⟨_, fun _ => (0, 0), fun _ => none, ⟨?_, .inl ⟨rfl, rfl⟩, .inr ⟨_, rfl, (new_map w).kept (Turn.of_below (S := fun _ => False) ((Below.refl _ _).alloc (Nat.le_refl _) _)) (fun h => h)⟩, ?_, ?_, ?_, ?_, ?_⟩, fun _ => Iff.rfl⟩, by simp, ((Below.refl _ _).alloc (Nat.le_refl _) _).alloc (by simp) _, ?_⟩
  · have := heap_alloc_new (w.alloc (.map #[] 0)) (.cells #[lessV, .slice none 0 0, .map (some w.heap.size)] 61)
    rwa [World.size_alloc] at this
  · intro k x; simp
  · intro i j hi; omega
  · intro i hi; omega
  · intro j _ hj; omega
  · intro k x; simp
  · intro k hk
    rcases hk with rfl | hk | hk
    · omega
    · simp [Value.ownBlock] at hk
    · simp [mBlock] at hk; omega
set_option maxHeartbeats 1000000 in
theorem new_none (w : World) : Calls Try.prog 10 #[.nilFunc] w fun r w' => r = .returned (.pointer none) ∧ w = w' := by
  go_enter Try.func10, Try.ntmps10
  go_wp2
  go_ret
  exact ⟨rfl, rfl⟩

set_option maxHeartbeats 1000000 in
theorem len_core (sb n cap : Nat) (a : Option Addr) (mv : Value) (w : World) (h : Str w sb (.slice a n cap) mv) : Calls Try.prog 28 #[.pointer (some ⟨sb, 0, none⟩)] w fun r w' => r = .returned (.int .i64 (n : Int)) ∧ w = w' := by
  obtain ⟨c0, c1, c2⟩ := h.cells
  clear h
  go_enter Try.func28, Try.ntmps28
  go_wp2
  go_ret
  exact ⟨rfl, rfl⟩
theorem len_hv {w : World} {sb : Nat} {v mv : Value} {n N : Nat} {e : Nat → Int × Int} {f c : Int → Option Int} (h : Hv w sb v mv n N e f c) : Calls Try.prog 28 #[.pointer (some ⟨sb, 0, none⟩)] w fun r w' => r = .returned (.int .i64 (n : Int)) ∧ w = w' := by
  obtain ⟨a, cap, rfl⟩ := h.row.slice
  exact len_core sb n cap a mv w h.str
theorem len_any {w : World} {sb : Nat} {mv : Value} {A : Nat → Prop} {n N : Nat} {c : Int → Option Int} (h : Hp w sb mv A n N c) : Calls Try.prog 28 #[.pointer (some ⟨sb, 0, none⟩)] w fun r w' => r = .returned (.int .i64 (n : Int)) ∧ w = w' := by
  obtain ⟨v, e, f, h, _⟩ := h.ex
  exact len_hv h
set_option maxHeartbeats 1000000 in
theorem len_nil (w : World) : Calls Try.prog 28 #[.pointer none] w fun r w' => r = .returned (.int .i64 0) ∧ w = w' := by
  go_enter Try.func28, Try.ntmps28
  go_wp2
  go_ret
  exact ⟨rfl, rfl⟩

set_option maxRecDepth 100000 in
set_option maxHeartbeats 1000000 in
theorem min_some (sb g cap n : Nat) (mv : Value) (e : Nat → Int × Int) (hn : 0 < n) (w : World) (hs : Str w sb (.slice (some ⟨g, 0, none⟩) n cap) mv) (hr : Row w g n cap e) :
    Calls Try.prog 23 #[.pointer (some ⟨sb, 0, none⟩)] w fun r w' => r = .returned (.tuple #[.int .i64 (e 0).1, .int .i64 (e 0).2, .bool true]) ∧ Below w.heap.size w w' := by
  have CL := Lib.hid (fun w' (hb : Below w.heap.size w w') => len_core sb n cap (some ⟨g, 0, none⟩) mv w' (hs.kept (Turn.of_below (S := fun _ => False) hb) (fun h => h)))
  obtain ⟨c0, c1, c2⟩ := hs.cells
  obtain ⟨i0, i1⟩ := hr.cells hn
  rw [Nat.zero_mul] at i0 i1
  have hsl := hs.lt
  have hgl := hr.lt
  have hn1 : (0 : Int) < (n : Int) := by omega
  clear hs hr
  generalize e 0 = x at i0 i1 ⊢
  obtain ⟨xk, xn⟩ := x
  simp only at i0 i1 ⊢
  go_enter Try.func23, Try.ntmps23
  go_wp2_with (go_at_call 28; (refine (CL.out _ ((Below.refl _ _).alloc (Nat.le_refl _) _)).mono ?_); rintro r w1 ⟨rfl, rfl⟩)
  go_region
  all_goals
    go_wp2
    go_ret3
    exact ⟨rfl, below_draws ((Below.refl _ _).alloc (Nat.le_refl _) _) rfl rfl rfl rfl⟩

set_option maxRecDepth 100000 in
set_option maxHeartbeats 1000000 in
theorem min_none (sb cap : Nat) (a : Option Addr) (mv : Value) (w : World) (hs : Str w sb (.slice a 0 cap) mv) :
    Calls Try.prog 23 #[.pointer (some ⟨sb, 0, none⟩)] w fun r w' => r = .returned (.tuple #[.int .i64 0, .int .i64 0, .bool false]) ∧ Below w.heap.size w w' := by
  have CL := Lib.hid (fun w' (hb : Below w.heap.size w w') => len_core sb 0 cap a mv w' (hs.kept (Turn.of_below (S := fun _ => False) hb) (fun h => h)))
  clear hs
  go_enter Try.func23, Try.ntmps23
  go_wp2_with (go_at_call 28; (refine (CL.out _ ((Below.refl _ _).alloc (Nat.le_refl _) _)).mono ?_); rintro r w1 ⟨rfl, rfl⟩)
  go_region
  all_goals
    go_wp2
    go_ret3
    exact ⟨rfl, below_draws ((Below.refl _ _).alloc (Nat.le_refl _) _) rfl rfl rfl rfl⟩

set_option maxRecDepth 100000 in
set_option maxHeartbeats 1000000 in
theorem min_nil (w : World) : Calls Try.prog 23 #[.pointer none] w fun r w' => r = .returned (.tuple #[.int .i64 0, .int .i64 0, .bool false]) ∧ Below w.heap.size w w' := by
  have CL := Lib.hid (fun w => len_nil w)
  go_enter Try.func23, Try.ntmps23
  go_wp2_with (go_at_call 28; (refine (CL.out _).mono ?_); rintro r w1 ⟨rfl, rfl⟩)
  go_region
  all_goals
    go_wp2
    go_ret3
    exact ⟨rfl, below_draws ((Below.refl _ _).alloc (Nat.le_refl _) _) rfl rfl rfl rfl⟩

set_option maxRecDepth 100000 in
set_option maxHeartbeats 1000000 in
theorem take_core (sb g m cap N : Nat) (mv : Value) (e : Nat → Int × Int) (f : Int → Option Int) (hn : (m : Int) + 1 ≤ 1000000) (hN : N < maxLen) (w : World) (h : Hm w sb g cap mv (m + 1) N e f) :
    Calls Try.prog 15 #[.pointer (some ⟨sb, 0, none⟩)] w fun r w' => r = .returned (.tuple #[.int .i64 (e 0).1, .int .i64 (e 0).2, .bool true]) ∧ ∃ w1 e' f', Below w.heap.size w w1 ∧ Gone w1 sb g cap mv m N e 0 w' e' f' := by
  have CM := Lib.hid (min_some sb g cap (m + 1) mv e (by omega) w h.str h.row)
  have CR := Lib.hid (fun w1 (hb : Below w.heap.size w w1) => remove_any sb g m cap N mv e f 0 (by omega) hn hN w1 (h.below hb))
  clear h
  go_enter Try.func15, Try.ntmps15
  go_wp2_with (first | (go_at_call 23; (refine (CM.out).mono ?_); rintro r w1 ⟨rfl, hb⟩; have HB := Lib.hid hb; clear hb) | (go_at_call 32; (refine (CR.out _ HB.out).mono ?_); rintro r w2 ⟨rfl, e', f', hg⟩; have HG := Lib.hid hg; clear hg))
  go_ret3
  exact ⟨rfl, w1, e', f', HB.out, HG.out⟩
set_option maxRecDepth 100000 in
set_option maxHeartbeats 1000000 in
theorem take_none {w : World} {p : Option Addr} (hm : Calls Try.prog 23 #[.pointer p] w fun r w' => r = .returned (.tuple #[.int .i64 0, .int .i64 0, .bool false]) ∧ Below w.heap.size w w') :
    Calls Try.prog 15 #[.pointer p] w fun r w' => r = .returned (.tuple #[.int .i64 0, .int .i64 0, .bool false]) ∧ Below w.heap.size w w' := by
  have CM := Lib.hid hm
  clear hm
  go_enter Try.func15, Try.ntmps15
  go_wp2_with (go_at_call 23; (refine (CM.out).mono ?_); rintro r w1 ⟨rfl, hb⟩; have HB := Lib.hid hb; clear hb)
  go_ret3
  exact ⟨rfl, HB.out⟩

/-- The one ahead of all others. -/
def First (c : Int → Option Int) (k x : Int) : Prop := c k = some x ∧ ∀ k' x', c k' = some x' → lt2 (k', x') (k, x) = false
def cput (c : Int → Option Int) (k x : Int) (y : Int) : Option Int := if y = k then some x else c y
def cdel (c : Int → Option Int) (k : Int) (y : Int) : Option Int := if y = k then none else c y

theorem con_first {n : Nat} {e : Nat → Int × Int} {c : Int → Option Int} (hc : Content n e c) (ho : Ord n e) (hn : 0 < n) : First c (e 0).1 (e 0).2 := by
  refine ⟨(hc _ _).2 ⟨0, hn, rfl⟩, fun k x h => ?_⟩
  obtain ⟨i, hi, he⟩ := (hc k x).1 h
  have := ord_first ho i hi
  rw [he] at this
  exact this
theorem con_del {m : Nat} {e e' : Nat → Int × Int} {c : Int → Option Int} {i : Nat} (hc : Content (m + 1) e c) (ho : Once (m + 1) e) (hi : i < m + 1) (hr : ∀ x, (∃ k, k < m ∧ e' k = x) ↔ ∃ k, k < m + 1 ∧ k ≠ i ∧ e k = x) : Content m e' (cdel c (e i).1) := by
  intro k x
  rw [hr]
  unfold cdel
  by_cases q : k = (e i).1
  · rw [if_pos q]
    constructor
    · intro h; cases h
    · rintro ⟨j, hj, hne, he⟩
      exact absurd (ho j i hj hi (by rw [he]; exact q)) hne
  · rw [if_neg q, hc k x]
    constructor
    · rintro ⟨j, hj, he⟩
      exact ⟨j, hj, by rintro rfl; exact q (by rw [he]), he⟩
    · rintro ⟨j, hj, _, he⟩
      exact ⟨j, hj, he⟩

theorem gone_step {w w1 w2 : World} {sb g cap m N : Nat} {mv : Value} {e e' : Nat → Int × Int} {f f' c : Int → Option Int} {A : Nat → Prop} {i : Nat} (h : Hv w sb (.slice (some ⟨g, 0, none⟩) (m + 1) cap) mv (m + 1) N e f c) (ha : ∀ k, A k ↔ Own sb (.slice (some ⟨g, 0, none⟩) (m + 1) cap) mv k)
    (hi : i < m + 1) (hb : Below w.heap.size w w1) (hg : Gone w1 sb g cap mv m N e i w2 e' f') : Step w sb mv A m N (cdel c (e i).1) w2 := by
  refine ⟨Own sb (.slice (some ⟨g, 0, none⟩) m cap) mv, ⟨_, e', f', hg.hm.hv (hg.ord h.ord) (con_del h.con h.once hi hg.rest), fun _ => Iff.rfl⟩, ?_, fun k hk => .inl ?_⟩
  · exact ((Turn.of_below (S := A) hb).then (hg.turn.mono fun k _ q => (ha k).2 (own_two.2 q)))
  · rw [ha, own_two]; exact own_two.1 hk

theorem take_any {w : World} {sb : Nat} {mv : Value} {A : Nat → Prop} {m N : Nat} {c : Int → Option Int} (hn : (m : Int) + 1 ≤ 1000000) (hN : N < maxLen) (h : Hp w sb mv A (m + 1) N c) :
    Calls Try.prog 15 #[.pointer (some ⟨sb, 0, none⟩)] w fun r w' => ∃ k x, r = .returned (.tuple #[.int .i64 k, .int .i64 x, .bool true]) ∧ First c k x ∧ Step w sb mv A m N (cdel c k) w' := by
  obtain ⟨v, e, f, hv, ha⟩ := h.ex
  obtain ⟨g, cap, rfl, hm⟩ := hv.hm (by omega)
  exact (take_core sb g m cap N mv e f hn hN w hm).mono fun r w' ⟨h1, w1, e', f', hb, hg⟩ => ⟨_, _, h1, con_first hv.con hv.ord (by omega), gone_step hv ha (by omega) hb hg⟩
theorem take_empty {w : World} {sb : Nat} {mv : Value} {A : Nat → Prop} {N : Nat} {c : Int → Option Int} (h : Hp w sb mv A 0 N c) :
    Calls Try.prog 15 #[.pointer (some ⟨sb, 0, none⟩)] w fun r w' => r = .returned (.tuple #[.int .i64 0, .int .i64 0, .bool false]) ∧ Below w.heap.size w w' := by
  obtain ⟨v, e, f, hv, ha⟩ := h.ex
  obtain ⟨a, cap, rfl⟩ := hv.row.slice
  exact take_none (min_none sb cap a mv w hv.str)
theorem min_any {w : World} {sb : Nat} {mv : Value} {A : Nat → Prop} {n N : Nat} {c : Int → Option Int} (hn : 0 < n) (h : Hp w sb mv A n N c) :
    Calls Try.prog 23 #[.pointer (some ⟨sb, 0, none⟩)] w fun r w' => ∃ k x, r = .returned (.tuple #[.int .i64 k, .int .i64 x, .bool true]) ∧ First c k x ∧ Below w.heap.size w w' := by
  obtain ⟨v, e, f, hv, ha⟩ := h.ex
  obtain ⟨g, cap, rfl, hm⟩ := hv.hm hn
  exact (min_some sb g cap n mv e hn w hm.str hm.row).mono fun r w' ⟨h1, hb⟩ => ⟨_, _, h1, con_first hv.con hv.ord hn, hb⟩
theorem min_empty {w : World} {sb : Nat} {mv : Value} {A : Nat → Prop} {N : Nat} {c : Int → Option Int} (h : Hp w sb mv A 0 N c) :
    Calls Try.prog 23 #[.pointer (some ⟨sb, 0, none⟩)] w fun r w' => r = .returned (.tuple #[.int .i64 0, .int .i64 0, .bool false]) ∧ Below w.heap.size w w' := by
  obtain ⟨v, e, f, hv, ha⟩ := h.ex
  obtain ⟨a, cap, rfl⟩ := hv.row.slice
  exact min_none sb cap a mv w hv.str

end Go.Proofs.Ytbmmigaabhnnfaa
