/-
  The walk over a key put; all calls of a heap, as their callers see them.
-/
import Derived.Test.YtbmmigaabhnnfaaHOps2
namespace Go.Proofs.Ytbmmigaabhnnfaa
open Go.RowKit Go.Maps

theorem infoEnt : (Try.prog.info? 64).map (fun i => (i.zero, i.size, i.bytes)) = some (some (.agg #[.int .i64 0, .int .i64 0]), 2, 16) := by kernel_rfl

theorem two_new_at (w : World) (x y : Value) (t : TypeId) : ∀ j u, [x, y][j]? = some u → (w.alloc (.cells #[x, y] t)).cell? ((⟨w.heap.size, 0, none⟩ : Addr).add j) = some u := by
  intro j u hj
  match j, hj with
  | 0, hj =>
    simp at hj
    subst hj
    simp [Addr.add]
  | 1, hj =>
    simp at hj
    subst hj
    simp [Addr.add]

theorem own_new {g n cap s : Nat} (q : Value.ownBlock (.slice (some ⟨g, 0, none⟩) n cap) = some s) : s ≤ g := by
  have q2 : some g = some s := q
  injection q2 with q3
  exact Nat.le_of_eq q3.symm

/-- A row as the laws of append have it. -/
theorem row_owns {w : World} {v : Value} {n : Nat} {e : Nat → Int × Int} (h : RowV w v n e) : ∃ xs : List Value, w.ownsRow 0 64 2 v n xs ∧ ∀ i, i < n → xs[i * 2]? = some (.int .i64 (e i).1) ∧ xs[i * 2 + 1]? = some (.int .i64 (e i).2) := by
  rcases h with ⟨rfl, rfl⟩ | ⟨g, cap, rfl, h1, h2, cur, h3, h4, h5⟩
  · exact ⟨[], World.ownsRow_nil _ _ _ _, fun i hi => by omega⟩
  · refine ⟨cur.toList.take (n * 2), ⟨by rw [List.length_take, Array.length_toList]; omega, .inr ⟨g, cap, cur, rfl, Nat.zero_le _, h3, h1, h2, h4, rfl⟩⟩, fun i hi => ?_⟩
    have := h5 i hi
    rw [List.getElem?_take_of_lt (by omega), List.getElem?_take_of_lt (by omega)]
    simpa using this
theorem owns_row {w : World} {v : Value} {n : Nat} {e : Nat → Int × Int} {xs : List Value} {k x : Int} (h : w.ownsRow 0 64 2 v (n + 1) (xs ++ [.int .i64 k, .int .i64 x])) (hx : ∀ i, i < n → xs[i * 2]? = some (.int .i64 (e i).1) ∧ xs[i * 2 + 1]? = some (.int .i64 (e i).2)) :
    ∃ g cap, v = .slice (some ⟨g, 0, none⟩) (n + 1) cap ∧ Row w g (n + 1) cap (upd e n (k, x)) := by
  have hl : xs.length = n * 2 := by have := h.1; simp at this; omega
  rcases h.2 with ⟨_, h0⟩ | ⟨g, cap, cur, rfl, _, h3, h1, h2, h4, h5⟩
  · omega
  · refine ⟨g, cap, rfl, h1, h2, cur, h3, h4, fun i hi => ?_⟩
    have e1 : ∀ j, j < (n + 1) * 2 → cur[j]? = (xs ++ [.int .i64 k, .int .i64 x])[j]? := fun j hj => by
      rw [← h5, List.getElem?_take_of_lt hj]; simp
    rw [e1 _ (by omega), e1 _ (by omega)]
    unfold upd
    by_cases q : i = n
    · subst q
      rw [if_pos rfl, List.getElem?_append_right (by omega), List.getElem?_append_right (by omega), hl]
      simp
    · rw [if_neg q, List.getElem?_append_left (by omega), List.getElem?_append_left (by omega)]
      exact hx i (by omega)

/-- Behind the append, ahead of the note. -/
structure PutSt (w : World) (sb g cap : Nat) (mv : Value) (n N : Nat) (e : Nat → Int × Int) (f : Int → Option Int) (v0 : Value) (w' : World) : Prop where
  str : Str w' sb (.slice (some ⟨g, 0, none⟩) n cap) mv
  row : Row w' g n cap e
  map : MapV w' mv N f
  turn : Turn (Own sb v0 mv) w w'
  new : v0.ownBlock = some g ∨ w.heap.size ≤ g

theorem put_st {w w1 w3 : World} {sb g cap N n : Nat} {v mv : Value} {e e' : Nat → Int × Int} {f c : Int → Option Int} {o : Obj} (h : Hv w sb v mv n N e f c) (hb : Below w.heap.size w w1) (hg : (w1.alloc o).grownBy w3 v.ownBlock)
    (hl : v.ownBlock = some g ∨ (w1.alloc o).heap.size ≤ g) (hr : Row w3 g (n + 1) cap e') : PutSt w sb g cap mv (n + 1) N e' f v (w3.setCell ⟨sb, 1, none⟩ (.slice (some ⟨g, 0, none⟩) (n + 1) cap)) ∧ w3.cell? ⟨sb, 1, none⟩ = some v ∧ w3.frozen? ⟨sb, 1, none⟩ = false := by
  have h1 := h.kept (Turn.of_below (S := fun _ => False) (hb.alloc hb.size o)) (fun _ _ q => q)
  have hsv : ¬ v.ownBlock = some sb := by
    intro q
    rcases h1.row with ⟨rfl, _⟩ | ⟨g', cap', rfl, hr'⟩
    · simp [Value.ownBlock] at q
    · simp [Value.ownBlock] at q
      obtain ⟨_, _, cur, hg', _⟩ := hr'
      have := h1.str
      unfold Str at this
      rw [q, this] at hg'
      simp at hg'
  have hmv : ∀ k, mBlock mv = some k → ¬ v.ownBlock = some k := by
    intro k hk q
    rcases h1.row with ⟨rfl, _⟩ | ⟨g', cap', rfl, hr'⟩
    · simp [Value.ownBlock] at q
    · simp [Value.ownBlock] at q
      obtain ⟨_, _, cur, hg', _⟩ := hr'
      exact h1.map.ne_cells hg' (q ▸ hk)
  have ht : Turn (fun k => v.ownBlock = some k) (w1.alloc o) w3 := (Turn.refl _ _).grown hg fun k hk _ => hk
  have hs3 := h1.str.kept ht hsv
  have hm3 := h1.map.kept ht hmv
  have ht3 : Turn (fun k => k = sb) w3 (w3.setCell ⟨sb, 1, none⟩ (.slice (some ⟨g, 0, none⟩) (n + 1) cap)) := Turn.setCell (S := fun k => k = sb) (Turn.refl _ _) (p := ⟨sb, 1, none⟩) (fun _ => rfl) _
  have hsl := h.str.lt
  have hsz := hb.size
  have hgs : g ≠ sb := by
    rintro rfl
    rcases hl with q | q
    · exact hsv q
    · rw [World.size_alloc] at q; omega
  refine ⟨⟨hs3.set _, hr.far (a := ⟨sb, 1, none⟩) hgs _, hm3.kept ht3 (fun k hk q => hm3.ne_cells hs3 (q ▸ hk)), ?_, ?_⟩, hs3.cells.2.1, hs3.free 1⟩
  · have a : Turn (Own sb v mv) w (w1.alloc o) := Turn.of_below (hb.alloc hb.size o)
    exact (a.then (ht.mono fun k _ q => .inr (.inl q))).then (ht3.mono fun k _ q => .inl q)
  · rcases hl with q | q
    · exact .inl q
    · rw [World.size_alloc] at q; exact .inr (by omega)

/-- A key put: the row, the notes, the keys. -/
theorem put_hm {w w1 : World} {sb g cap N n : Nat} {v mv : Value} {e : Nat → Int × Int} {f c : Int → Option Int} {k x : Int} {wp : World} (h : Hv w sb v mv n N e f c) (hk : I64 k) (hx : I64 x) (hf : f k = none) (hp : PutSt w sb g cap mv (n + 1) N (upd e n (k, x)) f v wp)
    (hm : MapV w1 mv (N + 1) (fput f k n)) (ht : Turn (fun j => mBlock mv = some j) wp w1) : Hm w1 sb g cap mv (n + 1) (N + 1) (upd e n (k, x)) (fput f k n) := by
  obtain ⟨_, _, cur, hg, _⟩ := hp.row
  have hne : ∀ i, i < n → (e i).1 ≠ k := fun i hi q => by
    have := (h.loc k (i : Int)).2 ⟨i, hi, q, rfl⟩
    rw [hf] at this; cases this
  have u1 : ∀ i, i < n → upd e n (k, x) i = e i := fun i hi => by unfold upd; rw [if_neg (by omega)]
  have u2 : upd e n (k, x) n = (k, x) := by unfold upd; rw [if_pos rfl]
  refine ⟨hp.str.kept ht (hp.map.ne_cells hp.str), hp.row.kept ht (hp.map.ne_cells hg), hm, fun j y => ?_, fun a b ha hb hab => ?_, fun i hi => ?_⟩
  · unfold fput
    by_cases q : j = k
    · rw [if_pos q]
      constructor
      · intro h; cases h; exact ⟨n, by omega, by rw [u2]; exact q.symm, rfl⟩
      · rintro ⟨i, hi, h1, rfl⟩
        by_cases c : i = n
        · rw [c]
        · rw [u1 i (by omega)] at h1
          exact absurd (h1.trans q) (hne i (by omega))
    · rw [if_neg q, h.loc j y]
      constructor
      · rintro ⟨i, hi, h1, h2⟩; exact ⟨i, by omega, by rw [u1 i hi]; exact h1, h2⟩
      · rintro ⟨i, hi, h1, h2⟩
        by_cases c : i = n
        · rw [c, u2] at h1; exact absurd h1.symm q
        · exact ⟨i, by omega, by rw [← u1 i (by omega)]; exact h1, h2⟩
  · by_cases ca : a = n
    · by_cases cb : b = n
      · omega
      · rw [ca, u2, u1 b (by omega)] at hab; exact absurd hab.symm (hne b (by omega))
    · by_cases cb : b = n
      · rw [cb, u2, u1 a (by omega)] at hab; exact absurd hab (hne a (by omega))
      · rw [u1 a (by omega), u1 b (by omega)] at hab; exact h.once a b (by omega) (by omega) hab
  · by_cases c : i = n
    · rw [c, u2]; exact ⟨hk, hx⟩
    · rw [u1 i (by omega)]; exact h.wf i (by omega)

set_option maxRecDepth 100000 in
set_option maxHeartbeats 1000000 in
theorem put_no {w : World} {p : Option Addr} {key x q : Int} (hq : q ≠ -1) (hf : Calls Try.prog 29 #[.pointer p, .int .i64 key] w fun r w' => r = .returned (.int .i64 q) ∧ Below w.heap.size w w') :
    Calls Try.prog 19 #[.pointer p, .int .i64 key, .int .i64 x] w fun r w' => r = .returned (.bool false) ∧ Below w.heap.size w w' := by
  have CF := Lib.hid hf
  have hq1 : (q != -1) = true := by simpa using hq
  clear hf hq
  go_enter Try.func19, Try.ntmps19
  go_wp2_with (go_at_call 29; (refine (CF.out).mono ?_); rintro r w1 ⟨rfl, hb⟩; have HB := Lib.hid hb; clear hb)
  go_ret
  exact ⟨rfl, HB.out⟩

def PutPost (w : World) (sb : Nat) (mv : Value) (n N : Nat) (v : Value) (e1 : Nat → Int × Int) (r : Ending) (w' : World) : Prop :=
  r = .returned (.bool true) ∧ ∃ w1 g cap e' f', Turn (Own sb v mv) w w1 ∧ (v.ownBlock = some g ∨ w.heap.size ≤ g) ∧ UpDone w1 sb g cap mv (n + 1) (N + 1) e1 n w' e' f'
theorem note_put {w wp : World} {sb g cap N n : Nat} {v mv : Value} {e : Nat → Int × Int} {f : Int → Option Int} {k x : Int} (hk : I64 k) (hn : (n : Int) + 1 ≤ 9223372036854775807) (hN : N < maxLen) (hp : PutSt w sb g cap mv (n + 1) N (upd e n (k, x)) f v wp) :
    Calls Try.prog 33 #[.pointer (some ⟨sb, 0, none⟩), .int .i64 n] wp fun r w' => r = .returned (.tuple #[]) ∧ MapV w' mv (N + 1) (fput f k n) ∧ Turn (fun j => mBlock mv = some j) wp w' := by
  have u2 : (upd e n (k, x) n).1 = k := by unfold upd; rw [if_pos rfl]
  have := note_v sb g (n + 1) cap N (N + 1) mv (upd e n (k, x)) f n (by omega) (by omega) wp hp.str hp.row hp.map hN (by rw [u2]; exact hk) (.inr (Nat.le_refl _))
  rw [u2] at this
  exact this

set_option maxRecDepth 100000 in
set_option maxHeartbeats 800000 in
theorem put_go {w : World} {sb n N bm : Nat} {v : Value} {e : Nat → Int × Int} {f c : Int → Option Int} {k x : Int} (hk : I64 k) (hx : I64 x) (h : Hv w sb v (.map (some bm)) n N e f c) (hm : MapIs w bm N f) (hf : f k = none) (hn : (n : Int) + 1 ≤ 1000000) (hN : N + 1 < maxLen) :
    Calls Try.prog 19 #[.pointer (some ⟨sb, 0, none⟩), .int .i64 k, .int .i64 x] w (PutPost w sb (.map (some bm)) n N v (upd e n (k, x))) := by
  obtain ⟨i0, hi, hz0, hz1, hz2⟩ := info_parts infoEnt
  have CF := Lib.hid (find_none sb bm N v f k hk w h.str hm hf)
  have HS := Lib.hid (fun w1 (hb : Below w.heap.size w w1) => (h.kept (Turn.of_below (S := fun _ => False) hb) (fun _ _ q => q)).str.cells)
  obtain ⟨xs, hown, hxs⟩ := row_owns h.row
  have HO := Lib.hid (fun w1 (hb : Below w.heap.size w w1) => (hown.kept (w' := w1) (row := none) ⟨hb.os, hb.tape, hb.output, hb.size, fun k hk _ => hb.block k hk⟩ (by cases hv : v.ownBlock <;> simp)))
  have HXS := Lib.hid hxs
  have HP := Lib.hid (fun w1 w3 o g cap e' hb hg hl hr => put_st (w1 := w1) (w3 := w3) (o := o) (g := g) (cap := cap) (e' := e') h hb hg hl hr)
  have HM := Lib.hid (fun w1 g cap wp hp hm ht => put_hm (w1 := w1) (g := g) (cap := cap) (wp := wp) h hk hx hf hp hm ht)
  have HSL := Lib.hid h.str.lt
  have q1 : IntKind.i64.wrap (((n + 1 : Nat) : Int) - 1) = (n : Int) := by rw [IntWalk.i64_in _ (by omega)]; omega
  have q2 : ((n + 1 : Nat) : Int) - 1 = (n : Int) := by omega
  clear hown hxs h hm hf
  go_enter Try.func19, Try.ntmps19
  go_upto_region 3 with (go_at_call 29; (refine (CF.out).mono ?_); rintro r w1 ⟨rfl, hb⟩; have HB := Lib.hid hb; clear hb)
  obtain ⟨c0, c1, c2⟩ := HS.out _ HB.out
  go_upto_region 4 with (at_builtin; refine wpList_append_own_at _ rfl _ _ 59 rfl 0 64 i0 _ 2 16 Try.underlying59 hi hz0 hz1 hz2 rfl (by decide) _ _ _ rfl ((HO.out _ HB.out).alloc _) ⟨w1.heap.size, 0, none⟩ 1 1 [.int .i64 k, .int .i64 x] rfl rfl (two_new_at _ _ _ _) (fun u hu => by simp at hu; rcases hu with rfl | rfl <;> rfl) (by unfold maxLen; omega) (by omega) (Nat.zero_le _) ?_; intro v' w3 hown' hgrow _ hloc; obtain ⟨g, cap, rfl, hrow⟩ := owns_row hown' HXS.out; have HPS := Lib.hid (HP.out w1 w3 _ g cap _ HB.out hgrow (hloc.imp (fun q => q.symm) own_new) hrow); obtain ⟨_, s1, s2⟩ := HPS.out; clear hown' hgrow hloc hrow)
  refine gen_world (PutSt w sb g cap (.map (some bm)) (n + 1) N (upd e n (k, x)) f v) HPS.out.1 ?_
  intro wp hp
  have HW := Lib.hid hp
  have C1 := Lib.hid (note_put hk (show (n : Int) + 1 ≤ 9223372036854775807 by omega) (show N < maxLen by omega) hp)
  have CU := Lib.hid (fun wq (q : Hm wq sb g cap (.map (some bm)) (n + 1) (N + 1) (upd e n (k, x)) (fput f k n)) => up_any sb g (n + 1) cap (N + 1) _ _ _ n (by omega) (by omega) hN wq q)
  obtain ⟨c0, c1, c2⟩ := hp.str.cells
  clear hp s1 s2 CF HS HO HXS HP HPS hN
  go_wp2_with (first | (go_at_call 33; (refine (C1.out).mono ?_); rintro r w5 ⟨rfl, hm5, ht5⟩; have HT5 := Lib.hid ht5; have HM5 := Lib.hid (HM.out w5 g cap wp HW.out hm5 ht5); clear hm5 ht5) | (go_at_call 30; (refine (CU.out _ HM5.out).mono ?_); rintro r w6 ⟨rfl, e', f', hu⟩; have HU := Lib.hid hu; clear hu))
  go_ret
  exact ⟨rfl, w5, g, cap, e', f', HW.out.turn.then (HT5.out.mono fun _ _ q => .inr (.inr q)), HW.out.new, HU.out⟩

/-! ### As the callers see them -/
theorem find_hv {w : World} {sb : Nat} {v mv : Value} {n N : Nat} {e : Nat → Int × Int} {f c : Int → Option Int} (h : Hv w sb v mv n N e f c) (hm : mv ≠ .map none) {k : Int} (hk : I64 k) (hf : f k = none) :
    Calls Try.prog 29 #[.pointer (some ⟨sb, 0, none⟩), .int .i64 k] w fun r w' => r = .returned (.int .i64 (-1)) ∧ Below w.heap.size w w' := by
  obtain ⟨bm, rfl, hmm⟩ := mapv_some h.map hm
  exact find_none sb bm N v f k hk w h.str hmm hf

theorem get_any {w : World} {sb : Nat} {mv : Value} {A : Nat → Prop} {n N : Nat} {c : Int → Option Int} (hn : (n : Int) ≤ 1000000) (hmv : mv ≠ .map none) (h : Hp w sb mv A n N c) {k : Int} (hk : I64 k) :
    Calls Try.prog 21 #[.pointer (some ⟨sb, 0, none⟩), .int .i64 k] w fun r w' => r = .returned (.tuple #[.int .i64 ((c k).getD 0), .bool (c k).isSome]) ∧ Below w.heap.size w w' := by
  obtain ⟨v, e, f, hv, ha⟩ := h.ex
  rcases find_cases hv.loc hv.con k with ⟨h1, h2⟩ | ⟨j, hj, h1, h2, h3⟩
  · rw [h2]; exact get_no (by omega) (find_hv hv hmv hk h1)
  · obtain ⟨g, cap, rfl, hm⟩ := hv.hm (by omega)
    obtain ⟨bm, rfl, hmm⟩ := mapv_some hv.map hmv
    rw [h3]; exact get_some hk hm hmm hj h1 hn

theorem drop_any {w : World} {sb : Nat} {mv : Value} {A : Nat → Prop} {n N : Nat} {c : Int → Option Int} (hn : (n : Int) ≤ 1000000) (hN : N < maxLen) (hmv : mv ≠ .map none) (h : Hp w sb mv A n N c) {k : Int} (hk : I64 k) :
    Calls Try.prog 17 #[.pointer (some ⟨sb, 0, none⟩), .int .i64 k] w fun r w' => r = .returned (.bool (c k).isSome) ∧ Step w sb mv A (if (c k).isSome then n - 1 else n) N (cdel c k) w' := by
  obtain ⟨v, e, f, hv, ha⟩ := h.ex
  rcases find_cases hv.loc hv.con k with ⟨h1, h2⟩ | ⟨j, hj, h1, h2, h3⟩
  · have hc : cdel c k = c := by
      funext y
      unfold cdel
      split
      · rename_i q; rw [q, h2]
      · rfl
    rw [h2, hc]
    exact (drop_no (by omega) (find_hv hv hmv hk h1)).mono fun _ _ ⟨a, b⟩ => ⟨a, Step.same h b⟩
  · obtain ⟨m, rfl⟩ : ∃ m, n = m + 1 := ⟨n - 1, by omega⟩
    obtain ⟨g, cap, rfl, hm⟩ := hv.hm (by omega)
    obtain ⟨bm, rfl, hmm⟩ := mapv_some hv.map hmv
    rw [h3]
    exact (drop_some hk hm hmm hj h1 (by omega) hN).mono fun r w' ⟨a, w1, e', f', hb, hg⟩ => ⟨a, by have := gone_step hv ha hj hb hg; rw [h2] at this; exact this⟩

theorem con_upd {n : Nat} {e e' : Nat → Int × Int} {c : Int → Option Int} {i : Nat} {x : Int} (hc : Content n e c) (ho : Once n e) (hi : i < n) (hs : Same n (upd e i ((e i).1, x)) e') : Content n e' (cput c (e i).1 x) := by
  intro k y
  rw [← hs.1]
  unfold cput upd
  by_cases q : k = (e i).1
  · rw [if_pos q]
    constructor
    · intro h; cases h; exact ⟨i, hi, by rw [if_pos rfl, q]⟩
    · rintro ⟨j, hj, he⟩
      by_cases c : j = i
      · rw [if_pos c] at he; injection he with h1 h2; rw [h2]
      · rw [if_neg c] at he
        exact absurd (ho j i hj hi (by rw [he]; exact q)) c
  · rw [if_neg q, hc k y]
    constructor
    · rintro ⟨j, hj, he⟩
      refine ⟨j, hj, ?_⟩
      rw [if_neg (by rintro rfl; exact q (by rw [he]))]; exact he
    · rintro ⟨j, hj, he⟩
      by_cases c : j = i
      · rw [if_pos c] at he; injection he with h1 h2; exact absurd h1.symm q
      · rw [if_neg c] at he; exact ⟨j, hj, he⟩

theorem lower_any {w : World} {sb : Nat} {mv : Value} {A : Nat → Prop} {n N : Nat} {c : Int → Option Int} (hn : (n : Int) ≤ 1000000) (hN : N < maxLen) (hmv : mv ≠ .map none) (h : Hp w sb mv A n N c) {k x : Int} (hk : I64 k) (hx : I64 x) :
    (c k = none ∨ (∃ y, c k = some y ∧ y ≤ x)) ∧ Calls Try.prog 13 #[.pointer (some ⟨sb, 0, none⟩), .int .i64 k, .int .i64 x] w (fun r w' => r = .returned (.bool false) ∧ Below w.heap.size w w') ∨
    (∃ y, c k = some y ∧ x < y) ∧ Calls Try.prog 13 #[.pointer (some ⟨sb, 0, none⟩), .int .i64 k, .int .i64 x] w (fun r w' => r = .returned (.bool true) ∧ Step w sb mv A n N (cput c k x) w') := by
  obtain ⟨v, e, f, hv, ha⟩ := h.ex
  rcases find_cases hv.loc hv.con k with ⟨h1, h2⟩ | ⟨j, hj, h1, h2, h3⟩
  · exact .inl ⟨.inl h2, lower_no (by omega) (find_hv hv hmv hk h1)⟩
  · obtain ⟨g, cap, rfl, hm⟩ := hv.hm (by omega)
    obtain ⟨bm, rfl, hmm⟩ := mapv_some hv.map hmv
    by_cases hlt : x < (e j).2
    · refine .inr ⟨⟨_, h3, hlt⟩, (lower_go hk hx hm hmm hj h1 hn hN hlt).mono fun r w' ⟨a, w1, e', f', ht, hu⟩ => ⟨a, ?_⟩⟩
      refine ⟨Own sb (.slice (some ⟨g, 0, none⟩) n cap) (.map (some bm)), ⟨_, e', f', hu.hm.hv (hu.up (low_up hv.ord ?_)) ?_, fun _ => Iff.rfl⟩, ?_, fun q hq => .inl ((ha q).2 hq)⟩
      · rw [lt2_no]; left; exact hlt
      · have := con_upd hv.con hv.once hj hu.same
        rw [h2] at this; exact this
      · exact (ht.mono fun q _ hq => (ha q).2 (own_two.2 (.inr hq))).then (hu.turn.mono fun q _ hq => (ha q).2 (own_two.2 (.inr hq)))
    · exact .inl ⟨.inr ⟨_, h3, by omega⟩, lower_stay hk hm hmm hj h1 hn (by omega)⟩

theorem con_put {n : Nat} {e e' : Nat → Int × Int} {c : Int → Option Int} {k x : Int} (hc : Content n e c) (hk : c k = none) (hs : Same (n + 1) (upd e n (k, x)) e') : Content (n + 1) e' (cput c k x) := by
  intro j y
  rw [← hs.1]
  unfold cput upd
  by_cases q : j = k
  · rw [if_pos q]
    constructor
    · intro h; cases h; exact ⟨n, by omega, by rw [if_pos rfl, q]⟩
    · rintro ⟨i, hi, he⟩
      by_cases c1 : i = n
      · rw [if_pos c1] at he; injection he with h1 h2; rw [h2]
      · rw [if_neg c1] at he
        have := (hc j y).2 ⟨i, by omega, he⟩
        rw [q, hk] at this; cases this
  · rw [if_neg q, hc j y]
    constructor
    · rintro ⟨i, hi, he⟩; exact ⟨i, by omega, by rw [if_neg (by omega)]; exact he⟩
    · rintro ⟨i, hi, he⟩
      by_cases c1 : i = n
      · rw [if_pos c1] at he; injection he with h1 h2; exact absurd h1.symm q
      · rw [if_neg c1] at he; exact ⟨i, by omega, he⟩

theorem put_any {w : World} {sb : Nat} {mv : Value} {A : Nat → Prop} {n N : Nat} {c : Int → Option Int} (hn : (n : Int) + 1 ≤ 1000000) (hN : N + 1 < maxLen) (hmv : mv ≠ .map none) (h : Hp w sb mv A n N c) {k x : Int} (hk : I64 k) (hx : I64 x) (hc : c k = none) :
    Calls Try.prog 19 #[.pointer (some ⟨sb, 0, none⟩), .int .i64 k, .int .i64 x] w fun r w' => r = .returned (.bool true) ∧ Step w sb mv A (n + 1) (N + 1) (cput c k x) w' := by
  obtain ⟨v, e, f, hv, ha⟩ := h.ex
  rcases find_cases hv.loc hv.con k with ⟨h1, h2⟩ | ⟨j, hj, h1, h2, h3⟩
  · obtain ⟨bm, rfl, hmm⟩ := mapv_some hv.map hmv
    refine (put_go hk hx hv hmm h1 hn hN).mono fun r w' ⟨a, w1, g, cap, e', f', ht, hnew, hu⟩ => ⟨a, ?_⟩
    refine ⟨Own sb (.slice (some ⟨g, 0, none⟩) (n + 1) cap) (.map (some bm)), ⟨_, e', f', hu.hm.hv (hu.up (put_up hv.ord (k, x))) (con_put hv.con hc hu.same), fun _ => Iff.rfl⟩, ?_, fun q hq => ?_⟩
    · refine (ht.mono fun q _ hq => (ha q).2 hq).trans hu.turn fun q hql hq => (ha q).2 ?_
      rcases hq with rfl | hq
      · rcases hnew with hnew | hnew
        · exact .inr (.inl hnew)
        · omega
      · exact .inr (.inr hq)
    · rw [ha]
      rcases own_two.1 hq with rfl | rfl | hq
      · exact .inl (.inl rfl)
      · exact hnew.imp (fun z => .inr (.inl z)) id
      · exact .inl (.inr (.inr hq))
  · rw [h3] at hc; cases hc
theorem put_there {w : World} {sb : Nat} {mv : Value} {A : Nat → Prop} {n N : Nat} {c : Int → Option Int} (hmv : mv ≠ .map none) (h : Hp w sb mv A n N c) {k x : Int} (hk : I64 k) (hc : (c k).isSome = true) :
    Calls Try.prog 19 #[.pointer (some ⟨sb, 0, none⟩), .int .i64 k, .int .i64 x] w fun r w' => r = .returned (.bool false) ∧ Below w.heap.size w w' := by
  obtain ⟨v, e, f, hv, ha⟩ := h.ex
  rcases find_cases hv.loc hv.con k with ⟨h1, h2⟩ | ⟨j, hj, h1, h2, h3⟩
  · rw [h2] at hc; cases hc
  · obtain ⟨bm, rfl, hmm⟩ := mapv_some hv.map hmv
    exact put_no (by omega) (find_some sb bm N v f k j hk w hv.str hmm h1)

end Go.Proofs.Ytbmmigaabhnnfaa
