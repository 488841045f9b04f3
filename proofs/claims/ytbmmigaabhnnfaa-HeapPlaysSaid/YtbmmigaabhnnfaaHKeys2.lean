/-
  The walk over all keys of a heap that has some.
-/
import Derived.Test.YtbmmigaabhnnfaaHKeys
import Derived.OwnWalk
import Derived.Laws.EntriesVeiled
import Derived.Deep.DeepCutAuto
namespace Go.Proofs.Ytbmmigaabhnnfaa
open Go.RowKit Go.Maps

theorem kept_addr {w w' : World} {a : Addr} {u : Value} (h : w.cell? a = some u) (hb : Below w.heap.size w w') : w'.cell? a = some u := by
  rw [hb.cell (p := a) (block_of_cell h)]; exact h
/-- The cells of a row, as the laws of append take them. -/
theorem row_news {w : World} {g n cap : Nat} {e : Nat → Int × Int} (h : Row w g n cap e) : ∃ xs : List Value, xs.length = n * 2 ∧ (∀ j u, xs[j]? = some u → w.cell? ((⟨g, 0, none⟩ : Addr).add j) = some u) ∧ (∀ u ∈ xs, u.oneCell' = true) ∧ ∀ i, i < n → xs[i * 2]? = some (.int .i64 (e i).1) ∧ xs[i * 2 + 1]? = some (.int .i64 (e i).2) := by
  have hrow : RowV w (.slice (some ⟨g, 0, none⟩) n cap) n e := .inr ⟨g, cap, rfl, h⟩
  obtain ⟨xs, hown, hx⟩ := row_owns hrow
  refine ⟨xs, hown.1, hown.cells rfl, fun u hu => ?_, hx⟩
  obtain ⟨j, hj, rfl⟩ := List.getElem_of_mem hu
  have hl := hown.1
  rcases (show j = (j / 2) * 2 ∨ j = (j / 2) * 2 + 1 by omega) with q | q
  · have := (hx (j / 2) (by omega)).1
    rw [← q, List.getElem?_eq_getElem hj] at this
    rw [Option.some.inj this]; rfl
  · have := (hx (j / 2) (by omega)).2
    rw [← q, List.getElem?_eq_getElem hj] at this
    rw [Option.some.inj this]; rfl
theorem owns_rowV {w : World} {B n : Nat} {v : Value} {e : Nat → Int × Int} {xs : List Value} (h : w.ownsRow B 64 2 v n xs) (hn : 0 < n) (hx : ∀ i, i < n → xs[i * 2]? = some (.int .i64 (e i).1) ∧ xs[i * 2 + 1]? = some (.int .i64 (e i).2)) :
    ∃ g cap, v = .slice (some ⟨g, 0, none⟩) n cap ∧ Row w g n cap e ∧ B ≤ g := by
  rcases h.2 with ⟨_, h0⟩ | ⟨g, cap, cur, rfl, hB, h3, h1, h2, h4, h5⟩
  · omega
  · refine ⟨g, cap, rfl, ⟨h1, h2, cur, h3, h4, fun i hi => ?_⟩, hB⟩
    have e1 : ∀ j, j < n * 2 → cur[j]? = xs[j]? := fun j hj => by
      rw [← h5, List.getElem?_take_of_lt hj]; simp
    rw [e1 _ (by omega), e1 _ (by omega)]
    exact hx i hi

theorem grown_below {w w' : World} (h : w.grownBy w' none) : Below w.heap.size w w' := ⟨h.os, h.tape, h.output, h.size, fun k hk => h.block k hk (by simp)⟩
theorem grown_cells {w w' : World} (h : w.grownBy w' none) : (∀ b o, b < w.heap.size → w'.cell? ⟨b, o, none⟩ = w.cell? ⟨b, o, none⟩) ∧ (∀ b o, b < w.heap.size → w'.frozen? ⟨b, o, none⟩ = w.frozen? ⟨b, o, none⟩) :=
  ⟨fun b o hb => (grown_below h).cell (p := ⟨b, o, none⟩) hb, fun b o hb => (grown_below h).frozen (p := ⟨b, o, none⟩) hb⟩

theorem grown_obj {w w' : World} (h : w.grownBy w' none) {k : Nat} {o : Obj} (ho : w.heap[k]? = some o) : w'.heap[k]? = some o := (h.block k (lt_of_block ho) (by simp)).trans ho
theorem owns_below {w w' : World} {B base : Nat} {e : TypeId} {size n : Nat} {v : Value} {xs : List Value} (h : w.ownsRow base e size v n xs) (hb : Below B w w') (hB : w.heap.size ≤ B) : w'.ownsRow base e size v n xs := by
  refine ⟨h.1, ?_⟩
  rcases h.2 with h | ⟨g, cap, cur, h1, h2, h3, h4⟩
  · exact .inl h
  · have hg : g < w.heap.size := lt_of_block h3
    exact .inr ⟨g, cap, cur, h1, h2, (hb.block g (by omega)).trans h3, h4⟩

/-- The keys' row, and the heap of its own from which they are taken. -/
structure KeySt (W w : World) (r n q : Nat) (kv : Value) (L : List Int) (c0 : Int → Option Int) : Prop where
  low : Below W.heap.size W w
  row : w.ownsRow W.heap.size 3 1 kv q (L.map (Value.int .i64))
  ex : ∃ A c, Hp w r (.map none) A (n - q) n c ∧ DrainsTo c c0 L ∧ (∀ k, A k → W.heap.size ≤ k) ∧ ∀ k, kv.ownBlock = some k → ¬ A k

theorem key_start {w v wx : World} {sb r g g2 n N cap cap2 : Nat} {mv : Value} {e : Nat → Int × Int} {f c : Int → Option Int} (h : Hv w sb (.slice (some ⟨g, 0, none⟩) n cap) mv n N e f c) (hwv : Below w.heap.size w v) (hk : v.ownsRow w.heap.size 3 1 (.slice (some ⟨w.heap.size, 0, none⟩) 0 n) 0 [])
    (hsz : w.heap.size < v.heap.size) (hb : Below v.heap.size v wx) (hs : Str wx r (.slice (some ⟨g2, 0, none⟩) n cap2) (.map none)) (hr : Row wx g2 n cap2 e) (hr1 : v.heap.size ≤ r) (hr2 : v.heap.size ≤ g2) : KeySt w wx r n 0 (.slice (some ⟨w.heap.size, 0, none⟩) 0 n) [] c := by
  refine ⟨hwv.trans (hb.mono hwv.size), owns_below hk hb (Nat.le_refl _), Own r (.slice (some ⟨g2, 0, none⟩) n cap2) (.map none), c, ⟨_, e, f, ⟨hs, .inr ⟨g2, cap2, rfl, hr⟩, .inl rfl, h.loc, h.once, h.wf, h.ord, h.con⟩, fun _ => Iff.rfl⟩, rfl, fun k hk => ?_, fun k hk1 hk2 => ?_⟩
  · rcases own_two.1 hk with q | q | q
    · omega
    · omega
    · simp [mBlock] at q
  · have hk1 : some w.heap.size = some k := hk1
    injection hk1 with hk1
    rcases own_two.1 hk2 with q | q | q
    · omega
    · omega
    · simp [mBlock] at q
theorem key_a {w v w2 : World} {sb g g2 n N cap cap2 : Nat} {mv : Value} {e : Nat → Int × Int} {f c : Int → Option Int} (h : Hv w sb (.slice (some ⟨g, 0, none⟩) n cap) mv n N e f c) (hwv : Below w.heap.size w v) (hk : v.ownsRow w.heap.size 3 1 (.slice (some ⟨w.heap.size, 0, none⟩) 0 n) 0 [])
    (hsz : w.heap.size < v.heap.size) (hb : Below v.heap.size v w2) (hr : Row w2 g2 n cap2 e) (hr2 : v.heap.size ≤ g2) : KeySt w (w2.alloc (.cells #[lessV, .slice (some ⟨g2, 0, none⟩) n cap2, .map none] 61)) w2.heap.size n 0 (.slice (some ⟨w.heap.size, 0, none⟩) 0 n) [] c :=
  key_start h hwv hk hsz (hb.alloc hb.size _) (heap_alloc_new _ _) (hr.kept (Turn.of_below (S := fun _ => False) ((Below.refl _ _).alloc (Nat.le_refl _) _)) (fun q => q)) hb.size hr2
theorem key_b {w v w2 : World} {sb g g2 n N cap cap2 : Nat} {mv : Value} {e : Nat → Int × Int} {f c : Int → Option Int} (h : Hv w sb (.slice (some ⟨g, 0, none⟩) n cap) mv n N e f c) (hwv : Below w.heap.size w v) (hk : v.ownsRow w.heap.size 3 1 (.slice (some ⟨w.heap.size, 0, none⟩) 0 n) 0 [])
    (hsz : w.heap.size < v.heap.size) (hb : Below v.heap.size v w2) (hr : Row w2 g2 n cap2 e) (hr2 : v.heap.size ≤ g2) (ho : w2.heap[v.heap.size]? = some (.cells #[.nilFunc, .slice none 0 0, .map none] 61 (0, 0))) :
    KeySt w (((w2.setCell ⟨v.heap.size, 0, none⟩ lessV).setCell ⟨v.heap.size, 1, none⟩ (.slice (some ⟨g2, 0, none⟩) n cap2)).setCell ⟨v.heap.size, 2, none⟩ (.map none)) v.heap.size n 0 (.slice (some ⟨w.heap.size, 0, none⟩) 0 n) [] c := by
  have hne : g2 ≠ v.heap.size := by
    rintro rfl
    obtain ⟨_, _, cur, hg, _⟩ := hr
    rw [ho] at hg; simp at hg
  exact key_start h hwv hk hsz (((hb.setCell (p := ⟨v.heap.size, 0, none⟩) (Nat.le_refl _) _).setCell (p := ⟨v.heap.size, 1, none⟩) (Nat.le_refl _) _).setCell (p := ⟨v.heap.size, 2, none⟩) (Nat.le_refl _) _)
    ((blk_set (blk_set (blk_set ho lessV) (.slice (some ⟨g2, 0, none⟩) n cap2)) (.map none)).trans rfl) (((hr.far (a := ⟨v.heap.size, 0, none⟩) hne _).far (a := ⟨v.heap.size, 1, none⟩) hne _).far (a := ⟨v.heap.size, 2, none⟩) hne _) (Nat.le_refl _) hr2

/-- One more taken; its key is still to be appended. -/
theorem key_take {W w : World} {r n q : Nat} {kv : Value} {L : List Int} {c0 : Int → Option Int} (h : KeySt W w r n q kv L c0) (hq : q < n) (hn : (n : Int) ≤ 100000) :
    Calls Try.prog 15 #[.pointer (some ⟨r, 0, none⟩)] w fun e w' => ∃ k x, e = .returned (.tuple #[.int .i64 k, .int .i64 x, .bool true]) ∧ w'.ownsRow W.heap.size 3 1 kv q (L.map (Value.int .i64)) ∧ W.heap.size ≤ w'.heap.size ∧
      ∀ w3 kv' o, w3.ownsRow W.heap.size 3 1 kv' (q + 1) (L.map (Value.int .i64) ++ [.int .i64 k]) → (w'.alloc o).grownBy w3 kv.ownBlock → (kv'.ownBlock = kv.ownBlock ∨ kv'.ownBlock = some (w'.alloc o).heap.size) → KeySt W w3 r n (q + 1) kv' (L ++ [k]) c0 := by
  obtain ⟨A, c, h1, h2, h3, h4⟩ := h.ex
  obtain ⟨m, hm⟩ : ∃ m, n - q = m + 1 := ⟨n - q - 1, by omega⟩
  rw [hm] at h1
  refine (take_any (by omega) (by unfold maxLen; omega) h1).mono fun e w' ⟨k, x, a, b, A', d1, d2, d3⟩ => ⟨k, x, a, ?_, Nat.le_trans h.low.size d2.size, fun w3 kv' o o1 o2 o3 => ?_⟩
  · refine ⟨h.row.1, ?_⟩
    rcases h.row.2 with q | ⟨g, cap, cur, e1, e2, e3, e4⟩
    · exact .inl q
    · exact .inr ⟨g, cap, cur, e1, e2, d2.obj e3 (h4 g (by rw [e1]; rfl)), e4⟩
  · have hkA : ∀ k, kv.ownBlock = some k → ¬ A' k := fun k hk q => by
      rcases d3 k q with z | z
      · exact h4 k hk z
      · have := (h.row.lt k hk).2; omega
    have ht : Turn (fun k => kv.ownBlock = some k) (w'.alloc o) w3 := (Turn.refl _ _).grown o2 fun k hk _ => hk
    have hA3 := d1.below ((Below.refl _ _).alloc (Nat.le_refl _) o)
    have e : n - (q + 1) = m := by omega
    refine ⟨?_, by rw [List.map_append]; exact o1, A', cdel c k, by rw [e]; exact hA3.kept ht (fun k hk z => hkA k z hk), drains_snoc b h2, fun k hk => ?_, fun k hk => ?_⟩
    · have hb1 : Below W.heap.size W w' := h.low.trans (d2.below h.low.size h3)
      exact (hb1.alloc hb1.size o).grown o2 (by simp; have := hb1.size; omega) (fun k hk => (h.row.lt k hk).1)
    · rcases d3 k hk with z | z
      · exact h3 k z
      · exact Nat.le_trans h.low.size z
    · rcases o3 with o3 | o3
      · exact hkA k (by rw [← o3]; exact hk)
      · intro z
        rw [o3] at hk
        injection hk with hk
        have := d1.lt z
        rw [World.size_alloc] at hk; omega

theorem key_end {W w : World} {r n : Nat} {kv : Value} {L : List Int} {c0 : Int → Option Int} (h : KeySt W w r n n kv L c0) : ∃ c', DrainsTo c' c0 L ∧ ∀ k, c' k = none := by
  obtain ⟨A, c, h1, h2, _⟩ := h.ex
  refine ⟨c, h2, fun k => ?_⟩
  rw [Nat.sub_self] at h1
  obtain ⟨v, e, f, hv, _⟩ := h1.ex
  cases hk : c k with
  | none => rfl
  | some x => obtain ⟨i, hi, _⟩ := (hv.con k x).1 hk; omega

set_option maxRecDepth 100000 in
set_option maxHeartbeats 4000000 in
theorem keys_core (sb g n cap N : Nat) (mv : Value) (e : Nat → Int × Int) (f c : Int → Option Int) (hn : 0 < n) (hn2 : (n : Int) ≤ 100000) (w : World) (h : Hv w sb (.slice (some ⟨g, 0, none⟩) n cap) mv n N e f c) (hr : Row w g n cap e) :
    Calls Try.prog 26 #[.pointer (some ⟨sb, 0, none⟩)] w fun r w' => ∃ kv L c', r = .returned kv ∧ w'.ownsRow w.heap.size 3 1 kv n (L.map (Value.int .i64)) ∧ DrainsTo c' c L ∧ (∀ k, c' k = none) ∧ Below w.heap.size w w' := by
  obtain ⟨i0, hi, hz0, hz1, hz2⟩ := info_parts infoEnt
  obtain ⟨i1, hi', hz0', hz1', hz2'⟩ := info_parts infoInt
  have CL := Lib.hid (fun w' (hb : Below w.heap.size w w') => len_core sb n cap (some ⟨g, 0, none⟩) mv w' (h.str.kept (Turn.of_below (S := fun _ => False) hb) (fun h => h)))
  have hmk := make_run n (by omega)
  have hb1 : Below w.heap.size w (w.alloc (.cells (madeCells #[.int .i64 0] n) 3)) := (Below.refl _ _).alloc (Nat.le_refl _) _
  have HR1 := Lib.hid (hr.kept (Turn.of_below (S := fun _ => False) hb1) (fun q => q))
  have HS1 := Lib.hid (h.str.kept (Turn.of_below (S := fun _ => False) hb1) (fun q => q))
  have hnz : ((n : Int) == 0) = false := by rw [beq_eq_false_iff_ne]; omega
  have HH := Lib.hid h
  have HS0 : Hid (∀ wc, Below w.heap.size w wc → wc.cell? ⟨sb, 1, none⟩ = some (.slice (some ⟨g, 0, none⟩) n cap)) := fun wc hb => kept_cell hb h.str.cells.2.1
  clear h hr
  go_enter Try.func26, Try.ntmps26
  go_upto_region 4 with (first | (go_at_call 28; (with_reducible refine (CL.out _ (Below.refl _ _)).mono ?_); rintro r w1 ⟨rfl, rfl⟩) | (go_at_call 28; (refine (CL.out _ hb1).mono ?_); rintro r w2 ⟨rfl, rfl⟩))
  refine gen_world (fun v => Row v g n cap e ∧ Str v sb (.slice (some ⟨g, 0, none⟩) n cap) mv ∧ Below w.heap.size w v ∧ v.ownsRow w.heap.size 3 1 (.slice (some ⟨w.heap.size, 0, none⟩) 0 n) 0 [] ∧ w.heap.size < v.heap.size) ⟨HR1.out, HS1.out, hb1, World.ownsRow_made (w := w) _ n (Nat.le_refl _) (by unfold maxLen; omega) (by simp [madeCells]), by simp⟩ ?_
  intro v ⟨hr, hs, hb, hk, hsz⟩
  obtain ⟨c0, c1, c2⟩ := hs.cells
  unfold lessV at c0
  obtain ⟨xs, x1, x2, x3, x4⟩ := row_news hr
  have hsl := hs.lt
  have hgl := hr.lt
  have hsl2 : sb < v.heap.size + 1 := by omega
  have hgl2 : g < v.heap.size + 1 := by omega
  have hcap : n ≤ cap := hr.1
  have hn3 : (0 : Int) < (n : Int) := by omega
  clear CL HR1 HS1 hb1 hmk
  have HH2 := Lib.hid (fun w2 g2 cap2 hwv hb2 hr hr2 => key_a (w2 := w2) (g2 := g2) (cap2 := cap2) HH.out hwv hk hsz hb2 hr hr2)
  have HH3 := Lib.hid (fun w2 g2 cap2 hwv hb2 hr hr2 ho => key_b (w2 := w2) (g2 := g2) (cap2 := cap2) HH.out hwv hk hsz hb2 hr hr2 ho)
  have HWV := Lib.hid hb
  clear hb hk HH hr hs
  unfold lessV at HH2 HH3
  go_cut [4] (fun s wx => ∃ r : Nat, s = .pointer (some ⟨r, 0, none⟩) ∧ Hid (KeySt w wx r n 0 (.slice (some ⟨w.heap.size, 0, none⟩) 0 n) [] c))
  case first =>
    go_region_law (refine step_append_grows rfl (.tmp 23) (.tmp 27) 59 rfl 64 i0 _ 2 16 Try.underlying59 hi hz0 hz1 hz2 rfl (by omega) (some ⟨g, 0, none⟩) 0 0 [] (by rfl) (by intro q; cases q) (by rfl) (by intro b _ j u q; cases q) ⟨g, 0, none⟩ n cap xs (by rfl) x1 (by first | exact x2 | (intro j u q; exact kept_addr (x2 j u q) (by repeat (first | exact Below.refl _ _ | refine Below.drew ?_ | refine Below.alloc ?_ (by simp) _)))) x3 (by omega) (by unfold maxLen; omega) (by omega) ?_; intro v' w2 hown hgrow; rw [Nat.zero_add, List.nil_append] at hown; obtain ⟨g2, cap2, rfl, hrow2, hg2⟩ := owns_rowV hown hn x4; have hsz2 := hgrow.size; obtain ⟨gc, gf⟩ := grown_cells hgrow; have hvb : Below v.heap.size v w2 := Below.trans (by repeat (first | exact Below.refl _ _ | refine Below.drew ?_ | refine Below.alloc ?_ (by simp) _)) ((grown_below hgrow).mono (by simp)); have k0 := kept_cell hvb c0; have k1 := kept_cell hvb c1; have HVB := Lib.hid hvb; have HG := Lib.hid hgrow; have hsl3 : sb < w2.heap.size := Nat.lt_of_lt_of_le hsl hvb.size; clear hown hvb hgrow)
    all_goals
      go_wp2_with fail
      go_meet
      first
        | exact ⟨w2.heap.size, rfl, HH2.out w2 g2 cap2 HWV.out HVB.out hrow2 (by first | exact hg2 | (simp at hg2; omega))⟩
        | exact ⟨v.heap.size, rfl, HH3.out w2 g2 cap2 HWV.out HVB.out hrow2 (by first | exact hg2 | (simp at hg2; omega)) (grown_obj HG.out (heap_alloc_new _ _))⟩
  case rest =>
    obtain ⟨r, rfl, HK⟩ := hcut
    have cs1 := HS0.out _ HK.out.low
    clear c0 c1 c2 HH2 HH3 HWV hsl hgl hsl2 hgl2 hsz x1 x2 x3 x4
    go_wp2
    go_loopw [3, 35] (fun kv i wr => ∃ (q : Nat) (L : List Int), q ≤ n ∧ i = .int .i64 q ∧ Hid (KeySt w wr r n q kv L c)) (fun _ i _ => (n - intOf i).toNat)
    case atStart => exact ⟨0, [], by omega, rfl, HK⟩
    case round =>
      obtain ⟨q, L, hq, rfl, HQ⟩ := hrel
      clear HK cs1
      by_cases hql : q < n
      · have C := Lib.hid (key_take HQ.out hql hn2)
        clear HQ
        go_wp2_with (first
          | (go_at_call 15; (with_reducible refine (C.out).mono ?_); rintro e w3 ⟨k, x, rfl, ho, hs, hg⟩; have HO := Lib.hid ho; have HSZ := Lib.hid hs; have HG := Lib.hid hg; clear ho hs hg)
          | (at_builtin; refine wpList_append_own_at _ rfl _ _ 48 rfl w.heap.size 3 i1 (.int .i64 0) 1 8 Try.underlying48 hi' hz0' hz1' hz2' rfl (by decide) _ _ _ rfl (HO.out.alloc _) ⟨w3.heap.size, 0, none⟩ 1 1 [.int .i64 k] rfl rfl (cell_one_new _ _ _) (fun x hx => by simp at hx; subst hx; rfl) (by unfold maxLen; omega) (by omega) (by have := HSZ.out; simp; omega) ?_; intro v' w4 hown' hgrow _ hloc; have HN := Lib.hid (HG.out w4 v' _ hown' hgrow hloc); clear hown' hgrow hloc))
        go_roundw
        case rel => exact ⟨q + 1, L ++ [k], by omega, by go_num, HN⟩
        case measure => simp [intOf]; omega
      · obtain rfl : q = n := by omega
        have HE := Lib.hid (key_end HQ.out)
        have HR := Lib.hid HQ.out.row
        have HW := Lib.hid HQ.out.low
        clear HQ
        go_wp2
        go_ret
        obtain ⟨c', e1, e2⟩ := HE.out
        exact ⟨_, L, c', rfl, HR.out, e1, e2, HW.out⟩

/-- All keys, as the callers see them. -/
theorem keys_any {w : World} {sb : Nat} {mv : Value} {A : Nat → Prop} {n N : Nat} {c : Int → Option Int} (hn : (n : Int) ≤ 100000) (h : Hp w sb mv A n N c) :
    Calls Try.prog 26 #[.pointer (some ⟨sb, 0, none⟩)] w fun r w' => ∃ a cap L c', r = .returned (.slice a n cap) ∧ L.length = n ∧ Reads w' w'.heap.size a L ∧ DrainsTo c' c L ∧ (∀ k, c' k = none) ∧ Below w.heap.size w w' := by
  obtain ⟨v, e, f, hv, _⟩ := h.ex
  by_cases h0 : n = 0
  · subst h0
    refine (keys_none (w := w) (p := some ⟨sb, 0, none⟩) (fun w' hb => len_hv (hv.kept (Turn.of_below (S := fun _ => False) hb) (fun _ _ q => q)))).mono fun r w' ⟨a, b⟩ => ⟨_, _, [], c, a, rfl, .inl rfl, rfl, fun k => ?_, b⟩
    cases hk : c k with
    | none => rfl
    | some x => obtain ⟨i, hi, _⟩ := (hv.con k x).1 hk; omega
  · obtain ⟨g, cap, rfl, hm⟩ := hv.hm (by omega)
    refine (keys_core sb g n cap N mv e f c (by omega) hn w hv hm.row).mono fun r w' ⟨kv, L, c', a, b, d1, d2, d3⟩ => ?_
    have hl : L.length = n := by have := b.1; simpa using this
    rcases b.2 with ⟨_, q⟩ | ⟨g2, cap2, cur, rfl, _, hh, h1, _, h3, h4⟩
    · omega
    · refine ⟨_, cap2, L, c', a, hl, .inr ⟨g2, 0, rfl, lt_of_block hh, fun k hk => ?_⟩, d1, d2, d3⟩
      rw [Nat.zero_add, blk_cell hh]
      have e1 : cur[k]? = (cur.toList.take (n * 1))[k]? := by rw [List.getElem?_take_of_lt (by omega)]; simp
      rw [e1, h4, List.getElem?_map, List.getElem?_eq_getElem hk, List.getD_eq_getElem?_getD, List.getElem?_eq_getElem hk]; rfl

end Go.Proofs.Ytbmmigaabhnnfaa
