/-
  The walk over a text's lines, as the program tells them.
-/
import Derived.Test.YtbipjilpogbicaaDoorLLn1
namespace Go.Proofs.YtbipjilpogbicaaDoor
open Go.RowKit Go.Maps Go.Shelf
attribute [local go_sem] Oper.semAt_some

abbrev WX := { x : WV // 1 ≤ x.ln }
theorem words_stopsX (n : Nat) (hn : 1 ≤ n) (Bn : Nat) (s : ByteArray) (hs : s.size ≤ 900000) (w : World) (hB : Boxed w Bn 9 (.string s)) :
    SeqStopsK Fence.wide n Tryd.prog 36 #[.pointer (some ⟨Bn, 0, none⟩)] (fun x : WX => #[x.1.val]) (KpW Bn s) (fun ys => ys.map (·.1) = wordsOf s) (fun _ => True) (s.size + 1) w :=
  fun l J Jx W hW hJ _ hY h0 =>
    (words_in n hn l Bn s hs (fun q W => ∃ q' : List WX, q'.map (·.1) = q ∧ J q' W) (fun q W => ∃ q' : List WX, q'.map (·.1) = q ∧ Jx q' W) W
      (fun q X Y row ⟨q', e, h⟩ hg hr => ⟨q', e, hJ _ _ _ _ h hg hr⟩)
      (fun pre x W1 hx ⟨q', e, h⟩ hlen => by
        subst e
        obtain ⟨fn, tmps, assign, body, hy, hR⟩ := hY q' ⟨x, hx⟩ W1 h (by simpa using hlen)
        refine ⟨fn, tmps, assign, body, hy, hR.mono ?_⟩
        rintro e W' (⟨rfl, hj, hk⟩ | ⟨rfl, hj⟩)
        · exact .inl ⟨rfl, ⟨_, by simp, hj⟩, hk⟩
        · exact .inr ⟨rfl, _, by simp, hj⟩)
      (kept_obj hW hB) ⟨[], rfl, h0⟩).mono fun e W' ⟨hv, h⟩ => ⟨hv, by
        rcases h with ⟨ys, rfl, q', e, hj⟩ | ⟨pre, _, q', e, hj⟩
        · exact .inl ⟨q', e, hj⟩
        · exact .inr ⟨q', trivial, hj⟩⟩

/-- What the lines hold between two words. -/
structure LI (w W : World) (pre : List WV) : Prop where
  row : ∃ v cs, Boxed W w.heap.size 24 v ∧ Rows W w.heap.size v cs (LG pre)
  line : Boxed W (w.heap.size + 1) 3 (.int .i64 (lineNo pre))
  low : Below w.heap.size w W
theorem boxed_aside {X Y : World} {B : Nat} {T : TypeId} {v : Value} {row : Option Nat} (h : Boxed X B T v) (hg : X.grownBy Y row) (hr : ∀ r, row = some r → ∃ o : Obj, X.heap[r]? = some o ∧ o.isCells = false) : Boxed Y B T v :=
  boxed_own (β := Unit) B T (fun _ => v) () X Y row h hg hr
theorem LI.own (w : World) {β : Type} (f : β → List WV) {B : Nat} (hB : w.heap.size ≤ B) : OwnFrom B (fun s W => LI w W (f s)) := fun s X Y row hs hg hr => by
  have hc : ∀ r, row = some r → ∃ o : Obj, X.heap[r]? = some o ∧ o.isCells = false := fun r e => (hr r e).2
  obtain ⟨⟨v, cs, h1, h2⟩, h3, h4⟩ := hs
  exact ⟨⟨v, cs, boxed_aside h1 hg hc, h2.aside hg hc⟩, boxed_aside h3 hg hc, ownFrom_below (β := Unit) (Nat.le_refl _) hB () X Y row h4 hg hr⟩
theorem LI.alloc {w W : World} {pre : List WV} (h : LI w W pre) (o : Obj) : LI w (W.alloc o) pre :=
  LI.own w (fun _ : Unit => pre) (B := w.heap.size) (Nat.le_refl _) () W _ none h (World.grownBy_alloc W o none) (fun r e => by cases e)

theorem BoxW.kept {X Y : World} {B B' : Nat} {x : WV} {v : Value} {cs : List Value} (h : BoxW X B x) (r : OwnR X B' v cs) (hg : X.grownBy Y v.ownBlock) : BoxW Y B x := by
  refine (hg.block B (lt_of_block h) (fun e => ?_)).trans h
  obtain ⟨c, hc⟩ := r.blk e.symm
  rw [show X.heap[B]? = _ from h] at hc
  simp only [Option.some.injEq, Obj.cells.injEq] at hc
  exact absurd hc.2.1 (by decide)
theorem BoxW.alloc {X : World} {B : Nat} {x : WV} (h : BoxW X B x) (o : Obj) : BoxW (X.alloc o) B x := (Below.heap_alloc X o B (lt_of_block h)).trans h
theorem BoxW.set {X : World} {B b : Nat} {x : WV} (h : BoxW X B x) (hb : B ≠ b) (u : Value) : BoxW (X.setCell ⟨b, 0, none⟩ u) B x := (blk_far hb u).trans h
theorem boxw_ne {X : World} {B b : Nat} {x : WV} {T : TypeId} {v : Value} (h : BoxW X B x) (k : Boxed X b T v) (hT : T ≠ WT) : B ≠ b := fun e => by
  subst e
  unfold Boxed at k
  rw [show X.heap[B]? = _ from h] at k
  simp only [Option.some.injEq, Obj.cells.injEq] at k
  exact hT k.2.1.symm

theorem box_ne_row {X : World} {b g n c B : Nat} {T : TypeId} {v : Value} {cs : List Value} (h : Boxed X b T v) (r : OwnR X B (.slice (some ⟨g, 0, none⟩) n c) cs) (hT : T ≠ RTy) : b ≠ g := fun e => by
  subst e
  obtain ⟨cs', hc⟩ := r.blk (k := b) rfl
  rw [show X.heap[b]? = _ from h] at hc
  simp only [Option.some.injEq, Obj.cells.injEq] at hc
  exact hT hc.2.1
theorem keepsOthers_below {X Y : World} (hb : Below X.heap.size X Y) : KeepsOthers X Y := ⟨hb.size, fun k o hk _ => kept_obj hb hk⟩
theorem keepsOthers_grown {X Y : World} {B : Nat} {u : Value} {l : List WV} (h : OwnW X B u l) (hg : X.grownBy Y u.ownBlock) : KeepsOthers X Y :=
  KeepsOthers.of_grownBy hg fun j o ej hj => by
    obtain ⟨c, hc⟩ := h.blk ej
    rw [hj] at hc
    cases hc
    rfl
theorem boxed_grown {X Y : World} {b B : Nat} {T : TypeId} {v u : Value} {l : List WV} (h : Boxed X b T v) (hu : OwnW X B u l) (hg : X.grownBy Y u.ownBlock) (hT : T ≠ WT) : Boxed Y b T v :=
  h.kept hg (h.not_row hT hu)
/-- Where the last line is about to grow. -/
structure Mid (w W V : World) (s : ByteArray) (B0 : Nat) (x : WV) (g c p : Nat) (cs1 : List Value) (u : Value) (G0 : List (List WV)) (y : List WV) : Prop where
  hv : Boxed V w.heap.size 24 (.slice (some ⟨g, 0, none⟩) (p + 1) c)
  rows : Rows V w.heap.size (.slice (some ⟨g, 0, none⟩) (p + 1) c) (cs1 ++ [u]) (G0 ++ [y])
  len : G0.length = p
  line : Boxed V (w.heap.size + 1) 3 (.int .i64 x.ln)
  low : Below w.heap.size w V
  kf : KeepsFrom B0 W V
  kw : KpW (w.heap.size + 2) s W V
theorem Mid.last {w W V : World} {s : ByteArray} {B0 : Nat} {x : WV} {g c p : Nat} {cs1 : List Value} {u : Value} {G0 : List (List WV)} {y : List WV} (m : Mid w W V s B0 x g c p cs1 u G0 y) :
    ∃ a d, u = .slice a y.length d ∧ OwnW V w.heap.size u y ∧ V.cell? ⟨g, p, none⟩ = some u := by
  have hcl : cs1.length = p := by have := m.rows.len; simp at this; rw [this, m.len]
  obtain ⟨au, du, e5, ou⟩ := m.rows.each p y (by rw [← m.len]; simp)
  rw [← hcl] at e5
  simp only [List.getElem?_concat_length, Option.some.injEq] at e5
  subst e5
  obtain ⟨g5, c5, e6, f1, f2⟩ := rows_at m.rows
  simp only [Value.slice.injEq, Option.some.injEq, Addr.mk.injEq] at e6
  obtain ⟨⟨rfl, -⟩, -⟩ := e6
  rw [hcl] at f1
  exact ⟨_, _, rfl, ou, f1⟩
theorem Mid.grow {w W V X w3 : World} {s : ByteArray} {B0 : Nat} {x : WV} {g c p n : Nat} {cs1 : List Value} {u : Value} {G0 : List (List WV)} {y L : List WV} (m : Mid w W V s B0 x g c p cs1 u G0 y) (hX : Below V.heap.size V X) {a3 : Option Addr} {k3 : Nat}
    (o3 : OwnW w3 w.heap.size (.slice a3 n k3) (y ++ [x])) (g3 : X.grownBy w3 u.ownBlock) (l3 : ∀ k, (Value.slice a3 n k3).ownBlock = some k → u.ownBlock = some k ∨ X.heap.size ≤ k) (hL : LG L = G0 ++ [y ++ [x]]) (hl : lineNo L = x.ln) :
    w3.cell? ⟨w.heap.size, 0, none⟩ = some (.slice (some ⟨g, 0, none⟩) (p + 1) c) ∧ w3.cell? ⟨g, p, none⟩ = some u ∧ w3.frozen? ⟨g, p, none⟩ = false ∧
      (w3.setCell ⟨g, p, none⟩ (.slice a3 n k3)).cell? ⟨w.heap.size, 0, none⟩ = some (.slice (some ⟨g, 0, none⟩) (p + 1) c) ∧
      KeepsFrom B0 W (w3.setCell ⟨g, p, none⟩ (.slice a3 n k3)) ∧ KpW (w.heap.size + 2) s W (w3.setCell ⟨g, p, none⟩ (.slice a3 n k3)) ∧ LI w (w3.setCell ⟨g, p, none⟩ (.slice a3 n k3)) L := by
  obtain ⟨au, du, eu, ou, _⟩ := m.last
  have hR := m.rows.below hX
  have hu := ou.below hX
  have hvX : Boxed X w.heap.size 24 (.slice (some ⟨g, 0, none⟩) (p + 1) c) := kept_obj hX m.hv
  have hlX : Boxed X (w.heap.size + 1) 3 (.int .i64 x.ln) := kept_obj hX m.line
  obtain ⟨q1, q2, q3, q4⟩ := row_grow (below_up m.low hX) hR m.len (by simp) o3 g3 l3
  have b1 := boxed_grown hvX hu g3 (by decide)
  have b2 := boxed_grown hlX hu g3 (by decide)
  have n1 := box_ne_row m.hv m.rows.own (by decide)
  have n2 := box_ne_row m.line m.rows.own (by decide)
  have ko : KeepsOthers V (w3.setCell ⟨g, p, none⟩ (.slice a3 n k3)) := ((keepsOthers_below hX).trans (keepsOthers_grown hu g3)).trans (KeepsOthers.setCell _ _ _)
  have c1 : Boxed (w3.setCell ⟨g, p, none⟩ (.slice a3 n k3)) w.heap.size 24 (.slice (some ⟨g, 0, none⟩) (p + 1) c) := (blk_far n1 _).trans b1
  have c2 : Boxed (w3.setCell ⟨g, p, none⟩ (.slice a3 n k3)) (w.heap.size + 1) 3 (.int .i64 x.ln) := (blk_far n2 _).trans b2
  refine ⟨b1.cell, q1, q2, c1.cell, m.kf.trans (ko.from _), kpW_t m.kw ⟨keepsWalks_of ko, fun z => ?_⟩, ⟨⟨_, _, c1, by rw [hL]; exact q3⟩, by rw [hl]; exact c2, q4⟩⟩
  exact (blk_far (box_ne_row z m.rows.own (by decide)) _).trans (boxed_grown (kept_obj hX z) hu g3 (by decide))

set_option maxRecDepth 100000 in
set_option maxHeartbeats 4000000 in
theorem lines_any (s : ByteArray) (hs : s.size ≤ 900000) (w : World) : Calls Tryd.prog 11 #[.string s] w (LinesBack (linesOf s) w) := by
  have NU := Lib.hid (fun n w => words_val s n w)
  have IT := Lib.hid (fun n hn Bn w => words_stopsX n hn Bn s hs w)
  obtain ⟨i0, hi, hz0, hz1, hz2⟩ := rinfoParts
  have hz := fun w : World => zeroWord w
  refine (callsIn_wide (n := 3)).1 ?_
  refine callsIn_of_wp_marks Tryd.func11 rfl trivial ?_ rfl
  simp only [Tryd.ntmps11, List.size_toArray, List.length_cons, List.length_nil, Nat.reduceAdd, Nat.reduceSub, Array.replicate_succ, Array.replicate_zero, List.push_toArray, List.append_toArray, List.nil_append, List.cons_append]
  gi_wp2_with (refine ⟨trivial, ?_⟩; gi_at_call 28; (refine (NU.out _ _).mono ?_); rintro e w' ⟨rfl, rfl⟩)
  obtain ⟨W0, hW0⟩ : ∃ W0, ((w.alloc (.cells #[.slice none 0 0] 24)).alloc (.cells #[.int .i64 0] 3)).alloc (.cells #[.string s] 9) = W0 := ⟨_, rfl⟩
  have hsz : W0.heap.size = w.heap.size + 3 := by rw [← hW0]; simp
  have c0 : Boxed W0 w.heap.size 24 (.slice none 0 0) := by rw [← hW0]; exact (((Boxed.new w _ _).alloc _).alloc _)
  have c1 : Boxed W0 (w.heap.size + 1) 3 (.int .i64 0) := by
    rw [← hW0]
    have := Boxed.new (w.alloc (.cells #[.slice none 0 0] 24)) 3 (.int .i64 0)
    rw [World.size_alloc] at this
    exact this.alloc _
  have c2 : Boxed W0 (w.heap.size + 2) 9 (.string s) := by
    rw [← hW0]
    have := Boxed.new ((w.alloc (.cells #[.slice none 0 0] 24)).alloc (.cells #[.int .i64 0] 3)) 9 (.string s)
    rw [World.size_alloc, World.size_alloc] at this
    exact this
  have cb : Below w.heap.size w W0 := by rw [← hW0]; exact bw_alloc (bw_alloc (bw_alloc (Below.refl _ _) _) _) _
  rw [hW0]
  clear NU hW0
  refine wpIn_rangeFunc_ownH rfl (by omega) (gf := 36) (lb := #[.pointer (some ⟨w.heap.size + 2, 0, none⟩)]) rfl trivial (enters_of Tryd.func36 (by kernel_rfl) rfl)
    (IT.out _ (by omega) (w.heap.size + 2) _ c2) kpW_t (kpW_b (s := s) (Bn := w.heap.size + 2)) (Below.refl _ _) (fun _ => rfl)
    (fun pre W => LI w W (pre.map (·.1)))
    (fun _ _ _ => False)
    (LI.own w (fun pre : List WX => pre.map (·.1)) (by omega))
    (fun _ _ _ _ _ hs _ _ => hs)
    ⟨⟨_, _, c0, Rows.nil _ _⟩, c1, cb⟩
    (fun x a' W => ∃ Bx, BoxW W Bx x.1 ∧ a' = { tmps := #[.string s, undef, .slice none 0 0, .pointer (some ⟨w.heap.size, 0, none⟩), .pointer (some ⟨w.heap.size + 1, 0, none⟩), .pointer (some ⟨Bx, 0, none⟩), undef, .string s, .func (.func 36) #[] #[.pointer (some ⟨w.heap.size + 2, 0, none⟩)], x.1.val, undef, undef, undef, undef, undef, undef, undef, undef, undef, undef, undef, undef, undef, undef, undef, undef, undef, undef, undef, undef, undef, undef, undef], defers := [] })
    ?_ ?assign ?body ?done ?stop
  · rintro x a' u X Y row ⟨Bx, hb, ha⟩ hg hrow
    exact ⟨Bx, BoxW.own () X Y row hb hg (fun r e => (hrow r e).2), ha⟩
  case assign =>
    rintro l pre x W K hI hK
    dsimp only [WV.val]
    clear IT
    gi_wp2
    exact hK _ _ ((KeepsOthers.alloc _ _).from _) ⟨keepsWalks_of (KeepsOthers.alloc _ _), fun z => z.alloc _⟩ (hI.alloc _) ⟨W.heap.size, World.alloc_heap_new W _, rfl⟩
  case body =>
    rintro l pre x a' W hl hr ⟨⟨v, cs, hv, hR⟩, hline, hB⟩ ⟨Bx, bX, rfl⟩ hlt
    obtain ⟨N, hN⟩ : ∃ N, decide (¬ x.1.ln = lineNo (pre.map (·.1))) = N := ⟨_, rfl⟩
    obtain ⟨G0, y, hG, hG2⟩ := lg_step (pre.map (·.1)) x.1 x.2 hN
    have HG : Hid (LG ((pre ++ [x]).map (·.1)) = G0 ++ [y ++ [x.1]]) := by show _ = _; rw [List.map_append, List.map_singleton]; exact hG
    have HLN : Hid (lineNo ((pre ++ [x]).map (·.1)) = x.1.ln) := by show _ = _; rw [List.map_append, List.map_singleton]; exact lineNo_snoc _ _
    clear hG
    have hcl : cs.length ≤ 900001 := by
      have h1 := lrun_len (pre.map (·.1)) (pre.map (·.1)).length
      have h2 := hR.len
      unfold LG at h2
      rw [List.length_map] at h1 h2
      omega
    obtain ⟨ln, hln⟩ : ∃ z, lineNo (pre.map (·.1)) = z := ⟨_, rfl⟩
    rw [hln] at hline hN
    have hc := hv.cell
    have hn := hline.cell
    have hfn := hline.frozen
    obtain ⟨x0, x1, x2⟩ := bX.wat
    have hrow : W.ownsRow w.heap.size RTy 1 v cs.length cs := hR.own
    have hw9 : IntKind.i64.wrap (cs.length : Int) = (cs.length : Int) := IntWalk.i64_in _ (by omega)
    clear IT c0 c1 c2 cb
    cases N with
    | true =>
      have d1 : (x.1.ln != ln) = true := by rw [bne_iff_ne]; exact of_decide_eq_true hN
      rw [if_pos rfl] at hG2
      obtain ⟨hG0, hy0⟩ := hG2
      gi_wp2_with (gi_at_builtin; refine wpListIn_append_own _ rfl _ _ 24 rfl w.heap.size RTy i0 _ 1 24 Tryd.underlying24 hi hz0 hz1 hz2 rfl (by decide) _ _ _ rfl (hrow.alloc _) ⟨W.heap.size, 0, none⟩ 1 1 [.slice none 0 0] rfl rfl (cell_one_new _ _ _) (by simp [Value.oneCell']) (by unfold maxLen; omega) (by omega) (by have := hB.size; simp; omega) ?_; intro v' w3 hown' hgrow _; obtain ⟨g, c, rfl⟩ := ownsRow_succ hown'; obtain ⟨hv1, hv2, hr2, hk2, hb2⟩ := hv.appended (by decide) hrow hB.size (by omega) hown' hgrow; have hc1 := hv1.cell; have hf1 := hv1.frozen; have bX1 := (bX.alloc (.cells #[.slice none 0 0] RTy)).kept (OwnR.below hR.own (bw_alloc (Below.refl _ _) _)) hgrow; have bL1 := (hline.alloc (.cells #[.slice none 0 0] RTy)).kept hgrow (hline.not_row (by decide) hrow); have x1' := bX1.wat.c1; have hn1 := bL1.cell; have hfn1 := bL1.frozen)
      have hne := boxw_ne bX1 hv1 (by decide)
      have hne2 := boxw_ne bX1 bL1 (by decide)
      have hcs : (cs ++ [Value.slice none 0 0]).length = cs.length + 1 := by simp
      have hRm : Rows w3 w.heap.size (.slice (some ⟨g, 0, none⟩) (cs.length + 1) c) (cs ++ [.slice none 0 0]) (LG (pre.map (·.1)) ++ [[]]) :=
        (Rows.below hR (bw_alloc (Below.refl _ _) (.cells #[.slice none 0 0] RTy))).more (by unfold OwnR; rw [hcs]; exact hown') hgrow
      obtain ⟨u, hu⟩ : ∃ u : Value, u = .slice none 0 0 := ⟨_, rfl⟩
      have bL2 := bL1.other (show w.heap.size + 1 ≠ w.heap.size by omega) (.slice (some ⟨g, 0, none⟩) (cs.length + 1) c)
      have HM := Lib.hid (show Mid w W ((w3.setCell ⟨w.heap.size, 0, none⟩ (.slice (some ⟨g, 0, none⟩) (cs.length + 1) c)).setCell ⟨w.heap.size + 1, 0, none⟩ (.int .i64 x.1.ln)) s W0.heap.size x.1 g c cs.length cs u G0 y from
        ⟨hv2.other (by omega) _, (by rw [hG0, hy0, hu]; exact (hRm.box hv1 (by decide) (by decide)).box bL2 (by decide) (by decide)), (by rw [hG0]; exact hR.len.symm), bL2.set _, (hB.trans hb2).setCell (p := ⟨w.heap.size + 1, 0, none⟩) (by simp) _, (hk2.trans (KeepsOthers.setCell _ _ _)).from _,
          keepsWalks_of (hk2.trans (KeepsOthers.setCell _ _ _)), fun z => (((z.alloc _).kept hgrow (z.not_row (by decide) hrow)).other (by omega) _).other (by omega) _⟩)
      have HX : Hid (BoxW ((w3.setCell ⟨w.heap.size, 0, none⟩ (.slice (some ⟨g, 0, none⟩) (cs.length + 1) c)).setCell ⟨w.heap.size + 1, 0, none⟩ (.int .i64 x.1.ln)) Bx x.1) := (bX1.set hne _).set hne2 _
      generalize ((w3.setCell ⟨w.heap.size, 0, none⟩ (.slice (some ⟨g, 0, none⟩) (cs.length + 1) c)).setCell ⟨w.heap.size + 1, 0, none⟩ (.int .i64 x.1.ln)) = V at HM HX ⊢
      generalize cs.length = p at *
      clear hown' hgrow hv1 hv2 hr2 hk2 hb2 hc1 hf1 bX1 bL1 bL2 x1' hn1 hfn1 hRm hcs hne hne2 hc hn hfn x0 x1 x2 hrow hw9 d1 hv hR hline hB bX hG0 hy0 hu
      obtain ⟨a5, d5, rfl, ou, hgc⟩ := HM.out.last
      obtain ⟨n5, hn5⟩ : ∃ n5, y.length = n5 := ⟨_, rfl⟩
      rw [hn5] at hgc ou HM
      have HU := Lib.hid ou
      have HYL : Hid (y.length + 1 ≤ 1000000) := by
        show _ ≤ _
        have := lrun_each ((pre ++ [x]).map (·.1)) ((pre ++ [x]).map (·.1)).length (y ++ [x.1]) (by have h := HG.out; unfold LG at h; rw [h]; simp)
        rw [List.length_append, List.length_map, List.length_append, List.length_singleton] at this
        simp at this
        omega
      have HN5 : Hid (y.length + 1 = n5 + 1) := by show _ = _; rw [hn5]
      have hSV := HM.out.hv.cell
      have hS : (fun w' : World => w'.cell? ⟨w.heap.size, 0, none⟩ = some (Value.slice (some ⟨g, 0, none⟩) (p + 1) c)) V.drew := hSV
      obtain ⟨x0, x1, x2⟩ := HX.out.wat
      have hgl := block_of_cell hgc
      have hxl := block_of_cell x0
      have hp1 : (p : Int) < (p : Int) + 1 := by omega
      have hp0 : (0 : Int) ≤ (p : Int) := by omega
      clear ou hn5
      refine region_round (fun w' : World => w'.cell? ⟨w.heap.size, 0, none⟩ = some (Value.slice (some ⟨g, 0, none⟩) (p + 1) c)) (by kernel_rfl) (by kernel_rfl) (by rintro ⟨_, _, h⟩; exact h) ?_
      refine wpAnyH_take (i := 0) (oi := { dst := some 22, op := .load 24 (.tmp 3), type := 24, pos := _, after := _, guard := none }) (v := Value.slice (some ⟨g, 0, none⟩) (p + 1) c) rfl (by kernel_rfl) (by kernel_rfl) (by kernel_rfl) (fun _ _ _ h => h) (Or.inl ⟨by rfl, ?_⟩) hS ?_
      · intro w' hw'
        have hw'' : w'.cell? ⟨w.heap.size, 0, none⟩ = some (Value.slice (some ⟨g, 0, none⟩) (p + 1) c) := hw'
        clear hw'
        go_simp
      simp only [Act.put, List.setIfInBounds_toArray, List.set_cons_zero, List.set_cons_succ]
      refine wpAnyH_take (i := 1) (oi := { dst := some 23, op := .move (.tmp 6), type := 3, pos := _, after := _, guard := none }) (v := .int .i64 p) rfl (by kernel_rfl) (by kernel_rfl) (by kernel_rfl) (fun _ _ _ h => h) (Or.inl ⟨by rfl, ?_⟩) hS ?_
      · intro w' hw'
        have hw'' : w'.cell? ⟨w.heap.size, 0, none⟩ = some (Value.slice (some ⟨g, 0, none⟩) (p + 1) c) := hw'
        clear hw'
        go_simp
      simp only [Act.put, List.setIfInBounds_toArray, List.set_cons_zero, List.set_cons_succ]
      refine wpAnyH_take (i := 2) (oi := { dst := some 24, op := .load 24 (.tmp 3), type := 24, pos := _, after := _, guard := none }) (v := Value.slice (some ⟨g, 0, none⟩) (p + 1) c) rfl (by kernel_rfl) (by kernel_rfl) (by kernel_rfl) (fun _ _ _ h => h) (Or.inl ⟨by rfl, ?_⟩) hS ?_
      · intro w' hw'
        have hw'' : w'.cell? ⟨w.heap.size, 0, none⟩ = some (Value.slice (some ⟨g, 0, none⟩) (p + 1) c) := hw'
        clear hw'
        go_simp
      simp only [Act.put, List.setIfInBounds_toArray, List.set_cons_zero, List.set_cons_succ]
      refine wpAnyH_take (i := 3) (oi := { dst := some 25, op := .move (.tmp 6), type := 3, pos := _, after := _, guard := none }) (v := .int .i64 p) rfl (by kernel_rfl) (by kernel_rfl) (by kernel_rfl) (fun _ _ _ h => h) (Or.inl ⟨by rfl, ?_⟩) hS ?_
      · intro w' hw'
        have hw'' : w'.cell? ⟨w.heap.size, 0, none⟩ = some (Value.slice (some ⟨g, 0, none⟩) (p + 1) c) := hw'
        clear hw'
        go_simp
      simp only [Act.put, List.setIfInBounds_toArray, List.set_cons_zero, List.set_cons_succ]
      refine wpAnyH_take (i := 4) (oi := { dst := some 26, op := .indexAddr 24 (.tmp 24) (.tmp 25), type := 0, pos := _, after := _, guard := none }) (v := .pointer (some ⟨g, p, none⟩)) rfl (by kernel_rfl) (by kernel_rfl) (by kernel_rfl) (fun _ _ _ h => h) (Or.inl ⟨by rfl, ?_⟩) hS ?_
      · intro w' hw'
        have hw'' : w'.cell? ⟨w.heap.size, 0, none⟩ = some (Value.slice (some ⟨g, 0, none⟩) (p + 1) c) := hw'
        clear hw'
        go_simp
      simp only [Act.put, List.setIfInBounds_toArray, List.set_cons_zero, List.set_cons_succ]
      refine wpAnyH_ready (rs := [5, 6]) (by kernel_rfl) (by simp) ?_
      refine AllReadyH.cons (o := { dst := some 27, op := .load 27 (.tmp 26), type := 27, pos := _, after := _, guard := none }) rfl (fun K hK => ?_) (AllReadyH.cons (o := { dst := some 28, op := .load WT (.tmp 5), type := WT, pos := _, after := _, guard := none }) rfl (fun K hK => ?_) AllReadyH.nil)
      · go_simp
        refine hK.out _ _ (by first | exact hS | exact (kept_cell ((by repeat (first | exact Below.refl _ _ | (with_reducible assumption) | refine bw_alloc ?_ _ | refine bw_drew ?_)) : Below V.heap.size V _) hSV)) (fun _ => ?_)
        clear hK K
        try simp only [Act.put, List.setIfInBounds_toArray, List.set_cons_zero, List.set_cons_succ]
        refine wpAnyH_ready (rs := [6]) (by kernel_rfl) (by simp) ?_
        refine AllReadyH.cons (o := { dst := some 28, op := .load WT (.tmp 5), type := WT, pos := _, after := _, guard := none }) rfl (fun K hK => ?_) AllReadyH.nil
        go_simp
        refine hK.out _ _ (by first | exact hS | exact (kept_cell ((by repeat (first | exact Below.refl _ _ | (with_reducible assumption) | refine bw_alloc ?_ _ | refine bw_drew ?_)) : Below V.heap.size V _) hSV)) (fun _ => ?_)
        clear hK K
        try simp only [Act.put, List.setIfInBounds_toArray, List.set_cons_zero, List.set_cons_succ]
        refine wpAnyH_ready (rs := [7]) (by kernel_rfl) (by simp) ?_
        refine AllReadyH.cons (o := { dst := some 29, op := .buildSlice 27 1 #[(0, .tmp 28)], type := 27, pos := _, after := _, guard := none }) rfl (fun K hK => ?_) AllReadyH.nil
        go_simp
        refine hK.out _ _ (by first | exact hS | exact (kept_cell ((by repeat (first | exact Below.refl _ _ | (with_reducible assumption) | refine bw_alloc ?_ _ | refine bw_drew ?_)) : Below V.heap.size V _) hSV)) (fun _ => ?_)
        clear hK K
        try simp only [Act.put, List.setIfInBounds_toArray, List.set_cons_zero, List.set_cons_succ]
        refine wpAnyH_ready (rs := [8]) (by kernel_rfl) (by simp) ?_
        refine AllReadyH.cons (o := { dst := some 30, op := .call { callee := .builtin .append, args := #[.tmp 27, .tmp 29], argTypes := #[27, 27] }, type := 27, pos := _, after := _, guard := none }) rfl (fun K hK => ?_) AllReadyH.nil
        refine step_wappend (m := 1) (l := [x.1]) rfl (.tmp 27) (.tmp 29) rfl (by rfl) (by rfl) (HU.out.below (by repeat (first | exact Below.refl _ _ | (with_reducible assumption) | refine bw_alloc ?_ _ | refine bw_drew ?_))) (Nat.le_trans HM.out.low.size ((by repeat (first | exact Below.refl _ _ | (with_reducible assumption) | refine bw_alloc ?_ _ | refine bw_drew ?_)) : Below V.heap.size V _).size) (by first | exact WView.of_at (wat_new _ x.1 _) | exact (WView.of_at (wat_new _ x.1 _)).below (by repeat (first | exact Below.refl _ _ | (with_reducible assumption) | refine bw_alloc ?_ _ | refine bw_drew ?_))) rfl HYL.out (fun z => by cases z) (n5 + 1) HN5.out ?_
        intro a3 k3 w3 o3 g3 l3
        obtain ⟨s1, q1, q2, s2, f1, f2, f3⟩ := HM.out.grow ((by repeat (first | exact Below.refl _ _ | (with_reducible assumption) | refine bw_alloc ?_ _ | refine bw_drew ?_)) : Below V.heap.size V _) o3 g3 l3 HG.out HLN.out
        refine hK.out _ _ s1 (fun _ => ?_)
        clear hK K
        try simp only [Act.put, List.setIfInBounds_toArray, List.set_cons_zero, List.set_cons_succ]
        have F1 := Lib.hid f1
        have F2 := Lib.hid f2
        have F3 := Lib.hid f3
        clear f1 f2 f3 o3 g3 l3
        refine wpAnyH_ready (rs := [9]) (by kernel_rfl) (by simp) ?_
        refine AllReadyH.cons (o := { dst := some 31, op := .indexAddr 24 (.tmp 22) (.tmp 23), type := 0, pos := _, after := _, guard := none }) rfl (fun K hK => ?_) AllReadyH.nil
        go_simp
        refine hK.out _ _ (s1) (fun _ => ?_)
        clear hK K
        try simp only [Act.put, List.setIfInBounds_toArray, List.set_cons_zero, List.set_cons_succ]
        refine wpAnyH_ready (rs := [10]) (by kernel_rfl) (by simp) ?_
        refine AllReadyH.cons (o := { dst := none, op := .store 27 (.tmp 31) (.tmp 30), type := 0, pos := _, after := _, guard := none }) rfl (fun K hK => ?_) AllReadyH.nil
        go_simp
        refine hK.out _ _ (s2) (fun _ => ?_)
        clear hK K
        try simp only [Act.put, List.setIfInBounds_toArray, List.set_cons_zero, List.set_cons_succ]
        refine wpAnyH_done (by kernel_rfl) ?_ _
        gi_wp2
        exact ⟨by first | exact F1.out | (rw [← hsz]; exact F1.out), F2.out, F3.out⟩
      · go_simp
        refine hK.out _ _ (by first | exact hS | exact (kept_cell ((by repeat (first | exact Below.refl _ _ | (with_reducible assumption) | refine bw_alloc ?_ _ | refine bw_drew ?_)) : Below V.heap.size V _) hSV)) (fun _ => ?_)
        clear hK K
        try simp only [Act.put, List.setIfInBounds_toArray, List.set_cons_zero, List.set_cons_succ]
        refine wpAnyH_ready (rs := [5, 7]) (by kernel_rfl) (by simp) ?_
        refine AllReadyH.cons (o := { dst := some 27, op := .load 27 (.tmp 26), type := 27, pos := _, after := _, guard := none }) rfl (fun K hK => ?_) (AllReadyH.cons (o := { dst := some 29, op := .buildSlice 27 1 #[(0, .tmp 28)], type := 27, pos := _, after := _, guard := none }) rfl (fun K hK => ?_) AllReadyH.nil)
        · go_simp
          refine hK.out _ _ (by first | exact hS | exact (kept_cell ((by repeat (first | exact Below.refl _ _ | (with_reducible assumption) | refine bw_alloc ?_ _ | refine bw_drew ?_)) : Below V.heap.size V _) hSV)) (fun _ => ?_)
          clear hK K
          try simp only [Act.put, List.setIfInBounds_toArray, List.set_cons_zero, List.set_cons_succ]
          refine wpAnyH_ready (rs := [7]) (by kernel_rfl) (by simp) ?_
          refine AllReadyH.cons (o := { dst := some 29, op := .buildSlice 27 1 #[(0, .tmp 28)], type := 27, pos := _, after := _, guard := none }) rfl (fun K hK => ?_) AllReadyH.nil
          go_simp
          refine hK.out _ _ (by first | exact hS | exact (kept_cell ((by repeat (first | exact Below.refl _ _ | (with_reducible assumption) | refine bw_alloc ?_ _ | refine bw_drew ?_)) : Below V.heap.size V _) hSV)) (fun _ => ?_)
          clear hK K
          try simp only [Act.put, List.setIfInBounds_toArray, List.set_cons_zero, List.set_cons_succ]
          refine wpAnyH_ready (rs := [8]) (by kernel_rfl) (by simp) ?_
          refine AllReadyH.cons (o := { dst := some 30, op := .call { callee := .builtin .append, args := #[.tmp 27, .tmp 29], argTypes := #[27, 27] }, type := 27, pos := _, after := _, guard := none }) rfl (fun K hK => ?_) AllReadyH.nil
          refine step_wappend (m := 1) (l := [x.1]) rfl (.tmp 27) (.tmp 29) rfl (by rfl) (by rfl) (HU.out.below (by repeat (first | exact Below.refl _ _ | (with_reducible assumption) | refine bw_alloc ?_ _ | refine bw_drew ?_))) (Nat.le_trans HM.out.low.size ((by repeat (first | exact Below.refl _ _ | (with_reducible assumption) | refine bw_alloc ?_ _ | refine bw_drew ?_)) : Below V.heap.size V _).size) (by first | exact WView.of_at (wat_new _ x.1 _) | exact (WView.of_at (wat_new _ x.1 _)).below (by repeat (first | exact Below.refl _ _ | (with_reducible assumption) | refine bw_alloc ?_ _ | refine bw_drew ?_))) rfl HYL.out (fun z => by cases z) (n5 + 1) HN5.out ?_
          intro a3 k3 w3 o3 g3 l3
          obtain ⟨s1, q1, q2, s2, f1, f2, f3⟩ := HM.out.grow ((by repeat (first | exact Below.refl _ _ | (with_reducible assumption) | refine bw_alloc ?_ _ | refine bw_drew ?_)) : Below V.heap.size V _) o3 g3 l3 HG.out HLN.out
          refine hK.out _ _ s1 (fun _ => ?_)
          clear hK K
          try simp only [Act.put, List.setIfInBounds_toArray, List.set_cons_zero, List.set_cons_succ]
          have F1 := Lib.hid f1
          have F2 := Lib.hid f2
          have F3 := Lib.hid f3
          clear f1 f2 f3 o3 g3 l3
          refine wpAnyH_ready (rs := [9]) (by kernel_rfl) (by simp) ?_
          refine AllReadyH.cons (o := { dst := some 31, op := .indexAddr 24 (.tmp 22) (.tmp 23), type := 0, pos := _, after := _, guard := none }) rfl (fun K hK => ?_) AllReadyH.nil
          go_simp
          refine hK.out _ _ (s1) (fun _ => ?_)
          clear hK K
          try simp only [Act.put, List.setIfInBounds_toArray, List.set_cons_zero, List.set_cons_succ]
          refine wpAnyH_ready (rs := [10]) (by kernel_rfl) (by simp) ?_
          refine AllReadyH.cons (o := { dst := none, op := .store 27 (.tmp 31) (.tmp 30), type := 0, pos := _, after := _, guard := none }) rfl (fun K hK => ?_) AllReadyH.nil
          go_simp
          refine hK.out _ _ (s2) (fun _ => ?_)
          clear hK K
          try simp only [Act.put, List.setIfInBounds_toArray, List.set_cons_zero, List.set_cons_succ]
          refine wpAnyH_done (by kernel_rfl) ?_ _
          gi_wp2
          exact ⟨by first | exact F1.out | (rw [← hsz]; exact F1.out), F2.out, F3.out⟩
        · go_simp
          refine hK.out _ _ (by first | exact hS | exact (kept_cell ((by repeat (first | exact Below.refl _ _ | (with_reducible assumption) | refine bw_alloc ?_ _ | refine bw_drew ?_)) : Below V.heap.size V _) hSV)) (fun _ => ?_)
          clear hK K
          try simp only [Act.put, List.setIfInBounds_toArray, List.set_cons_zero, List.set_cons_succ]
          refine wpAnyH_ready (rs := [5]) (by kernel_rfl) (by simp) ?_
          refine AllReadyH.cons (o := { dst := some 27, op := .load 27 (.tmp 26), type := 27, pos := _, after := _, guard := none }) rfl (fun K hK => ?_) AllReadyH.nil
          go_simp
          refine hK.out _ _ (by first | exact hS | exact (kept_cell ((by repeat (first | exact Below.refl _ _ | (with_reducible assumption) | refine bw_alloc ?_ _ | refine bw_drew ?_)) : Below V.heap.size V _) hSV)) (fun _ => ?_)
          clear hK K
          try simp only [Act.put, List.setIfInBounds_toArray, List.set_cons_zero, List.set_cons_succ]
          refine wpAnyH_ready (rs := [8]) (by kernel_rfl) (by simp) ?_
          refine AllReadyH.cons (o := { dst := some 30, op := .call { callee := .builtin .append, args := #[.tmp 27, .tmp 29], argTypes := #[27, 27] }, type := 27, pos := _, after := _, guard := none }) rfl (fun K hK => ?_) AllReadyH.nil
          refine step_wappend (m := 1) (l := [x.1]) rfl (.tmp 27) (.tmp 29) rfl (by rfl) (by rfl) (HU.out.below (by repeat (first | exact Below.refl _ _ | (with_reducible assumption) | refine bw_alloc ?_ _ | refine bw_drew ?_))) (Nat.le_trans HM.out.low.size ((by repeat (first | exact Below.refl _ _ | (with_reducible assumption) | refine bw_alloc ?_ _ | refine bw_drew ?_)) : Below V.heap.size V _).size) (by first | exact WView.of_at (wat_new _ x.1 _) | exact (WView.of_at (wat_new _ x.1 _)).below (by repeat (first | exact Below.refl _ _ | (with_reducible assumption) | refine bw_alloc ?_ _ | refine bw_drew ?_))) rfl HYL.out (fun z => by cases z) (n5 + 1) HN5.out ?_
          intro a3 k3 w3 o3 g3 l3
          obtain ⟨s1, q1, q2, s2, f1, f2, f3⟩ := HM.out.grow ((by repeat (first | exact Below.refl _ _ | (with_reducible assumption) | refine bw_alloc ?_ _ | refine bw_drew ?_)) : Below V.heap.size V _) o3 g3 l3 HG.out HLN.out
          refine hK.out _ _ s1 (fun _ => ?_)
          clear hK K
          try simp only [Act.put, List.setIfInBounds_toArray, List.set_cons_zero, List.set_cons_succ]
          have F1 := Lib.hid f1
          have F2 := Lib.hid f2
          have F3 := Lib.hid f3
          clear f1 f2 f3 o3 g3 l3
          refine wpAnyH_ready (rs := [9]) (by kernel_rfl) (by simp) ?_
          refine AllReadyH.cons (o := { dst := some 31, op := .indexAddr 24 (.tmp 22) (.tmp 23), type := 0, pos := _, after := _, guard := none }) rfl (fun K hK => ?_) AllReadyH.nil
          go_simp
          refine hK.out _ _ (s1) (fun _ => ?_)
          clear hK K
          try simp only [Act.put, List.setIfInBounds_toArray, List.set_cons_zero, List.set_cons_succ]
          refine wpAnyH_ready (rs := [10]) (by kernel_rfl) (by simp) ?_
          refine AllReadyH.cons (o := { dst := none, op := .store 27 (.tmp 31) (.tmp 30), type := 0, pos := _, after := _, guard := none }) rfl (fun K hK => ?_) AllReadyH.nil
          go_simp
          refine hK.out _ _ (s2) (fun _ => ?_)
          clear hK K
          try simp only [Act.put, List.setIfInBounds_toArray, List.set_cons_zero, List.set_cons_succ]
          refine wpAnyH_done (by kernel_rfl) ?_ _
          gi_wp2
          exact ⟨by first | exact F1.out | (rw [← hsz]; exact F1.out), F2.out, F3.out⟩
    | false =>
      have d1 : (x.1.ln != ln) = false := by rw [bne_eq_false_iff_eq]; have := of_decide_eq_false hN; omega
      rw [if_neg (by simp)] at hG2
      have hxl9 : x.1.ln = ln := Decidable.byContradiction fun z => absurd hN (by rw [decide_eq_true z]; simp)
      rw [hG2] at hR
      obtain ⟨cs0, u, rfl, hc0⟩ := rows_split hR
      obtain ⟨g, c, e6, _, _⟩ := rows_at hR
      obtain ⟨p, hp⟩ : ∃ p, G0.length = p := ⟨_, rfl⟩
      rw [List.length_append, List.length_singleton, hp] at e6
      subst e6
      have hw9 : IntKind.i64.wrap (p : Int) = (p : Int) := by
        rw [List.length_append, List.length_singleton, hc0, hp] at hcl
        exact IntWalk.i64_in _ (by omega)
      have HM := Lib.hid (show Mid w W W s W0.heap.size x.1 g c p cs0 u G0 y from ⟨hv, hR, hp, by rw [hxl9]; exact hline, hB, KeepsFrom.refl _ _, KeepsWalks.refl _, fun z => z⟩)
      have HX : Hid (BoxW W Bx x.1) := bX
      clear hR hrow hp hcl hc0 hG2 hxl9 hN
      gi_wp2
      clear hc hn hfn x0 x1 x2 hw9 d1 hv hline hB bX
      obtain ⟨a5, d5, rfl, ou, hgc⟩ := HM.out.last
      obtain ⟨n5, hn5⟩ : ∃ n5, y.length = n5 := ⟨_, rfl⟩
      rw [hn5] at hgc ou HM
      have HU := Lib.hid ou
      have HYL : Hid (y.length + 1 ≤ 1000000) := by
        show _ ≤ _
        have := lrun_each ((pre ++ [x]).map (·.1)) ((pre ++ [x]).map (·.1)).length (y ++ [x.1]) (by have h := HG.out; unfold LG at h; rw [h]; simp)
        rw [List.length_append, List.length_map, List.length_append, List.length_singleton] at this
        simp at this
        omega
      have HN5 : Hid (y.length + 1 = n5 + 1) := by show _ = _; rw [hn5]
      have hSV := HM.out.hv.cell
      have hS : (fun w' : World => w'.cell? ⟨w.heap.size, 0, none⟩ = some (Value.slice (some ⟨g, 0, none⟩) (p + 1) c)) W.drew := hSV
      obtain ⟨x0, x1, x2⟩ := HX.out.wat
      have hgl := block_of_cell hgc
      have hxl := block_of_cell x0
      have hp1 : (p : Int) < (p : Int) + 1 := by omega
      have hp0 : (0 : Int) ≤ (p : Int) := by omega
      clear ou hn5
      refine region_round (fun w' : World => w'.cell? ⟨w.heap.size, 0, none⟩ = some (Value.slice (some ⟨g, 0, none⟩) (p + 1) c)) (by kernel_rfl) (by kernel_rfl) (by rintro ⟨_, _, h⟩; exact h) ?_
      refine wpAnyH_take (i := 0) (oi := { dst := some 22, op := .load 24 (.tmp 3), type := 24, pos := _, after := _, guard := none }) (v := Value.slice (some ⟨g, 0, none⟩) (p + 1) c) rfl (by kernel_rfl) (by kernel_rfl) (by kernel_rfl) (fun _ _ _ h => h) (Or.inl ⟨by rfl, ?_⟩) hS ?_
      · intro w' hw'
        have hw'' : w'.cell? ⟨w.heap.size, 0, none⟩ = some (Value.slice (some ⟨g, 0, none⟩) (p + 1) c) := hw'
        clear hw'
        go_simp
      simp only [Act.put, List.setIfInBounds_toArray, List.set_cons_zero, List.set_cons_succ]
      refine wpAnyH_take (i := 1) (oi := { dst := some 23, op := .move (.tmp 6), type := 3, pos := _, after := _, guard := none }) (v := .int .i64 p) rfl (by kernel_rfl) (by kernel_rfl) (by kernel_rfl) (fun _ _ _ h => h) (Or.inl ⟨by rfl, ?_⟩) hS ?_
      · intro w' hw'
        have hw'' : w'.cell? ⟨w.heap.size, 0, none⟩ = some (Value.slice (some ⟨g, 0, none⟩) (p + 1) c) := hw'
        clear hw'
        go_simp
      simp only [Act.put, List.setIfInBounds_toArray, List.set_cons_zero, List.set_cons_succ]
      refine wpAnyH_take (i := 2) (oi := { dst := some 24, op := .load 24 (.tmp 3), type := 24, pos := _, after := _, guard := none }) (v := Value.slice (some ⟨g, 0, none⟩) (p + 1) c) rfl (by kernel_rfl) (by kernel_rfl) (by kernel_rfl) (fun _ _ _ h => h) (Or.inl ⟨by rfl, ?_⟩) hS ?_
      · intro w' hw'
        have hw'' : w'.cell? ⟨w.heap.size, 0, none⟩ = some (Value.slice (some ⟨g, 0, none⟩) (p + 1) c) := hw'
        clear hw'
        go_simp
      simp only [Act.put, List.setIfInBounds_toArray, List.set_cons_zero, List.set_cons_succ]
      refine wpAnyH_take (i := 3) (oi := { dst := some 25, op := .move (.tmp 6), type := 3, pos := _, after := _, guard := none }) (v := .int .i64 p) rfl (by kernel_rfl) (by kernel_rfl) (by kernel_rfl) (fun _ _ _ h => h) (Or.inl ⟨by rfl, ?_⟩) hS ?_
      · intro w' hw'
        have hw'' : w'.cell? ⟨w.heap.size, 0, none⟩ = some (Value.slice (some ⟨g, 0, none⟩) (p + 1) c) := hw'
        clear hw'
        go_simp
      simp only [Act.put, List.setIfInBounds_toArray, List.set_cons_zero, List.set_cons_succ]
      refine wpAnyH_take (i := 4) (oi := { dst := some 26, op := .indexAddr 24 (.tmp 24) (.tmp 25), type := 0, pos := _, after := _, guard := none }) (v := .pointer (some ⟨g, p, none⟩)) rfl (by kernel_rfl) (by kernel_rfl) (by kernel_rfl) (fun _ _ _ h => h) (Or.inl ⟨by rfl, ?_⟩) hS ?_
      · intro w' hw'
        have hw'' : w'.cell? ⟨w.heap.size, 0, none⟩ = some (Value.slice (some ⟨g, 0, none⟩) (p + 1) c) := hw'
        clear hw'
        go_simp
      simp only [Act.put, List.setIfInBounds_toArray, List.set_cons_zero, List.set_cons_succ]
      refine wpAnyH_ready (rs := [5, 6]) (by kernel_rfl) (by simp) ?_
      refine AllReadyH.cons (o := { dst := some 27, op := .load 27 (.tmp 26), type := 27, pos := _, after := _, guard := none }) rfl (fun K hK => ?_) (AllReadyH.cons (o := { dst := some 28, op := .load WT (.tmp 5), type := WT, pos := _, after := _, guard := none }) rfl (fun K hK => ?_) AllReadyH.nil)
      · go_simp
        refine hK.out _ _ (by first | exact hS | exact (kept_cell ((by repeat (first | exact Below.refl _ _ | (with_reducible assumption) | refine bw_alloc ?_ _ | refine bw_drew ?_)) : Below W.heap.size W _) hSV)) (fun _ => ?_)
        clear hK K
        try simp only [Act.put, List.setIfInBounds_toArray, List.set_cons_zero, List.set_cons_succ]
        refine wpAnyH_ready (rs := [6]) (by kernel_rfl) (by simp) ?_
        refine AllReadyH.cons (o := { dst := some 28, op := .load WT (.tmp 5), type := WT, pos := _, after := _, guard := none }) rfl (fun K hK => ?_) AllReadyH.nil
        go_simp
        refine hK.out _ _ (by first | exact hS | exact (kept_cell ((by repeat (first | exact Below.refl _ _ | (with_reducible assumption) | refine bw_alloc ?_ _ | refine bw_drew ?_)) : Below W.heap.size W _) hSV)) (fun _ => ?_)
        clear hK K
        try simp only [Act.put, List.setIfInBounds_toArray, List.set_cons_zero, List.set_cons_succ]
        refine wpAnyH_ready (rs := [7]) (by kernel_rfl) (by simp) ?_
        refine AllReadyH.cons (o := { dst := some 29, op := .buildSlice 27 1 #[(0, .tmp 28)], type := 27, pos := _, after := _, guard := none }) rfl (fun K hK => ?_) AllReadyH.nil
        go_simp
        refine hK.out _ _ (by first | exact hS | exact (kept_cell ((by repeat (first | exact Below.refl _ _ | (with_reducible assumption) | refine bw_alloc ?_ _ | refine bw_drew ?_)) : Below W.heap.size W _) hSV)) (fun _ => ?_)
        clear hK K
        try simp only [Act.put, List.setIfInBounds_toArray, List.set_cons_zero, List.set_cons_succ]
        refine wpAnyH_ready (rs := [8]) (by kernel_rfl) (by simp) ?_
        refine AllReadyH.cons (o := { dst := some 30, op := .call { callee := .builtin .append, args := #[.tmp 27, .tmp 29], argTypes := #[27, 27] }, type := 27, pos := _, after := _, guard := none }) rfl (fun K hK => ?_) AllReadyH.nil
        refine step_wappend (m := 1) (l := [x.1]) rfl (.tmp 27) (.tmp 29) rfl (by rfl) (by rfl) (HU.out.below (by repeat (first | exact Below.refl _ _ | (with_reducible assumption) | refine bw_alloc ?_ _ | refine bw_drew ?_))) (Nat.le_trans HM.out.low.size ((by repeat (first | exact Below.refl _ _ | (with_reducible assumption) | refine bw_alloc ?_ _ | refine bw_drew ?_)) : Below W.heap.size W _).size) (by first | exact WView.of_at (wat_new _ x.1 _) | exact (WView.of_at (wat_new _ x.1 _)).below (by repeat (first | exact Below.refl _ _ | (with_reducible assumption) | refine bw_alloc ?_ _ | refine bw_drew ?_))) rfl HYL.out (fun z => by cases z) (n5 + 1) HN5.out ?_
        intro a3 k3 w3 o3 g3 l3
        obtain ⟨s1, q1, q2, s2, f1, f2, f3⟩ := HM.out.grow ((by repeat (first | exact Below.refl _ _ | (with_reducible assumption) | refine bw_alloc ?_ _ | refine bw_drew ?_)) : Below W.heap.size W _) o3 g3 l3 HG.out HLN.out
        refine hK.out _ _ s1 (fun _ => ?_)
        clear hK K
        try simp only [Act.put, List.setIfInBounds_toArray, List.set_cons_zero, List.set_cons_succ]
        have F1 := Lib.hid f1
        have F2 := Lib.hid f2
        have F3 := Lib.hid f3
        clear f1 f2 f3 o3 g3 l3
        refine wpAnyH_ready (rs := [9]) (by kernel_rfl) (by simp) ?_
        refine AllReadyH.cons (o := { dst := some 31, op := .indexAddr 24 (.tmp 22) (.tmp 23), type := 0, pos := _, after := _, guard := none }) rfl (fun K hK => ?_) AllReadyH.nil
        go_simp
        refine hK.out _ _ (s1) (fun _ => ?_)
        clear hK K
        try simp only [Act.put, List.setIfInBounds_toArray, List.set_cons_zero, List.set_cons_succ]
        refine wpAnyH_ready (rs := [10]) (by kernel_rfl) (by simp) ?_
        refine AllReadyH.cons (o := { dst := none, op := .store 27 (.tmp 31) (.tmp 30), type := 0, pos := _, after := _, guard := none }) rfl (fun K hK => ?_) AllReadyH.nil
        go_simp
        refine hK.out _ _ (s2) (fun _ => ?_)
        clear hK K
        try simp only [Act.put, List.setIfInBounds_toArray, List.set_cons_zero, List.set_cons_succ]
        refine wpAnyH_done (by kernel_rfl) ?_ _
        gi_wp2
        exact ⟨by first | exact F1.out | (rw [← hsz]; exact F1.out), F2.out, F3.out⟩
      · go_simp
        refine hK.out _ _ (by first | exact hS | exact (kept_cell ((by repeat (first | exact Below.refl _ _ | (with_reducible assumption) | refine bw_alloc ?_ _ | refine bw_drew ?_)) : Below W.heap.size W _) hSV)) (fun _ => ?_)
        clear hK K
        try simp only [Act.put, List.setIfInBounds_toArray, List.set_cons_zero, List.set_cons_succ]
        refine wpAnyH_ready (rs := [5, 7]) (by kernel_rfl) (by simp) ?_
        refine AllReadyH.cons (o := { dst := some 27, op := .load 27 (.tmp 26), type := 27, pos := _, after := _, guard := none }) rfl (fun K hK => ?_) (AllReadyH.cons (o := { dst := some 29, op := .buildSlice 27 1 #[(0, .tmp 28)], type := 27, pos := _, after := _, guard := none }) rfl (fun K hK => ?_) AllReadyH.nil)
        · go_simp
          refine hK.out _ _ (by first | exact hS | exact (kept_cell ((by repeat (first | exact Below.refl _ _ | (with_reducible assumption) | refine bw_alloc ?_ _ | refine bw_drew ?_)) : Below W.heap.size W _) hSV)) (fun _ => ?_)
          clear hK K
          try simp only [Act.put, List.setIfInBounds_toArray, List.set_cons_zero, List.set_cons_succ]
          refine wpAnyH_ready (rs := [7]) (by kernel_rfl) (by simp) ?_
          refine AllReadyH.cons (o := { dst := some 29, op := .buildSlice 27 1 #[(0, .tmp 28)], type := 27, pos := _, after := _, guard := none }) rfl (fun K hK => ?_) AllReadyH.nil
          go_simp
          refine hK.out _ _ (by first | exact hS | exact (kept_cell ((by repeat (first | exact Below.refl _ _ | (with_reducible assumption) | refine bw_alloc ?_ _ | refine bw_drew ?_)) : Below W.heap.size W _) hSV)) (fun _ => ?_)
          clear hK K
          try simp only [Act.put, List.setIfInBounds_toArray, List.set_cons_zero, List.set_cons_succ]
          refine wpAnyH_ready (rs := [8]) (by kernel_rfl) (by simp) ?_
          refine AllReadyH.cons (o := { dst := some 30, op := .call { callee := .builtin .append, args := #[.tmp 27, .tmp 29], argTypes := #[27, 27] }, type := 27, pos := _, after := _, guard := none }) rfl (fun K hK => ?_) AllReadyH.nil
          refine step_wappend (m := 1) (l := [x.1]) rfl (.tmp 27) (.tmp 29) rfl (by rfl) (by rfl) (HU.out.below (by repeat (first | exact Below.refl _ _ | (with_reducible assumption) | refine bw_alloc ?_ _ | refine bw_drew ?_))) (Nat.le_trans HM.out.low.size ((by repeat (first | exact Below.refl _ _ | (with_reducible assumption) | refine bw_alloc ?_ _ | refine bw_drew ?_)) : Below W.heap.size W _).size) (by first | exact WView.of_at (wat_new _ x.1 _) | exact (WView.of_at (wat_new _ x.1 _)).below (by repeat (first | exact Below.refl _ _ | (with_reducible assumption) | refine bw_alloc ?_ _ | refine bw_drew ?_))) rfl HYL.out (fun z => by cases z) (n5 + 1) HN5.out ?_
          intro a3 k3 w3 o3 g3 l3
          obtain ⟨s1, q1, q2, s2, f1, f2, f3⟩ := HM.out.grow ((by repeat (first | exact Below.refl _ _ | (with_reducible assumption) | refine bw_alloc ?_ _ | refine bw_drew ?_)) : Below W.heap.size W _) o3 g3 l3 HG.out HLN.out
          refine hK.out _ _ s1 (fun _ => ?_)
          clear hK K
          try simp only [Act.put, List.setIfInBounds_toArray, List.set_cons_zero, List.set_cons_succ]
          have F1 := Lib.hid f1
          have F2 := Lib.hid f2
          have F3 := Lib.hid f3
          clear f1 f2 f3 o3 g3 l3
          refine wpAnyH_ready (rs := [9]) (by kernel_rfl) (by simp) ?_
          refine AllReadyH.cons (o := { dst := some 31, op := .indexAddr 24 (.tmp 22) (.tmp 23), type := 0, pos := _, after := _, guard := none }) rfl (fun K hK => ?_) AllReadyH.nil
          go_simp
          refine hK.out _ _ (s1) (fun _ => ?_)
          clear hK K
          try simp only [Act.put, List.setIfInBounds_toArray, List.set_cons_zero, List.set_cons_succ]
          refine wpAnyH_ready (rs := [10]) (by kernel_rfl) (by simp) ?_
          refine AllReadyH.cons (o := { dst := none, op := .store 27 (.tmp 31) (.tmp 30), type := 0, pos := _, after := _, guard := none }) rfl (fun K hK => ?_) AllReadyH.nil
          go_simp
          refine hK.out _ _ (s2) (fun _ => ?_)
          clear hK K
          try simp only [Act.put, List.setIfInBounds_toArray, List.set_cons_zero, List.set_cons_succ]
          refine wpAnyH_done (by kernel_rfl) ?_ _
          gi_wp2
          exact ⟨by first | exact F1.out | (rw [← hsz]; exact F1.out), F2.out, F3.out⟩
        · go_simp
          refine hK.out _ _ (by first | exact hS | exact (kept_cell ((by repeat (first | exact Below.refl _ _ | (with_reducible assumption) | refine bw_alloc ?_ _ | refine bw_drew ?_)) : Below W.heap.size W _) hSV)) (fun _ => ?_)
          clear hK K
          try simp only [Act.put, List.setIfInBounds_toArray, List.set_cons_zero, List.set_cons_succ]
          refine wpAnyH_ready (rs := [5]) (by kernel_rfl) (by simp) ?_
          refine AllReadyH.cons (o := { dst := some 27, op := .load 27 (.tmp 26), type := 27, pos := _, after := _, guard := none }) rfl (fun K hK => ?_) AllReadyH.nil
          go_simp
          refine hK.out _ _ (by first | exact hS | exact (kept_cell ((by repeat (first | exact Below.refl _ _ | (with_reducible assumption) | refine bw_alloc ?_ _ | refine bw_drew ?_)) : Below W.heap.size W _) hSV)) (fun _ => ?_)
          clear hK K
          try simp only [Act.put, List.setIfInBounds_toArray, List.set_cons_zero, List.set_cons_succ]
          refine wpAnyH_ready (rs := [8]) (by kernel_rfl) (by simp) ?_
          refine AllReadyH.cons (o := { dst := some 30, op := .call { callee := .builtin .append, args := #[.tmp 27, .tmp 29], argTypes := #[27, 27] }, type := 27, pos := _, after := _, guard := none }) rfl (fun K hK => ?_) AllReadyH.nil
          refine step_wappend (m := 1) (l := [x.1]) rfl (.tmp 27) (.tmp 29) rfl (by rfl) (by rfl) (HU.out.below (by repeat (first | exact Below.refl _ _ | (with_reducible assumption) | refine bw_alloc ?_ _ | refine bw_drew ?_))) (Nat.le_trans HM.out.low.size ((by repeat (first | exact Below.refl _ _ | (with_reducible assumption) | refine bw_alloc ?_ _ | refine bw_drew ?_)) : Below W.heap.size W _).size) (by first | exact WView.of_at (wat_new _ x.1 _) | exact (WView.of_at (wat_new _ x.1 _)).below (by repeat (first | exact Below.refl _ _ | (with_reducible assumption) | refine bw_alloc ?_ _ | refine bw_drew ?_))) rfl HYL.out (fun z => by cases z) (n5 + 1) HN5.out ?_
          intro a3 k3 w3 o3 g3 l3
          obtain ⟨s1, q1, q2, s2, f1, f2, f3⟩ := HM.out.grow ((by repeat (first | exact Below.refl _ _ | (with_reducible assumption) | refine bw_alloc ?_ _ | refine bw_drew ?_)) : Below W.heap.size W _) o3 g3 l3 HG.out HLN.out
          refine hK.out _ _ s1 (fun _ => ?_)
          clear hK K
          try simp only [Act.put, List.setIfInBounds_toArray, List.set_cons_zero, List.set_cons_succ]
          have F1 := Lib.hid f1
          have F2 := Lib.hid f2
          have F3 := Lib.hid f3
          clear f1 f2 f3 o3 g3 l3
          refine wpAnyH_ready (rs := [9]) (by kernel_rfl) (by simp) ?_
          refine AllReadyH.cons (o := { dst := some 31, op := .indexAddr 24 (.tmp 22) (.tmp 23), type := 0, pos := _, after := _, guard := none }) rfl (fun K hK => ?_) AllReadyH.nil
          go_simp
          refine hK.out _ _ (s1) (fun _ => ?_)
          clear hK K
          try simp only [Act.put, List.setIfInBounds_toArray, List.set_cons_zero, List.set_cons_succ]
          refine wpAnyH_ready (rs := [10]) (by kernel_rfl) (by simp) ?_
          refine AllReadyH.cons (o := { dst := none, op := .store 27 (.tmp 31) (.tmp 30), type := 0, pos := _, after := _, guard := none }) rfl (fun K hK => ?_) AllReadyH.nil
          go_simp
          refine hK.out _ _ (s2) (fun _ => ?_)
          clear hK K
          try simp only [Act.put, List.setIfInBounds_toArray, List.set_cons_zero, List.set_cons_succ]
          refine wpAnyH_done (by kernel_rfl) ?_ _
          gi_wp2
          exact ⟨by first | exact F1.out | (rw [← hsz]; exact F1.out), F2.out, F3.out⟩
  case done =>
    rintro D ys W hD hS ⟨⟨v, cs, hv, hR⟩, hline, hB⟩ hK
    have hc := hv.cell
    clear IT
    gi_wp2
    refine ⟨by simp, .inl ⟨_, _, rfl, run_takeDeferred hK, ?_⟩⟩
    have hG : LG (ys.map (·.1)) = linesOf s := by rw [hS]; rfl
    rw [hG] at hR
    obtain ⟨a, c, e, hac, hcm, _⟩ := hR.own.slice
    rw [hR.len] at e
    subst e
    have hRD : Rows (W.putObj D (.deferred none)) w.heap.size (.slice a (linesOf s).length c) cs (linesOf s) := hR.aside (grownBy_putObj' W D _) (fun r e => by cases e; exact ⟨_, hK, rfl⟩)
    exact ⟨_, results_tmp rfl _ _ _, a, c, w.heap.size, cs, rfl, Nat.le_refl _, hRD, hB.trans (belowK_b (w := w) (Nat.le_refl _) W D _ _ (by omega) hK rfl rfl)⟩
  case stop =>
    rintro D c pre W _ _ h _
    exact h.elim
end Go.Proofs.YtbipjilpogbicaaDoor
