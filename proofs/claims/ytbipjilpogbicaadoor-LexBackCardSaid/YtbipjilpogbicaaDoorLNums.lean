/-
  The walk over numbers of a text, with commas between them.
-/
import Derived.Test.YtbipjilpogbicaaDoorLSplit
namespace Go.Proofs.YtbipjilpogbicaaDoor
open Go.RowKit Go.Maps Go.Shelf
attribute [local go_sem] Oper.semAt_some

abbrev Pc := { x : ByteArray // x.size ≤ 900000 }
theorem split_tells (n : Nat) (hn : 1 ≤ n) (b : Nat) (s : ByteArray) (hs : s.size ≤ 900000) (w : World) (h0 : TextBox w b s) (h1 : TextBox w (b + 1) ⟨#[44]⟩) (h2 : Boxed w (b + 2) 3 (.int .i64 0)) :
    Tells n Tryd.prog 42 #[.pointer (some ⟨b + 1, 0, none⟩), .pointer (some ⟨b, 0, none⟩), .pointer (some ⟨b + 2, 0, none⟩)] (fun x : Pc => #[.string x.1]) (KpB b) (StB b) (fun ys => ys.map (·.1) = pieces s) (fun ys => ys.map (·.1) <+: pieces s) (s.size + 1) w :=
  fun l J Jx W hW hJ hY hs0 =>
    (split_in n hn l b s hs (fun q W => ∃ q' : List Pc, q'.map (·.1) = q ∧ J q' W) (fun q W => ∃ q' : List Pc, q'.map (·.1) = q ∧ Jx q' W) W
      (fun q X Y ⟨q', e, h⟩ st => ⟨q', e, hJ _ _ _ h st⟩)
      (fun pre x W1 hx ⟨q', e, h⟩ hlen => by
        subst e
        obtain ⟨fn, tmps, assign, body, hy, hR⟩ := hY q' ⟨x, hx⟩ W1 h (by simpa using hlen)
        refine ⟨fn, tmps, assign, body, hy, hR.mono ?_⟩
        rintro e W' (⟨rfl, hj, hk⟩ | ⟨rfl, hj⟩)
        · exact .inl ⟨rfl, ⟨_, by simp, hj⟩, hk⟩
        · exact .inr ⟨rfl, _, by simp, hj⟩)
      (kept_obj hW h0) (kept_obj hW h1) (kept_obj hW h2) ⟨[], rfl, hs0⟩).mono fun e W' ⟨hv, h⟩ => ⟨hv, by
        rcases h with ⟨ys, rfl, q', e, hj⟩ | ⟨pre, hp, q', e, hj⟩
        · exact .inl ⟨q', e, hj⟩
        · exact .inr ⟨q', (by show q'.map (·.1) <+: _; rw [e]; exact hp), hj⟩⟩
theorem splitseq_val (s : ByteArray) (n : Nat) (w : World) :
    CallsIn Fence.wide n Tryd.prog 38 #[.string s, .string ⟨#[44]⟩, .int .i64 0] w fun e w' => e = .returned (.func (.func 42) #[] #[.pointer (some ⟨w.heap.size + 1, 0, none⟩), .pointer (some ⟨w.heap.size, 0, none⟩), .pointer (some ⟨w.heap.size + 2, 0, none⟩)]) ∧
      w' = ((w.alloc (.cells #[.string s] 9)).alloc (.cells #[.string ⟨#[44]⟩] 9)).alloc (.cells #[.int .i64 0] 3) := by
  have hmf : ∀ (fn : Fn) (first cap : Array Value) (w : World), (Instr.makeFunc fn first cap).run Tryd.prog w = .ok (.func fn first cap) w := fun _ _ _ _ => rfl
  refine callsIn_of_wp Tryd.func38 rfl trivial ?_ rfl
  simp only [Tryd.ntmps38, List.size_toArray, List.length_cons, List.length_nil, Nat.reduceAdd, Nat.reduceSub, Array.replicate_succ, Array.replicate_zero, List.push_toArray, List.append_toArray, List.nil_append, List.cons_append]
  gi_wp2
  go_ret
  exact ⟨rfl, rfl⟩
theorem seq_val (s : ByteArray) (n : Nat) (hn : 1 ≤ n) (w : World) :
    CallsIn Fence.wide n Tryd.prog 29 #[.string s, .string ⟨#[44]⟩] w fun e w' => e = .returned (.func (.func 42) #[] #[.pointer (some ⟨w.heap.size + 1, 0, none⟩), .pointer (some ⟨w.heap.size, 0, none⟩), .pointer (some ⟨w.heap.size + 2, 0, none⟩)]) ∧
      w' = ((w.alloc (.cells #[.string s] 9)).alloc (.cells #[.string ⟨#[44]⟩] 9)).alloc (.cells #[.int .i64 0] 3) := by
  have SV := Lib.hid (fun n w => splitseq_val s n w)
  refine callsIn_of_wp Tryd.func29 rfl trivial ?_ rfl
  simp only [Tryd.ntmps29, List.size_toArray, List.length_cons, List.length_nil, Nat.reduceAdd, Nat.reduceSub, Array.replicate_succ, Array.replicate_zero, List.push_toArray, List.append_toArray, List.nil_append, List.cons_append]
  gi_wp2_with (refine ⟨trivial, ?_⟩; gi_at_call 38; (refine (SV.out _ _).mono ?_); rintro e w' ⟨rfl, rfl⟩)
  go_ret
  exact ⟨rfl, rfl⟩

/-- What a reader of numbers holds between two pieces. -/
structure NI (most : Int) (w W : World) (l : List Int) : Prop where
  row : ∃ v, Boxed W (w.heap.size + 3) 30 v ∧ W.ownsRow (w.heap.size + 1) 2 1 v l.length (vi l) ∧ True
  bound : Boxed W w.heap.size 2 (.int .i64 most)
  r0 : Boxed W (w.heap.size + 1) 30 (.slice none 0 0)
  r1 : Boxed W (w.heap.size + 2) 4 (.bool false)
  low : Below w.heap.size w W
theorem boxed_keep {X Y : World} {B : Nat} {T : TypeId} {v : Value} {row : Option Nat} (h : Boxed X B T v) (hg : X.grownBy Y row) (hr : ∀ r, row = some r → ∃ o : Obj, X.heap[r]? = some o ∧ o.isCells = false) : Boxed Y B T v :=
  boxed_own (β := Unit) B T (fun _ => v) () X Y row h hg hr
theorem NI.own (most : Int) (w : World) {β : Type} (f : β → List Int) {B : Nat} (hB : w.heap.size ≤ B) : OwnFrom B (fun s W => NI most w W (f s)) := fun s X Y row hs hg hr => by
  have hc : ∀ r, row = some r → ∃ o : Obj, X.heap[r]? = some o ∧ o.isCells = false := fun r e => (hr r e).2
  exact ⟨holdsRow_own (w.heap.size + 1) (w.heap.size + 3) 30 2 1 (fun s => (f s).length) (fun s => vi (f s)) (fun _ _ => True) s X Y row hs.row hg hc, boxed_keep hs.bound hg hc, boxed_keep hs.r0 hg hc, boxed_keep hs.r1 hg hc,
    ownFrom_below (β := Unit) (Nat.le_refl _) hB () X Y row hs.low hg hr⟩
theorem NI.step {most : Int} {w X Y : World} {l : List Int} (h : NI most w X l) (st : StB (w.heap.size + 4) X Y) : NI most w Y l := by
  obtain ⟨t, u, ht, rfl⟩ := st
  obtain ⟨⟨v, hv, hrow, _⟩, h2, h3, h4, h5⟩ := h
  exact ⟨⟨v, hv.other (by omega) _, hrow.kept (grownBy_setCell' X (w.heap.size + 4) _) (.inr (ht.not_row (by decide) hrow).symm), trivial⟩, h2.other (by omega) _, h3.other (by omega) _, h4.other (by omega) _, h5.setCell (p := ⟨w.heap.size + 4, 0, none⟩) (by simp) _⟩
theorem NI.below {most : Int} {w X Y : World} {l : List Int} (h : NI most w X l) (hb : Below X.heap.size X Y) : NI most w Y l := by
  obtain ⟨⟨v, hv, hrow, _⟩, h2, h3, h4, h5⟩ := h
  exact ⟨⟨v, kept_obj hb hv, OwnI.below hrow hb, trivial⟩, kept_obj hb h2, kept_obj hb h3, kept_obj hb h4, below_up h5 hb⟩
/-- .. and when a piece was none. -/
structure NX (w W : World) : Prop where
  r0 : Boxed W (w.heap.size + 1) 30 (.slice none 0 0)
  r1 : Boxed W (w.heap.size + 2) 4 (.bool false)
  low : Below w.heap.size w W
theorem NX.own (w : World) {B : Nat} (hB : w.heap.size ≤ B) {X Y : World} {row : Option Nat} (hs : NX w X) (hg : X.grownBy Y row) (hr : ∀ r, row = some r → B ≤ r ∧ ∃ o : Obj, X.heap[r]? = some o ∧ o.isCells = false) : NX w Y := by
  have hc : ∀ r, row = some r → ∃ o : Obj, X.heap[r]? = some o ∧ o.isCells = false := fun r e => (hr r e).2
  exact ⟨boxed_keep hs.r0 hg hc, boxed_keep hs.r1 hg hc, ownFrom_below (β := Unit) (Nat.le_refl _) hB () X Y row hs.low hg hr⟩
theorem boxed_at (w : World) {k : Nat} (hk : w.heap.size = k) (T : TypeId) (v : Value) : Boxed (w.alloc (.cells #[v] T)) k T v := by subst hk; exact Boxed.new w T v
theorem keepsFrom_below {B : Nat} {X Y : World} (hb : Below X.heap.size X Y) : KeepsFrom B X Y := ⟨hb.size, fun k o _ hk _ => kept_obj hb hk⟩
theorem kpB_below {b : Nat} {X Y : World} (hb : Below X.heap.size X Y) : KpB b X Y := fun _ _ _ _ _ _ z => kept_obj hb z

set_option maxRecDepth 100000 in
set_option maxHeartbeats 4000000 in
theorem numbers_any (s : ByteArray) (hs : s.size ≤ 900000) (most : Int) (hmost : I64 most) (w : World) : Calls Tryd.prog 18 #[.string s, .int .i64 most] w (NumsB (numsOf s most) w) := by
  rw [numsOf_is]
  have SV := Lib.hid (fun n hn w => seq_val s n hn w)
  have IT := Lib.hid (fun n hn b w h0 h1 h2 => split_tells n hn b s hs w h0 h1 h2)
  obtain ⟨i0, hi, hz0, hz1, hz2⟩ := numL.info
  refine (callsIn_wide (n := 4)).1 ?_
  refine callsIn_of_wp_marks Tryd.func18 rfl trivial ?_ rfl
  simp only [Tryd.ntmps18, List.size_toArray, List.length_cons, List.length_nil, Nat.reduceAdd, Nat.reduceSub, Array.replicate_succ, Array.replicate_zero, List.push_toArray, List.append_toArray, List.nil_append, List.cons_append]
  gi_wp2_with (refine ⟨trivial, ?_⟩; gi_at_call 29; (refine (SV.out _ (by omega) _).mono ?_); rintro e w' ⟨rfl, rfl⟩)
  obtain ⟨W0, hW0⟩ : ∃ W0, ((((((w.alloc (.cells #[.int .i64 most] 2)).alloc (.cells #[.slice none 0 0] 30)).alloc (.cells #[.bool false] 4)).alloc (.cells #[.slice none 0 0] 30)).alloc (.cells #[.string s] 9)).alloc (.cells #[.string ⟨#[44]⟩] 9)).alloc (.cells #[.int .i64 0] 3) = W0 := ⟨_, rfl⟩
  have hsz : W0.heap.size = w.heap.size + 7 := by rw [← hW0]; simp
  have c0 : Boxed W0 w.heap.size 2 (.int .i64 most) := by rw [← hW0]; exact (((((((boxed_at w rfl _ _).alloc _).alloc _).alloc _).alloc _).alloc _).alloc _)
  have c1 : Boxed W0 (w.heap.size + 1) 30 (.slice none 0 0) := by rw [← hW0]; exact ((((((boxed_at _ (by simp) _ _).alloc _).alloc _).alloc _).alloc _).alloc _)
  have c2 : Boxed W0 (w.heap.size + 2) 4 (.bool false) := by rw [← hW0]; exact (((((boxed_at _ (by simp) _ _).alloc _).alloc _).alloc _).alloc _)
  have c3 : Boxed W0 (w.heap.size + 3) 30 (.slice none 0 0) := by rw [← hW0]; exact ((((boxed_at _ (by simp) _ _).alloc _).alloc _).alloc _)
  have c4 : TextBox W0 (w.heap.size + 4) s := by rw [← hW0]; exact (((boxed_at _ (by simp) _ _).alloc _).alloc _)
  have c5 : TextBox W0 (w.heap.size + 5) ⟨#[44]⟩ := by rw [← hW0]; exact ((boxed_at _ (by simp) _ _).alloc _)
  have c6 : Boxed W0 (w.heap.size + 6) 3 (.int .i64 0) := by rw [← hW0]; exact (boxed_at _ (by simp) _ _)
  have cb : Below w.heap.size w W0 := by rw [← hW0]; exact bw_alloc (bw_alloc (bw_alloc (bw_alloc (bw_alloc (bw_alloc (bw_alloc (Below.refl _ _) _) _) _) _) _) _) _
  rw [hW0]
  clear SV hW0
  refine range_tells (n := 4) (by omega) (gf := 42) (lb := #[.pointer (some ⟨w.heap.size + 5, 0, none⟩), .pointer (some ⟨w.heap.size + 4, 0, none⟩), .pointer (some ⟨w.heap.size + 6, 0, none⟩)]) rfl (enters_of Tryd.func42 (by kernel_rfl) rfl)
    (IT.out _ (by omega) (w.heap.size + 4) W0 c4 c5 c6) kpB_t kpB_b (fun X Y ⟨t, u, _, e⟩ => by subst e; exact (KeepsOthers.setCell _ _ _).from _) (fun _ => rfl)
    (fun pre W => ∃ l, numsL most (pre.map (·.1)) = some l ∧ l.length = pre.length ∧ NI most w W l)
    (fun pre W => numsL most (pre.map (·.1)) = none ∧ NX w W)
    (fun _ X Y row ⟨l, e1, e2, e3⟩ hg hr => ⟨l, e1, e2, NI.own most w (fun _ : Unit => l) (by omega) () X Y row e3 hg hr⟩)
    (fun _ X Y ⟨l, e1, e2, e3⟩ st => ⟨l, e1, e2, e3.step st⟩)
    (fun _ X Y row ⟨e1, e2⟩ hg hr => ⟨e1, NX.own w (by omega) e2 hg hr⟩)
    ⟨[], rfl, rfl, ⟨_, c3, World.ownsRow_nil _ _ _ _, trivial⟩, c0, c1, c2, cb⟩
    (fun x => { tmps := #[.string s, .int .i64 most, undef, .pointer (some ⟨w.heap.size, 0, none⟩), .pointer (some ⟨w.heap.size + 1, 0, none⟩), .pointer (some ⟨w.heap.size + 2, 0, none⟩), .pointer (some ⟨w.heap.size + 3, 0, none⟩), .string x.1, undef, undef, .string s, .func (.func 42) #[] #[.pointer (some ⟨w.heap.size + 5, 0, none⟩), .pointer (some ⟨w.heap.size + 4, 0, none⟩), .pointer (some ⟨w.heap.size + 6, 0, none⟩)], .string x.1, undef, undef, undef, undef, undef, undef, undef, undef, undef, undef, undef, undef, undef], defers := [] })
    ?assign ?body ?done ?stop
  case assign =>
    intro l x W K hK
    gi_wp2
    exact hK
  case body =>
    rintro l pre x W ⟨q, hq, hql, hN⟩ hlt
    clear IT c0 c1 c2 c3 c4 c5 c6 cb
    have hbd := hN.bound.cell
    have HN := Lib.hid hN
    have HQL := Lib.hid hql
    have hq9 : q.length ≤ 900000 := by omega
    clear hN hql
    cases hx : numOf x.1 most with
    | none =>
      have NU : Hid (∀ w, Calls Tryd.prog 16 #[.string x.1, .int .i64 most] w fun e w' => e = .returned (.tuple #[.int .i64 0, .bool false]) ∧ Below w.heap.size w w') := fun w => by
        have := number_any x.1 (by have := x.2; omega) most hmost w
        rw [hx] at this; exact this
      have HX : Hid (numsL most ((pre ++ [x]).map (·.1)) = none) := by
        show _ = _; rw [List.map_append, List.map_singleton, numsL_snoc, hq]; simp only []; rw [hx]
      clear hx
      gi_wp2_with (refine ⟨trivial, ?_⟩; gi_at_call 16; refine (CallsIn.inRound l (callsIn_wide.2 (NU.out _))).mono ?_; rintro e w5 ⟨rfl, b5⟩; have N5 := HN.out.below b5; have k1 := N5.r0.cell; have f1 := N5.r0.frozen; have k2 := N5.r1.cell; have f2 := N5.r1.frozen)
      exact ⟨((keepsFrom_below b5).trans ((KeepsOthers.setCell _ _ _).from _)).trans ((KeepsOthers.setCell _ _ _).from _), HX.out, (N5.r0.set _).other (by omega) _, (N5.r1.other (by omega) _).set _, (N5.low.setCell (p := ⟨w.heap.size + 1, 0, none⟩) (by simp) _).setCell (p := ⟨w.heap.size + 2, 0, none⟩) (by simp) _⟩
    | some m =>
      have NU : Hid (∀ w, Calls Tryd.prog 16 #[.string x.1, .int .i64 most] w fun e w' => e = .returned (.tuple #[.int .i64 m, .bool true]) ∧ Below w.heap.size w w') := fun w => by
        have := number_any x.1 (by have := x.2; omega) most hmost w
        rw [hx] at this; exact this
      have HX : Hid (numsL most ((pre ++ [x]).map (·.1)) = some (q ++ [(m : Int)])) := by
        show _ = _; rw [List.map_append, List.map_singleton, numsL_snoc, hq]; simp only []; rw [hx]
      clear hx
      gi_wp2_with (first | (refine ⟨trivial, ?_⟩; gi_at_call 16; refine (CallsIn.inRound l (callsIn_wide.2 (NU.out _))).mono ?_; rintro e w5 ⟨rfl, b5⟩; obtain ⟨⟨v, hv, hrow, _⟩, hb0, hr0, hr1, hlow⟩ := HN.out.below b5; have hc := hv.cell) | (gi_at_builtin; refine wpListIn_append_own _ rfl _ _ 30 rfl (w.heap.size + 1) 2 i0 (.int .i64 0) 1 8 Tryd.underlying30 hi hz0 hz1 hz2 rfl (by decide) _ _ _ rfl (hrow.alloc _) ⟨w5.heap.size, 0, none⟩ 1 1 [.int .i64 (m : Int)] rfl rfl (cell_one_new _ _ _) (by simp [Value.oneCell']) (by unfold maxLen; omega) (by omega) (by have := hv.lt; simp; omega) ?_; intro v' w6 hown' hgrow _; obtain ⟨g', cap', rfl⟩ := ownsRow_succ hown'; obtain ⟨hv1, hv2, hr2, hk2, hb2⟩ := hv.appended (by decide) hrow (by have := hv.lt; omega) (by omega) hown' hgrow; have hc1 := hv1.cell; have hf1 := hv1.frozen))
      refine ⟨(keepsFrom_below b5).trans (hk2.from _), kpB_t (kpB_below b5) (fun B T u hB1 hB2 hT z => ((z.alloc _).kept hgrow (z.not_row hT hrow)).other (by omega) _), q ++ [(m : Int)], HX.out, by rw [List.length_append, List.length_append, HQL.out]; rfl, ⟨_, hv2, ?_, trivial⟩,
        ((hb0.alloc _).kept hgrow (fun e => by have := hrow.lt _ e.symm; omega)).other (by omega) _, ((hr0.alloc _).kept hgrow (hr0.not_row (by decide) hrow)).other (by omega) _, ((hr1.alloc _).kept hgrow (hr1.not_row (by decide) hrow)).other (by omega) _, hlow.trans (hb2.mono (by omega))⟩
      rw [List.length_append]
      unfold vi at hr2 ⊢
      rw [List.map_append]
      exact hr2
  case done =>
    rintro D ys W hD hS ⟨q, hq, hql, ⟨v, hv, hrow, _⟩, hb0, hr0, hr1, hlow⟩ hK
    obtain ⟨a, cp, rfl, hIn, hcp, hcm⟩ := OwnI.slice (l := q) hrow
    have hc : W.cell? ⟨w.heap.size + 1 + 1 + 1, 0, none⟩ = some (.slice a q.length cp) := hv.cell
    have HQL := Lib.hid hql
    clear hql
    have k1 := hr0.cell
    have f1 := hr0.frozen
    have k2 : W.cell? ⟨w.heap.size + 1 + 1, 0, none⟩ = some (.bool false) := hr1.cell
    have f2 : W.frozen? ⟨w.heap.size + 1 + 1, 0, none⟩ = false := hr1.frozen
    clear IT
    gi_wp2
    have hk : ((W.setCell ⟨w.heap.size + 1, 0, none⟩ (.slice a q.length cp)).setCell ⟨w.heap.size + 1 + 1, 0, none⟩ (.bool true)).heap[D]? = some (.deferred (some [])) := ((KeepsOthers.setCell _ _ _).trans (KeepsOthers.setCell _ _ _)).same D _ hK rfl
    have g1 : Boxed ((W.setCell ⟨w.heap.size + 1, 0, none⟩ (.slice a q.length cp)).setCell ⟨w.heap.size + 1 + 1, 0, none⟩ (.bool true)) (w.heap.size + 1) 30 (.slice a q.length cp) := (hr0.set _).other (by omega) _
    have z2 : Boxed (W.setCell ⟨w.heap.size + 1, 0, none⟩ (.slice a q.length cp)) (w.heap.size + 1 + 1) 4 (.bool false) := hr1.other (by omega) _
    have g2 : Boxed ((W.setCell ⟨w.heap.size + 1, 0, none⟩ (.slice a q.length cp)).setCell ⟨w.heap.size + 1 + 1, 0, none⟩ (.bool true)) (w.heap.size + 1 + 1) 4 (.bool true) := z2.set _
    have hl2 : Below w.heap.size w ((W.setCell ⟨w.heap.size + 1, 0, none⟩ (.slice a q.length cp)).setCell ⟨w.heap.size + 1 + 1, 0, none⟩ (.bool true)) := (hlow.setCell (p := ⟨w.heap.size + 1, 0, none⟩) (by simp) _).setCell (p := ⟨w.heap.size + 1 + 1, 0, none⟩) (by simp; omega) _
    have hr9 : OwnI ((W.setCell ⟨w.heap.size + 1, 0, none⟩ (.slice a q.length cp)).setCell ⟨w.heap.size + 1 + 1, 0, none⟩ (.bool true)) 2 (w.heap.size + 1) (.slice a q.length cp) q :=
      World.ownsRow.kept (World.ownsRow.kept hrow (grownBy_setCell' _ (w.heap.size + 1) _) (.inr (hr0.not_row (by decide) hrow).symm)) (grownBy_setCell' _ (w.heap.size + 1 + 1) _) (.inr (Ne.symm (hr1.not_row (by decide) hrow)))
    generalize ((W.setCell ⟨w.heap.size + 1, 0, none⟩ (.slice a q.length cp)).setCell ⟨w.heap.size + 1 + 1, 0, none⟩ (.bool true)) = V at hk g1 g2 hl2 hr9 ⊢
    have p1 : (V.putObj D (.deferred none)).cell? ⟨w.heap.size + 1, 0, none⟩ = some (.slice a q.length cp) := Boxed.cell (t := 30) ((World.putObj_heap_other (by omega)).trans g1)
    have p2 : (V.putObj D (.deferred none)).cell? ⟨w.heap.size + 1 + 1, 0, none⟩ = some (.bool true) := Boxed.cell (t := 4) ((World.putObj_heap_other (by omega)).trans g2)
    have hIn2 : Ints (V.putObj D (.deferred none)) a q := by
      obtain ⟨a', c', e', hI', _⟩ := OwnI.slice (l := q) (ownsRow_putObj hr9 (.deferred none) hk rfl)
      cases e'
      exact hI'
    refine ⟨by simp, .inl ⟨_, _, rfl, run_takeDeferred hk, ?_⟩⟩
    refine ⟨.tuple #[.slice a q.length cp, .bool true], by simp [results, Tryd.results18, go_sem, p1, p2], hl2.trans (belowK_b (w := w) (Nat.le_refl _) V D _ _ (by omega) hk rfl rfl), .inr ⟨q, a, cp, ?_, rfl, hIn2, by rw [HQL.out]; have := congrArg List.length hS; rw [List.length_map] at this; have h3 := prun_len s (s.size + 1); unfold pieces at this; omega⟩⟩
    rw [← hS, hq]
  case stop =>
    rintro D pre W hD hp ⟨hx, ⟨hr0, hr1, hlow⟩⟩ hK
    have k1 := hr0.cell
    have k2 : W.cell? ⟨w.heap.size + 1 + 1, 0, none⟩ = some (.bool false) := hr1.cell
    clear IT
    gi_wp2
    have p1 : (W.putObj D (.deferred none)).cell? ⟨w.heap.size + 1, 0, none⟩ = some (.slice none 0 0) := Boxed.cell (t := 30) ((World.putObj_heap_other (by omega)).trans hr0)
    have p2 : (W.putObj D (.deferred none)).cell? ⟨w.heap.size + 1 + 1, 0, none⟩ = some (.bool false) := Boxed.cell (t := 4) ((World.putObj_heap_other (by omega)).trans hr1)
    refine ⟨by simp, .inl ⟨_, _, rfl, run_takeDeferred hK, ?_⟩⟩
    refine ⟨.tuple #[.slice none 0 0, .bool false], by simp [results, Tryd.results18, go_sem, p1, p2], hlow.trans (belowK_b (w := w) (Nat.le_refl _) W D _ _ (by omega) hK rfl rfl), .inl ⟨numsL_pre most hp hx, rfl⟩⟩
end Go.Proofs.YtbipjilpogbicaaDoor
