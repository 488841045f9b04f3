/-
  The walk over a text's words, collected in a row.
-/
import Derived.Test.YtbipjilpogbicaaDoorLWd1
import Derived.Test.YtbipjilpogbicaaDoorLW1
import Derived.Maps.AppendAt
namespace Go.Proofs.YtbipjilpogbicaaDoor
open Go.RowKit Go.Maps Go.Shelf
attribute [local go_sem] Oper.semAt_some

theorem words_stops (n : Nat) (hn : 1 ≤ n) (Bn : Nat) (s : ByteArray) (hs : s.size ≤ 900000) (w : World) (hB : Boxed w Bn 9 (.string s)) :
    SeqStopsK Fence.wide n Tryd.prog 36 #[.pointer (some ⟨Bn, 0, none⟩)] (fun x : WV => #[x.val]) (KpW Bn s) (fun ys => ys = wordsOf s) (fun _ => True) (s.size + 1) w :=
  fun l J Jx W hW hJ _ hY h0 => words_in n hn l Bn s hs J Jx W hJ (fun pre x W1 _ h hl => hY pre x W1 h hl) (kept_obj hW hB) h0
/-- Where a text's function value lies. -/
theorem words_val (s : ByteArray) (n : Nat) (w : World) :
    CallsIn Fence.wide n Tryd.prog 28 #[.string s] w fun e w' => e = .returned (.func (.func 36) #[] #[.pointer (some ⟨w.heap.size, 0, none⟩)]) ∧ w' = w.alloc (.cells #[.string s] 9) := by
  have hmf : ∀ (fn : Fn) (first cap : Array Value) (w : World), (Instr.makeFunc fn first cap).run Tryd.prog w = .ok (.func fn first cap) w := fun _ _ _ _ => rfl
  refine callsIn_of_wp Tryd.func28 rfl trivial ?_ rfl
  simp only [Tryd.ntmps28, List.size_toArray, List.length_cons, List.length_nil, Nat.reduceAdd, Nat.reduceSub, Array.replicate_succ, Array.replicate_zero, List.push_toArray, List.append_toArray, List.nil_append, List.cons_append]
  gi_wp2
  go_ret
  exact ⟨rfl, rfl⟩
theorem keepsWalks_of {W W' : World} (h : KeepsOthers W W') : KeepsWalks W W' := ⟨h.size, fun k o hk ho => h.same k o hk (Obj.not_cells_of_walk ho)⟩
theorem wnews_of {w : World} {x : Addr} {l : List WV} (hv : WView w (some x) l) : ∀ j u, (wflat l)[j]? = some u → w.cell? (x.add j) = some u := by
  intro j u hj
  rcases hv with rfl | ⟨g, o, e, hc⟩
  · simp [wflat] at hj
  · cases e
    rw [addr_at]; exact hc j u hj
/-- A word in a box of a round's own. -/
def BoxW (W : World) (B : Nat) (x : WV) : Prop := W.heap[B]? = some (.cells #[.int .i64 x.at_, .int .i64 x.ln, .string x.tx] WT (0, 0))
theorem BoxW.wat {W : World} {B : Nat} {x : WV} (h : BoxW W B x) : WAt W B 0 x := ⟨by rw [blk_cell h]; rfl, by rw [blk_cell h]; rfl, by rw [blk_cell h]; rfl⟩
theorem BoxW.own {B : Nat} {x : WV} : Own (fun (_ : Unit) W => BoxW W B x) := fun s X Y row hs hg hrow => by
  refine (hg.block B (lt_of_block hs) (fun e => ?_)).trans hs
  obtain ⟨o, ho, hc⟩ := hrow B e.symm
  rw [show X.heap[B]? = _ from hs] at ho
  cases ho
  cases hc

set_option maxRecDepth 100000 in
set_option maxHeartbeats 4000000 in
theorem words_any (s : ByteArray) (hs : s.size ≤ 900000) (w : World) : Calls Tryd.prog 14 #[.string s] w (WordsBack (wordsOf s) w) := by
  have NU := Lib.hid (fun n w => words_val s n w)
  have IT := Lib.hid (fun n hn Bn w => words_stops n hn Bn s hs w)
  obtain ⟨i0, hi, hz0, hz1, hz2⟩ := winfoParts
  have hz := fun w : World => zeroWord w
  refine (callsIn_wide (n := 3)).1 ?_
  refine callsIn_of_wp_marks Tryd.func14 rfl trivial ?_ rfl
  simp only [Tryd.ntmps14, List.size_toArray, List.length_cons, List.length_nil, Nat.reduceAdd, Nat.reduceSub, Array.replicate_succ, Array.replicate_zero, List.push_toArray, List.append_toArray, List.nil_append, List.cons_append]
  gi_wp2_with (refine ⟨trivial, ?_⟩; gi_at_call 28; (refine (NU.out _ _).mono ?_); rintro e w' ⟨rfl, rfl⟩)
  have bL := Boxed.new w 27 (.slice none 0 0)
  have bS := Boxed.new (w.alloc (.cells #[.slice none 0 0] 27)) 9 (.string s)
  rw [World.size_alloc] at bS
  have hB1 := ((Below.refl w.heap.size w).alloc (Nat.le_refl _) (.cells #[.slice none 0 0] 27)).alloc (by simp) (.cells #[.string s] 9)
  refine wpIn_rangeFunc_ownH rfl (by omega) (gf := 36) (lb := #[.pointer (some ⟨w.heap.size + 1, 0, none⟩)]) rfl trivial (enters_of Tryd.func36 (by kernel_rfl) rfl)
    (IT.out _ (by omega) (w.heap.size + 1) _ bS) kpW_t (kpW_b (s := s) (Bn := w.heap.size + 1)) (Below.refl _ _) (fun _ => rfl)
    (fun pre W => (∃ v, Boxed W w.heap.size 27 v ∧ W.ownsRow w.heap.size WT 3 v pre.length (wflat pre) ∧ True) ∧ Below w.heap.size w W)
    (fun _ _ _ => False)
    (OwnFrom.and (Own.from (holdsRow_own w.heap.size w.heap.size 27 WT 3 (fun pre : List WV => pre.length) (fun pre : List WV => wflat pre) (fun _ _ => True)) _) (ownFrom_below (Nat.le_refl _) (by simp; omega)))
    (fun _ _ _ _ _ hs _ _ => hs)
    ⟨⟨_, bL.alloc _, (World.ownsRow_nil _ _ _ _), trivial⟩, hB1⟩
    (fun x a' W => ∃ Bx, BoxW W Bx x ∧ a' = { tmps := #[.string s, undef, .slice none 0 0, .pointer (some ⟨w.heap.size, 0, none⟩), .pointer (some ⟨Bx, 0, none⟩), .string s, .func (.func 36) #[] #[.pointer (some ⟨w.heap.size + 1, 0, none⟩)], x.val, undef, undef, undef, undef, undef], defers := [] })
    ?_ ?assign ?body ?done ?stop
  · rintro x a' u X Y row ⟨Bx, hb, ha⟩ hg hrow
    exact ⟨Bx, BoxW.own () X Y row hb hg (fun r e => (hrow r e).2), ha⟩
  case assign =>
    rintro l pre x W K ⟨⟨v, hv, hrow, _⟩, hB⟩ hK
    dsimp only [WV.val]
    clear NU IT
    gi_wp2
    exact hK _ _ ((KeepsOthers.alloc _ _).from _) ⟨keepsWalks_of (KeepsOthers.alloc _ _), fun z => z.alloc _⟩ ⟨⟨v, hv.alloc _, hrow.alloc _, trivial⟩, hB.alloc hB.size _⟩ ⟨W.heap.size, World.alloc_heap_new W _, rfl⟩
  case body =>
    rintro l pre x a' W hl hr ⟨⟨v, hv, hrow, _⟩, hB⟩ ⟨Bx, bX, rfl⟩ hlt
    have hc := hv.cell
    have hx := bX.wat
    obtain ⟨x0, x1, x2⟩ := hx
    have hpl : pre.length ≤ 900000 := by omega
    clear NU IT
    gi_wp2_with (gi_at_builtin; refine wpListIn_append_own _ rfl _ _ 27 rfl w.heap.size WT i0 _ 3 32 Tryd.underlying27 hi hz0 hz1 hz2 rfl (by decide) _ _ _ rfl (hrow.alloc _) ⟨W.heap.size, 0, none⟩ 1 1 (wflat [x]) rfl rfl (wnews_of (WView.of_at (wat_new _ x _))) (wflat_one [x]) (by unfold maxLen; omega) (by omega) (by have := hB.size; simp; omega) ?_; intro v' w3 hown' hgrow _; obtain ⟨g', cap', rfl⟩ := ownsRow_succ hown'; obtain ⟨hv1, hv2, hr2, hk2, hb2⟩ := hv.appended (by decide) hrow hB.size (by omega) hown' hgrow; have hc1 := hv1.cell; have hf1 := hv1.frozen)
    refine ⟨hk2.from _, ⟨keepsWalks_of hk2, fun z => ((z.alloc _).kept hgrow (z.not_row (by decide) hrow)).other (by omega) _⟩, ⟨_, hv2, ?_, trivial⟩, hB.trans hb2⟩
    rw [List.length_append, wflat_append]
    exact hr2
  case done =>
    rintro D ys W hD rfl ⟨⟨v, hv, hrow, _⟩, hB⟩ hK
    have hc := hv.cell
    clear NU IT
    gi_wp2
    refine ⟨by simp, .inl ⟨_, _, rfl, run_takeDeferred hK, ?_⟩⟩
    obtain ⟨a, cp, rfl, _⟩ := OwnW.slice (l := wordsOf s) hrow
    exact ⟨_, results_tmp rfl _ _ _, a, cp, rfl, ownsRow_putObj hrow _ hK rfl, hB.trans (belowK_b (w := w) (Nat.le_refl _) W D _ _ (by simp at hD; omega) hK rfl rfl)⟩
  case stop =>
    rintro D c pre W _ _ h _
    exact h.elim
end Go.Proofs.YtbipjilpogbicaaDoor
