/- Texts of this claim, put together: BListW, BRef5, BRef6, CW4, EAdd, EGrow, EBr, EGrow2, BMore, EW2, EMost, EAll, FCv, FW1. -/
import Derived.Test.YtlglncnhhgofoaaM4
import Derived.Laws.MakeOwn
import Derived.OwnWalk
import Derived.RangeFuncWrites
import Derived.Deep.RegionHeldLaw
import Derived.Deep.RegionHeld3
import Derived.Deep.CutBlock
import Derived.Deep.CutRange
import Derived.Deep.DeepCutAuto
set_option linter.unusedVariables false
set_option linter.unusedSimpArgs false

/-
  The walk over the list of a set.
-/
namespace Go.Proofs.Ytlglncnhhgofoaa
open Go.RowKit Go.Shelf
attribute [local go_sem] Oper.semAt_some

theorem infoInt : (Try.prog.info? 3).map (fun i => (i.zero, i.size, i.bytes)) = some (some (.int .i64 0), 1, 8) := by kernel_rfl

theorem make_run (c : Nat) (hc : c ≤ 256) (w : World) : (Instr.makeSlice 28 (.int .i64 0) (.int .i64 (c : Int))).run Try.prog w = .ok (.slice (some ⟨w.heap.size, 0, none⟩) 0 c) (w.alloc (.cells (madeCells #[.int .i64 0] c) 3)) := by
  obtain ⟨i0, hi, hz0, hz1, hz2⟩ := info_parts infoInt
  have h := run_make w 28 3 i0 (.int .i64 0) Try.underlying28 hi hz0 .i64 .i64 0 c (by omega) (by omega) (by rw [hz2]; omega) (by omega)
  rw [hz1] at h
  simpa [Value.cells] using h

/-- What the list of a set is: a row of its own. -/
def ListPost (p : Nat → Bool) (w : World) (e : Ending) (w' : World) : Prop :=
  ∃ v, e = .returned v ∧ w'.ownsRow w.heap.size 3 1 v (els p).length ((els p).map (Value.int .i64)) ∧ Below w.heap.size w w'

end Go.Proofs.Ytlglncnhhgofoaa

/-
  The walks over the document's own list and count; two rows held against each other; the first numbers of a row; the chapter's example.
-/
namespace Go.Proofs.Ytlglncnhhgofoaa
open Go.RowKit

theorem owns_below {w w' : World} {B base : Nat} {e : TypeId} {size n : Nat} {v : Value} {xs : List Value} (h : w.ownsRow base e size v n xs) (hb : Below B w w') (hB : w.heap.size ≤ B) : w'.ownsRow base e size v n xs := by
  refine ⟨h.1, ?_⟩
  rcases h.2 with h | ⟨g, cap, cur, h1, h2, h3, h4⟩
  · exact .inl h
  · have hg : g < w.heap.size := (Array.getElem?_eq_some_iff.1 h3).1
    exact .inr ⟨g, cap, cur, h1, h2, (hb.block g (by omega)).trans h3, h4⟩
theorem owns_base {w : World} {base base' : Nat} {e : TypeId} {size n : Nat} {v : Value} {xs : List Value} (h : w.ownsRow base e size v n xs) (hB : base' ≤ base) : w.ownsRow base' e size v n xs := by
  refine ⟨h.1, ?_⟩
  rcases h.2 with h | ⟨g, cap, cur, h1, h2, h3⟩
  · exact .inl h
  · exact .inr ⟨g, cap, cur, h1, by omega, h3⟩

/-- A row of one's own, read. -/
theorem owns_reads {w : World} {base : Nat} {v : Value} {E : List Int} (h : w.ownsRow base 3 1 v E.length (E.map (Value.int .i64))) :
    ∃ ao cap, v = .slice ao E.length cap ∧ Reads w w.heap.size ao E ∧ (cap : Int) ≤ 9223372036854775807 ∧ E.length ≤ cap := by
  rcases h.2 with ⟨rfl, h0⟩ | ⟨g, cap, cur, rfl, h2, h3, h4, h5, _⟩
  · exact ⟨none, 0, by rw [h0], .inl (List.eq_nil_of_length_eq_zero h0), by omega, by omega⟩
  · refine ⟨some ⟨g, 0, none⟩, cap, rfl, ?_, by unfold maxLen at h5; omega, h4⟩
    right
    refine ⟨g, 0, rfl, (Array.getElem?_eq_some_iff.1 h3).1, fun k hk => ?_⟩
    have := h.cells (g := g) (by simp [Value.ownBlock]) k (.int .i64 (E.getD k 0)) (by rw [List.getElem?_map, List.getElem?_eq_getElem hk, List.getD_eq_getElem?_getD, List.getElem?_eq_getElem hk]; rfl)
    have e : (⟨g, 0, none⟩ : Addr).add k = ⟨g, 0 + k, none⟩ := by unfold Addr.add; split <;> simp_all
    rw [e] at this
    exact this

def Blk4 (w : World) (b x0 x1 x2 x3 : Nat) : Prop := w.heap[b]? = some (.cells #[.int .u64 x0, .int .u64 x1, .int .u64 x2, .int .u64 x3] 47 (0, 0))
theorem Blk4.lt {w : World} {b x0 x1 x2 x3 : Nat} (h : Blk4 w b x0 x1 x2 x3) : b < w.heap.size := (Array.getElem?_eq_some_iff.1 h).1
theorem Blk4.cells {w : World} {b x0 x1 x2 x3 : Nat} (h : Blk4 w b x0 x1 x2 x3) : w.cell? ⟨b, 0, none⟩ = some (.int .u64 x0) ∧ w.cell? ⟨b, 1, none⟩ = some (.int .u64 x1) ∧ w.cell? ⟨b, 2, none⟩ = some (.int .u64 x2) ∧ w.cell? ⟨b, 3, none⟩ = some (.int .u64 x3) := by
  unfold Blk4 at h; simp [World.cell?, h]

structure LoopL (p : Nat → Bool) (w wr : World) (n : Nat) (v : Value) : Prop where
  x : Blk4 wr w.heap.size (wd p 0) (wd p 1) (wd p 2) (wd p 3)
  row : wr.ownsRow (w.heap.size + 1) 3 1 v (below p n).length (((below p n).map fun x : Nat => (x : Int)).map (Value.int .i64))
  low : Below w.heap.size w wr

theorem below_yes {p : Nat → Bool} {n : Nat} (h : p n = true) : below p (n + 1) = below p n ++ [n] := by unfold below; rw [List.range_succ, List.filter_append]; simp [h]
theorem below_no {p : Nat → Bool} {n : Nat} (h : p n = false) : below p (n + 1) = below p n := by unfold below; rw [List.range_succ, List.filter_append]; simp [h]

theorem LoopL.next {p : Nat → Bool} {w wr w1 w3 : World} {n : Nat} {v v' : Value} {o : Obj} (h : LoopL p w wr n v) (hw : Below wr.heap.size wr w1) (hp : p n = true)
    (hown : w3.ownsRow (w.heap.size + 1) 3 1 v' ((below p n).length + 1) (((below p n).map fun x : Nat => (x : Int)).map (Value.int .i64) ++ [.int .i64 (n : Int)])) (hg : (w1.alloc o).grownBy w3 v.ownBlock) : LoopL p w w3 (n + 1) v' := by
  have hlt := h.x.lt
  have hsz := hw.size
  have hne : ∀ k, v.ownBlock = some k → w.heap.size + 1 ≤ k := fun k hk => (h.row.lt k hk).1
  refine ⟨?_, ?_, ?_⟩
  · have h1 : Blk4 w1 w.heap.size (wd p 0) (wd p 1) (wd p 2) (wd p 3) := (hw.block _ hlt).trans h.x
    have h2 : Blk4 (w1.alloc o) w.heap.size (wd p 0) (wd p 1) (wd p 2) (wd p 3) := (Below.heap_alloc w1 o _ h1.lt).trans h1
    exact (hg.block _ h2.lt (fun e => by have := hne _ e.symm; omega)).trans h2
  · rw [below_yes hp]
    simpa using hown
  · exact ((h.low.trans (hw.mono h.low.size)).alloc (Nat.le_trans h.low.size hsz) o).grown hg (Nat.le_trans h.low.size (by simp; omega)) fun k hk => by have := hne k hk; omega
theorem LoopL.stay {p : Nat → Bool} {w wr w1 : World} {n : Nat} {v : Value} (h : LoopL p w wr n v) (hw : Below wr.heap.size wr w1) (hp : p n = false) : LoopL p w w1 (n + 1) v :=
  ⟨(hw.block _ h.x.lt).trans h.x, by rw [below_no hp]; exact owns_below h.row hw (Nat.le_refl _), h.low.trans (hw.mono h.low.size)⟩

set_option maxRecDepth 100000 in
set_option maxHeartbeats 4000000 in
theorem rlist_any (p : Nat → Bool) (w : World) : Calls Try.prog 68 #[.agg #[.int .u64 (wd p 0), .int .u64 (wd p 1), .int .u64 (wd p 2), .int .u64 (wd p 3)]] w (ListPost p w) := by
  obtain ⟨i0, hi, hz0, hz1, hz2⟩ := info_parts infoInt
  have H := Lib.hid (fun (n : Nat) (h : n < 256) w => (show Calls Try.prog 64 #[.agg #[.int .u64 (wd p 0), .int .u64 (wd p 1), .int .u64 (wd p 2), .int .u64 (wd p 3)], .int .i64 n] w fun e w' => e = .returned (.bool (p n)) ∧ Below w.heap.size w w' by have := rhas_any p n w; rw [hasP_nat h] at this; exact this))
  go_enter Try.func68, Try.ntmps68
  go_wp2
  go_loopw [3, 4] (fun v i wr => ∃ n : Nat, n ≤ 256 ∧ i = .int .i64 n ∧ Hid (LoopL p w wr n v)) (fun _ i _ => (256 - intOf i).toNat)
  case atStart =>
    exact ⟨0, by omega, rfl, ⟨World.alloc_heap_new w _, World.ownsRow_nil _ _ _ _, (Below.refl _ _).alloc (Nat.le_refl _) _⟩⟩
  case round =>
    obtain ⟨n, hn, rfl, HL⟩ := hrel
    by_cases hlt : n < 256
    · obtain ⟨x0, x1, x2, x3⟩ := HL.out.x.cells
      have C := Lib.hid (H.out n hlt)
      have hlen : (below p n).length ≤ 256 := by rw [below_length]; have := cntN_le p n; omega
      clear H
      cases hq : p n with
      | false =>
        have HN := Lib.hid (fun w1 hw => HL.out.stay (w1 := w1) hw hq)
        rw [hq] at C
        clear HL hq hlen
        generalize wd p = a at x0 x1 x2 x3 C
        go_wp2_with (go_at_call 64; (refine (C.out _).mono ?_); rintro e w1 ⟨rfl, hw1⟩; have HM := Lib.hid (HN.out _ hw1); clear hw1)
        go_roundw
        case rel => exact ⟨n + 1, by omega, by go_num, HM⟩
        case measure => simp [intOf]; omega
      | true =>
        have HQ := Lib.hid hq
        rw [hq] at C
        clear hq
        generalize wd p = a at x0 x1 x2 x3 C
        go_wp2_with (first
          | (go_at_call 64; (refine (C.out _).mono ?_); rintro e w1 ⟨rfl, hw1⟩; have HR := Lib.hid (owns_below HL.out.row hw1 (Nat.le_refl _)); have HZ := Lib.hid (Nat.le_trans (HL.out.x.lt : w.heap.size + 1 ≤ wr.heap.size) hw1.size); have HW := Lib.hid hw1; clear hw1)
          | (at_builtin; refine wpList_append_own _ rfl _ _ 28 rfl (w.heap.size + 1) 3 i0 (.int .i64 0) 1 8 Try.underlying28 hi hz0 hz1 hz2 rfl (by decide) _ _ _ rfl (HR.out.alloc _) ⟨w1.heap.size, 0, none⟩ 1 1 [.int .i64 n] rfl rfl (cell_one_new _ _ _) (fun x hx => by simp at hx; subst hx; rfl) (by unfold maxLen; omega) (by omega) (by have := HZ.out; simp; omega) ?_; intro v' w3 hown' hgrow _; have HM := Lib.hid (HL.out.next HW.out HQ.out hown' hgrow); clear hown' hgrow))
        go_roundw
        case rel => exact ⟨n + 1, by omega, by go_num, HM⟩
        case measure => simp [intOf]; omega
    · obtain rfl : n = 256 := by omega
      clear H
      go_wp2
      go_ret
      exact ⟨_, rfl, by
        have := owns_base HL.out.row (base' := w.heap.size) (by omega)
        unfold els; rw [List.length_map]; exact this, HL.out.low⟩

end Go.Proofs.Ytlglncnhhgofoaa

/-
  The walks over the document's own count; two rows held against each other; the first numbers of a row; the chapter's example.
-/
namespace Go.Proofs.Ytlglncnhhgofoaa
open Go.RowKit

theorem els_length (p : Nat → Bool) : (els p).length = cntN p 256 := by unfold els; rw [List.length_map, below_length]

set_option maxHeartbeats 1000000 in
theorem rlen_any (p : Nat → Bool) (w : World) :
    Calls Try.prog 41 #[.agg #[.int .u64 (wd p 0), .int .u64 (wd p 1), .int .u64 (wd p 2), .int .u64 (wd p 3)]] w fun e w' => e = .returned (.int .i64 (cntN p 256)) ∧ Below w.heap.size w w' := by
  have C := Lib.hid (fun w => rlist_any p w)
  have HE := Lib.hid (els_length p)
  have HB := Lib.hid ((Below.refl w.heap.size w).alloc (Nat.le_refl _) (.cells #[.int .u64 (wd p 0), .int .u64 (wd p 1), .int .u64 (wd p 2), .int .u64 (wd p 3)] 47))
  go_enter Try.func41, Try.ntmps41
  go_wp2_with (go_at_call 68; (refine (C.out _).mono ?_); rintro e w1 ⟨v, rfl, hown, hw1⟩; obtain ⟨ao, cap, rfl, _, _, _⟩ := owns_reads hown; have HB1 := Lib.hid (below_next hw1 HB.out (Nat.le_refl _)); clear hw1 hown)
  go_ret
  exact ⟨by rw [HE.out]; rfl, HB1.out⟩

theorem l_i64_of_wf {x : Int} (h : (Lit.int .i64 x).wf = true) : -9223372036854775808 ≤ x ∧ x ≤ 9223372036854775807 := by
  simp [Lit.wf, IntKind.min, IntKind.max, IntKind.signed, IntKind.bits] at h
  omega

theorem els_sample : els (ofN [5, 3, 300, 3] 4) = [3, 5] := by decide +kernel
theorem has_sample : hasP (ofN [3] 1) 3 = true := by decide +kernel

theorem reads_two (a b : Int) (g : Nat) (w : World) (hg : g < w.heap.size) (h0 : w.cell? ⟨g, 0, none⟩ = some (.int .i64 a)) (h1 : w.cell? ⟨g, 1, none⟩ = some (.int .i64 b)) : Reads w w.heap.size (some ⟨g, 0, none⟩) [a, b] :=
  .inr ⟨g, 0, rfl, hg, fun k hk => by
    rcases (show k = 0 ∨ k = 1 by simp at hk; omega) with rfl | rfl
    · exact h0
    · exact h1⟩

theorem reads_next {w w1 w2 : World} {B : Nat} {ao : Option Addr} {L : List Int} (hb : Below w1.heap.size w1 w2) (h : Reads w B ao L) (hB : B ≤ w.heap.size) (e : w1.heap = w.heap := by rfl) : Reads w2 w2.heap.size ao L := by
  rcases h with h | ⟨b, off, h1, h2, h3⟩
  · exact .inl h
  · refine .inr ⟨b, off, h1, ?_, fun k hk => ?_⟩
    · have := hb.size; rw [e] at this; omega
    · rw [hb.cell (p := ⟨b, off + k, none⟩) (by show b < _; rw [e]; omega), cell_same e]; exact h3 k hk

end Go.Proofs.Ytlglncnhhgofoaa

/-
  The walk over all sets that belong to one.
-/
namespace Go.Proofs.Ytlglncnhhgofoaa
open Go.RowKit Go.Maps Go.Shelf
attribute [local go_sem] Oper.semAt_some

/-- The set of a row of numbers. -/
def setP (l : List Int) (i : Nat) : Bool := decide ((i : Int) ∈ l)
theorem setP_nil (k : Nat) : wd (setP []) k = 0 := by
  have : wd (setP []) k = wd noneP k := natOf_congr fun j _ => by simp [setP, noneP]
  rw [this, wd_none]
theorem setP_put (l : List Int) (x : Int) (k : Nat) : wd (orP (setP l) (oneP x)) k = wd (setP (l ++ [x])) k := natOf_congr fun j _ => by
  simp only [setP, orP, oneP, List.mem_append, List.mem_singleton, Bool.decide_or]
theorem setP_all {n : Nat} {L : Nat → Int} {o : Int} (ho : okOwn o) (hn : n ≤ 256) (k : Nat) : wd (setP (ofsN L o n)) k = wd (ofP n L o) k := natOf_congr fun j _ => by
  unfold setP ofP
  rw [decide_eq_true ho, Bool.true_and, ← Bool.decide_and, decide_eq_decide]
  unfold ofsN
  simp only [List.mem_map, List.mem_filter, List.mem_range, decide_eq_true_eq]
  constructor
  · rintro ⟨i, ⟨h1, h2⟩, h3⟩
    obtain rfl : i = 64 * k + j := by omega
    exact ⟨h1, h2⟩
  · rintro ⟨h1, h2⟩
    exact ⟨_, ⟨h1, h2⟩, rfl⟩
theorem of_none {n : Nat} {L : Nat → Int} {o : Int} (ho : ¬ okOwn o) (k : Nat) : wd (ofP n L o) k = 0 := by
  have : wd (ofP n L o) k = wd noneP k := natOf_congr fun j _ => by simp [ofP, noneP, ho]
  rw [this, wd_none]
theorem ofs_bound (L : Nat → Int) (o : Int) (n : Nat) (x : Int) (h : x ∈ ofsN L o n) : x < n := by
  simp only [ofsN, List.mem_map, List.mem_filter, List.mem_range] at h
  obtain ⟨i, ⟨h1, _⟩, rfl⟩ := h
  omega
theorem Blk4.four {w : World} {b x0 x1 x2 x3 : Nat} (h : Blk4 w b x0 x1 x2 x3) : Four w b x0 x1 x2 x3 := by
  obtain ⟨h0, h1, h2, h3⟩ := h.cells
  exact ⟨h0, h1, h2, h3, blk_free h 0, blk_free h 1, blk_free h 2, blk_free h 3⟩
theorem Blk4.below {w w' : World} {b x0 x1 x2 x3 : Nat} (h : Blk4 w b x0 x1 x2 x3) (hb : Below w.heap.size w w') : Blk4 w' b x0 x1 x2 x3 := kept_obj hb h
theorem Blk4.set {w : World} {b x0 x1 x2 x3 : Nat} (h : Blk4 w b x0 x1 x2 x3) (y0 y1 y2 y3 : Nat) : Blk4 ((((w.setCell ⟨b, 0, none⟩ (.int .u64 y0)).setCell ⟨b, 1, none⟩ (.int .u64 y1)).setCell ⟨b, 2, none⟩ (.int .u64 y2)).setCell ⟨b, 3, none⟩ (.int .u64 y3)) b y0 y1 y2 y3 := by
  have h1 : (w.setCell ⟨b, 0, none⟩ (.int .u64 y0)).heap[b]? = some (.cells #[.int .u64 y0, .int .u64 x1, .int .u64 x2, .int .u64 x3] 47 (0, 0)) := (blk_set h _).trans rfl
  have h2 : ((w.setCell ⟨b, 0, none⟩ (.int .u64 y0)).setCell ⟨b, 1, none⟩ (.int .u64 y1)).heap[b]? = some (.cells #[.int .u64 y0, .int .u64 y1, .int .u64 x2, .int .u64 x3] 47 (0, 0)) := (blk_set h1 _).trans rfl
  have h3 : (((w.setCell ⟨b, 0, none⟩ (.int .u64 y0)).setCell ⟨b, 1, none⟩ (.int .u64 y1)).setCell ⟨b, 2, none⟩ (.int .u64 y2)).heap[b]? = some (.cells #[.int .u64 y0, .int .u64 y1, .int .u64 y2, .int .u64 x3] 47 (0, 0)) := (blk_set h2 _).trans rfl
  exact (blk_set h3 _).trans rfl
theorem set4_far {w : World} {b k : Nat} (hne : k ≠ b) (y0 y1 y2 y3 : Value) : ((((w.setCell ⟨b, 0, none⟩ y0).setCell ⟨b, 1, none⟩ y1).setCell ⟨b, 2, none⟩ y2).setCell ⟨b, 3, none⟩ y3).heap[k]? = w.heap[k]? := by
  rw [blk_far (a := ⟨b, 3, none⟩) hne, blk_far (a := ⟨b, 2, none⟩) hne, blk_far (a := ⟨b, 1, none⟩) hne, blk_far (a := ⟨b, 0, none⟩) hne]
/-- The two boxes of a set that grows: the one that comes back, the set itself. -/
structure TwoSets (w : World) (p : List Int → Nat → Nat) (pre : List Int) (W : World) : Prop where
  res : Blk4 W w.heap.size 0 0 0 0
  all : Blk4 W (w.heap.size + 1) (p pre 0) (p pre 1) (p pre 2) (p pre 3)
  low : Below w.heap.size w W
theorem TwoSets.own {w : World} {p : List Int → Nat → Nat} {B : Nat} (hB : w.heap.size ≤ B) : OwnFrom B (TwoSets w p) := fun s X Y row hs hg hrow => by
  have e : ∀ b x0 x1 x2 x3, Blk4 X b x0 x1 x2 x3 → Blk4 Y b x0 x1 x2 x3 := fun b x0 x1 x2 x3 hb => by
    refine (hg.block b hb.lt (fun e => ?_)).trans hb
    obtain ⟨_, o, ho, hc⟩ := hrow b e.symm
    rw [show X.heap[b]? = _ from hb] at ho
    cases ho
    cases hc
  exact ⟨e _ _ _ _ _ hs.res, e _ _ _ _ _ hs.all, hs.low.grown hg hs.low.size (fun k hk => Nat.le_trans hB (hrow k hk).1)⟩
theorem TwoSets.alloc {w W : World} {p : List Int → Nat → Nat} {pre : List Int} (h : TwoSets w p pre W) (o : Obj) : TwoSets w p pre (W.alloc o) :=
  ⟨h.res.below ((Below.refl _ _).alloc (Nat.le_refl _) o), h.all.below ((Below.refl _ _).alloc (Nat.le_refl _) o), h.low.alloc h.low.size o⟩
theorem two_boxes (W : World) {N : Nat} (hN : W.heap.size = N) (c1 c2 : Obj) : ((W.alloc c1).alloc c2).heap[N]? = some c1 ∧ ((W.alloc c1).alloc c2).heap[N + 1]? = some c2 := by
  subst hN
  refine ⟨kept_obj ((Below.refl _ _).alloc (Nat.le_refl _) _) (heap_alloc_new W _), ?_⟩
  have := heap_alloc_new (W.alloc c1) c2
  rwa [World.size_alloc] at this
/-- A round of it. -/
theorem TwoSets.put {w W w3 : World} {p : List Int → Nat → Nat} {pre : List Int} {x : Int} (h : TwoSets w p pre W) (hb : Below W.heap.size W w3) {S : Nat → Prop} (hS : ∀ k, S k → k ≠ w.heap.size + 1) {y : Nat → Nat} (hy : ∀ k, y k = p (pre ++ [x]) k) {B : Nat} :
    KeepsFrom B W ((((w3.setCell ⟨w.heap.size + 1, 0, none⟩ (.int .u64 (y 0))).setCell ⟨w.heap.size + 1, 1, none⟩ (.int .u64 (y 1))).setCell ⟨w.heap.size + 1, 2, none⟩ (.int .u64 (y 2))).setCell ⟨w.heap.size + 1, 3, none⟩ (.int .u64 (y 3))) ∧
    KpS S W ((((w3.setCell ⟨w.heap.size + 1, 0, none⟩ (.int .u64 (y 0))).setCell ⟨w.heap.size + 1, 1, none⟩ (.int .u64 (y 1))).setCell ⟨w.heap.size + 1, 2, none⟩ (.int .u64 (y 2))).setCell ⟨w.heap.size + 1, 3, none⟩ (.int .u64 (y 3))) ∧
    TwoSets w p (pre ++ [x]) ((((w3.setCell ⟨w.heap.size + 1, 0, none⟩ (.int .u64 (y 0))).setCell ⟨w.heap.size + 1, 1, none⟩ (.int .u64 (y 1))).setCell ⟨w.heap.size + 1, 2, none⟩ (.int .u64 (y 2))).setCell ⟨w.heap.size + 1, 3, none⟩ (.int .u64 (y 3))) := by
  have hsz : ∀ y0 y1 y2 y3 : Value, ((((w3.setCell ⟨w.heap.size + 1, 0, none⟩ y0).setCell ⟨w.heap.size + 1, 1, none⟩ y1).setCell ⟨w.heap.size + 1, 2, none⟩ y2).setCell ⟨w.heap.size + 1, 3, none⟩ y3).heap.size = w3.heap.size := fun _ _ _ _ => by simp
  have hk : ∀ (k : Nat) (o : Obj), W.heap[k]? = some o → k ≠ w.heap.size + 1 → ((((w3.setCell ⟨w.heap.size + 1, 0, none⟩ (.int .u64 (y 0))).setCell ⟨w.heap.size + 1, 1, none⟩ (.int .u64 (y 1))).setCell ⟨w.heap.size + 1, 2, none⟩ (.int .u64 (y 2))).setCell ⟨w.heap.size + 1, 3, none⟩ (.int .u64 (y 3))).heap[k]? = some o := fun k o ho hne => by
    rw [set4_far hne]; exact kept_obj hb ho
  have hne : ∀ (k : Nat) (o : Obj), W.heap[k]? = some o → o.isCells = false → k ≠ w.heap.size + 1 := by
    rintro k o ho hc rfl
    rw [show W.heap[w.heap.size + 1]? = _ from h.all] at ho
    cases ho
    cases hc
  refine ⟨⟨by rw [hsz]; exact hb.size, fun k o _ ho hc => hk k o ho (hne k o ho hc)⟩, ⟨⟨by rw [hsz]; exact hb.size, fun k o ho hw => hk k o ho (hne k o ho (Obj.not_cells_of_walk hw))⟩, fun k cs T fr hs hc => hk k _ hc (hS k hs)⟩, ⟨?_, ?_, ?_⟩⟩
  · exact hk _ _ h.res (by omega)
  · have := (h.all.below hb).set (y 0) (y 1) (y 2) (y 3)
    rw [← hy 0, ← hy 1, ← hy 2, ← hy 3]
    exact this
  · have hs := h.low.size
    exact ((((below_up h.low hb).setCell (p := ⟨w.heap.size + 1, 0, none⟩) (Nat.le_succ _) _).setCell (p := ⟨w.heap.size + 1, 1, none⟩) (Nat.le_succ _) _).setCell (p := ⟨w.heap.size + 1, 2, none⟩) (Nat.le_succ _) _).setCell (p := ⟨w.heap.size + 1, 3, none⟩) (Nat.le_succ _) _

/-- What is told of one. -/
def OfBack (p : Nat → Bool) (w : World) (e : Ending) (w' : World) : Prop := e = .returned (.agg #[.int .u64 (wd p 0), .int .u64 (wd p 1), .int .u64 (wd p 2), .int .u64 (wd p 3)]) ∧ Below w.heap.size w w'

end Go.Proofs.Ytlglncnhhgofoaa

/-
  The walk over the closure that puts a tick's set to the row that grows.
-/
namespace Go.Proofs.Ytlglncnhhgofoaa
open Go.RowKit Go.Maps

abbrev RB4 : TypeId := 105
/-- The boxes of a row that grows: the task, the row, the closure. -/
structure GrowAt (w0 : World) (bt br bf : Nat) (T : TV) (l : List Nat) (a : Option Addr) (c : Nat) (W : World) : Prop where
  low : Below w0.heap.size w0 W
  tb : W.heap[bt]? = some (.cells #[.int .i64 T.id, .int .i64 T.c, .int .i64 T.d, .int .i64 T.t, .int .i64 T.p, .slice T.a1 T.ch.length T.c1, .slice T.a2 T.us.length T.c2] TT (0, 0))
  fb : W.heap[bf]? = some (.cells #[.func (.func 97) #[] #[.pointer (some ⟨br, 0, none⟩), .pointer (some ⟨bt, 0, none⟩)]] 130 (0, 0))
  rb : W.heap[br]? = some (.cells #[.slice a (l.length + 1) c] RB4 (0, 0))
  row : OwnS W w0.heap.size (.slice a (l.length + 1) c) (rowsOf T.us l)
  tr : bt ≠ br
  fr : bf ≠ br
  lr : w0.heap.size ≤ br
theorem GrowAt.below {w0 : World} {bt br bf : Nat} {T : TV} {l : List Nat} {a : Option Addr} {c : Nat} {W W' : World} (h : GrowAt w0 bt br bf T l a c W) (hb : Below W.heap.size W W') : GrowAt w0 bt br bf T l a c W' :=
  ⟨below_up h.low hb, kept_obj hb h.tb, kept_obj hb h.fb, kept_obj hb h.rb, h.row.below hb, h.tr, h.fr, h.lr⟩
theorem GrowAt.view {w0 : World} {bt br bf : Nat} {T : TV} {l : List Nat} {a : Option Addr} {c : Nat} {W : World} (h : GrowAt w0 bt br bf T l a c W) : SView W a (rowsOf T.us l) := by
  obtain ⟨a', c', e, hv, _⟩ := h.row.slice
  simp only [Value.slice.injEq] at e
  obtain ⟨rfl, _, rfl⟩ := e
  exact hv
/-- What is no row lies in no row's block. -/
theorem OwnS.far {w : World} {B : Nat} {v : Value} {q : List (Nat → Bool)} (h : OwnS w B v q) {b : Nat} {cs : Array Value} {U : TypeId} {fr : Nat × Nat} (hb : w.heap[b]? = some (.cells cs U fr)) (hU : U ≠ ST4) : v.ownBlock ≠ some b := by
  intro e
  rcases h.2 with ⟨rfl, _⟩ | ⟨g, cap, cur, rfl, _, h3, _⟩
  · cases e
  · obtain rfl : g = b := by simpa [Value.ownBlock] using e
    rw [hb] at h3
    simp at h3
    exact hU h3.2.1
theorem sat_new (w : World) (q : Nat → Bool) : SAt (w.alloc (.cells #[.int .u64 (wd q 0), .int .u64 (wd q 1), .int .u64 (wd q 2), .int .u64 (wd q 3)] ST4)) w.heap.size 0 q :=
  ⟨by rw [World.cell?_alloc_new]; rfl, by rw [World.cell?_alloc_new]; rfl, by rw [World.cell?_alloc_new]; rfl, by rw [World.cell?_alloc_new]; rfl⟩
/-- What is left behind a set put to the row. -/
def AddBack (w0 : World) (bt br bf : Nat) (T : TV) (l : List Nat) (W : World) (e : Ending) (W' : World) : Prop :=
  e = .returned (.tuple #[]) ∧ (∃ a c, GrowAt w0 bt br bf T l a c W') ∧ ∃ S : Nat → Prop, (∀ i, S i → w0.heap.size ≤ i ∧ ∀ o, W.heap[i]? = some o → o.isCells = true) ∧ Turn S W W'
/-- The set's own box beside. -/
structure AddAt (w0 : World) (bt br bf : Nat) (T : TV) (l : List Nat) (a : Option Addr) (c : Nat) (W : World) (g : Nat) (p : Nat → Nat) (V : World) : Prop where
  at_ : GrowAt w0 bt br bf T l a c V
  up : Below W.heap.size W V
  box : V.heap[g]? = some (.cells #[.int .u64 (p 0), .int .u64 (p 1), .int .u64 (p 2), .int .u64 (p 3)] ST4 (0, 0))
  new : W.heap.size ≤ g
theorem AddAt.below {w0 : World} {bt br bf : Nat} {T : TV} {l : List Nat} {a : Option Addr} {c : Nat} {W : World} {g : Nat} {p : Nat → Nat} {V V' : World} (h : AddAt w0 bt br bf T l a c W g p V) (hb : Below V.heap.size V V') : AddAt w0 bt br bf T l a c W g p V' :=
  ⟨h.at_.below hb, below_up h.up hb, kept_obj hb h.box, h.new⟩
theorem AddAt.put {w0 : World} {bt br bf : Nat} {T : TV} {l : List Nat} {a : Option Addr} {c : Nat} {W : World} {g : Nat} {p : Nat → Nat} {V : World} (h : AddAt w0 bt br bf T l a c W g p V) (hw : GrowAt w0 bt br bf T l a c W) (y : Nat → Nat) :
    AddAt w0 bt br bf T l a c W g y ((((V.setCell ⟨g, 0, none⟩ (.int .u64 (y 0))).setCell ⟨g, 1, none⟩ (.int .u64 (y 1))).setCell ⟨g, 2, none⟩ (.int .u64 (y 2))).setCell ⟨g, 3, none⟩ (.int .u64 (y 3))) := by
  have hb : Below W.heap.size W ((((V.setCell ⟨g, 0, none⟩ (.int .u64 (y 0))).setCell ⟨g, 1, none⟩ (.int .u64 (y 1))).setCell ⟨g, 2, none⟩ (.int .u64 (y 2))).setCell ⟨g, 3, none⟩ (.int .u64 (y 3))) :=
    (((h.up.setCell (p := ⟨g, 0, none⟩) h.new _).setCell (p := ⟨g, 1, none⟩) h.new _).setCell (p := ⟨g, 2, none⟩) h.new _).setCell (p := ⟨g, 3, none⟩) h.new _
  exact ⟨hw.below hb, hb, (Blk4.set (show Blk4 V g _ _ _ _ from h.box) (y 0) (y 1) (y 2) (y 3)), h.new⟩
theorem add_done {w0 : World} {bt br bf : Nat} {T : TV} {l : List Nat} {a : Option Addr} {c : Nat} {W : World} {g : Nat} {p : Nat → Nat} {V : World} (h : AddAt w0 bt br bf T l a c W g p V) (hw : GrowAt w0 bt br bf T l a c W) (o : Obj) {w5 : World} {k : Nat} {a' : Option Addr} {c' : Nat}
    (hg : (V.alloc o).grownBy w5 (Value.slice a (l.length + 1) c).ownBlock) (ho : OwnS w5 w0.heap.size (.slice a' (l.length + 2) c') (rowsOf T.us l ++ [tkP T.us (l ++ [k])])) :
    AddBack w0 bt br bf T (l ++ [k]) W (.returned (.tuple #[])) (w5.setCell ⟨br, 0, none⟩ (.slice a' (l.length + 2) c')) ∧ w5.cell? ⟨br, 0, none⟩ = some (.slice a (l.length + 1) c) ∧ w5.frozen? ⟨br, 0, none⟩ = false := by
  have hv : Below V.heap.size V (V.alloc o) := (Below.refl _ _).alloc (Nat.le_refl _) o
  have t1 : Turn (fun i => (Value.slice a (l.length + 1) c).ownBlock = some i) W w5 := by
    have hWo : Below W.heap.size W (V.alloc o) := below_up h.up hv
    exact (Turn.of_below (S := fun i => (Value.slice a (l.length + 1) c).ownBlock = some i) hWo).grown hg (fun i hi _ => hi)
  have hr5 := t1.obj hw.rb (hw.row.far hw.rb (by decide))
  have ht5 := t1.obj hw.tb (hw.row.far hw.tb (by decide))
  have hf5 := t1.obj hw.fb (hw.row.far hw.fb (by decide))
  refine ⟨⟨rfl, ⟨a', c', ?_⟩, fun i => i = br ∨ (Value.slice a (l.length + 1) c).ownBlock = some i, ?_, ?_⟩, by rw [blk_cell hr5]; rfl, blk_free hr5 0⟩
  · have hlen : (l ++ [k]).length + 1 = l.length + 2 := by simp
    have hb5 : Below w0.heap.size w0 w5 := hw.low.trans (t1.below hw.low.size (fun i hi => (hw.row.new hi).1))
    refine ⟨hb5.setCell (p := ⟨br, 0, none⟩) hw.lr _, ?_, ?_, ?_, ?_, hw.tr, hw.fr, hw.lr⟩
    · exact (blk_far (a := ⟨br, 0, none⟩) hw.tr _).trans ht5
    · exact (blk_far (a := ⟨br, 0, none⟩) hw.fr _).trans hf5
    · rw [hlen]; exact (blk_set hr5 _).trans rfl
    · rw [hlen, rows_snoc]
      have hne := ho.far hr5 (by decide)
      rcases ho with ⟨h0, h | ⟨g', cap, cur, e, hB, h3, r⟩⟩
      · exact ⟨h0, .inl h⟩
      · refine ⟨h0, .inr ⟨g', cap, cur, e, hB, ?_, r⟩⟩
        refine (blk_far (a := ⟨br, 0, none⟩) (fun q => hne ?_) _).trans h3
        rw [e]
        simpa [Value.ownBlock] using q
  · rintro i (rfl | hi)
    · exact ⟨hw.lr, fun o' ho' => by rw [hw.rb] at ho'; cases ho'; rfl⟩
    · refine ⟨(hw.row.new hi).1, fun o' ho' => ?_⟩
      rcases hw.row.2 with ⟨e, _⟩ | ⟨g', cap, cur, e, _, h3, _⟩
      · cases e
      · simp only [Value.slice.injEq] at e
        obtain ⟨rfl, _, rfl⟩ := e
        obtain rfl : g' = i := by simpa [Value.ownBlock] using hi
        rw [h3] at ho'; cases ho'; rfl
  · exact (t1.mono (fun i _ q => .inr q)).setCell (p := ⟨br, 0, none⟩) (fun _ => .inl rfl) _

set_option maxRecDepth 100000 in
set_option maxHeartbeats 8000000 in
theorem add_any {w0 : World} {bt br bf : Nat} {T : TV} {l : List Nat} {a : Option Addr} {c : Nat} {W : World} (hT : l_Told T) (hok : T.ok W) (hu : T.us ≠ []) (h : GrowAt w0 bt br bf T l a c W) (k : Nat) (hlen : l.length < 1000) :
    Calls Try.prog 97 #[.int .i64 (k : Int), .pointer (some ⟨br, 0, none⟩), .pointer (some ⟨bt, 0, none⟩)] W (AddBack w0 bt br bf T (l ++ [k]) W) := by
  have H := Lib.hid h
  have s0 : W.cell? ⟨br, 0, none⟩ = some (.slice a (l.length + 1) c) := by rw [blk_cell h.rb]; rfl
  have LC := Lib.hid (last_any (rowsOf T.us l) (tkP T.us l) l.length (rows_len _ _) (by rw [rows_at _ _ (Nat.le_refl _), List.take_length]) (by omega) a c W h.view)
  have AC := Lib.hid (fun (w : World) (hw : Below W.heap.size W w) => acc_any T k w (hok.below hw))
  rw [access_use T k hu] at AC
  have hub : useI T.us k ≤ 9223372036854775807 := by
    unfold useI
    have h0 : 0 < T.us.length := List.length_pos_iff.2 hu
    have hl := Nat.mod_lt k h0
    rw [List.getD_eq_getElem?_getD, List.getElem?_eq_getElem hl]
    have := (hT.us _ (List.getElem_mem hl)).2
    simp only [Option.getD_some]
    omega
  have WC := Lib.hid (fun (w : World) => with_any (tkP T.us l) (useI T.us k) hub w)
  rw [← tkP_snoc] at WC
  have HSM : Hid ((rowsOf T.us l).length + 1 ≤ 1000000) := by show _ ≤ _; rw [rows_len]; omega
  have HNN : Hid ((rowsOf T.us l).length + 1 = l.length + 2) := by show _ = _; rw [rows_len]
  clear h hT hok hu hub
  obtain ⟨q1, hq1⟩ : ∃ q1, tkP T.us (l ++ [k]) = q1 := ⟨_, rfl⟩
  have HQ1 := Lib.hid hq1
  rw [hq1] at WC
  clear hq1
  go_enter Try.func97, Try.ntmps97
  go_upto_region 1 with (go_at_call 98; (with_reducible refine (LC.out).mono ?_); rintro e w1 ⟨rfl, b1⟩; have HB1 := Lib.hid b1; clear b1)
  have HG : Hid (AddAt w0 bt br bf T l a c W w1.heap.size (wd (tkP T.us l)) (w1.alloc (.cells #[.int .u64 (wd (tkP T.us l) 0), .int .u64 (wd (tkP T.us l) 1), .int .u64 (wd (tkP T.us l) 2), .int .u64 (wd (tkP T.us l) 3)] ST4))) :=
    ⟨H.out.below (bw_alloc HB1.out _), bw_alloc HB1.out _, heap_alloc_new w1 _, HB1.out.size⟩
  generalize w1.heap.size = g at *
  refine gen_world (AddAt w0 bt br bf T l a c W g (wd (tkP T.us l))) HG.out ?_
  intro W2 hw2
  have H2 := Lib.hid hw2
  clear HG HB1 LC s0
  have t0 : W2.cell? ⟨bt, 0, none⟩ = some (.int .i64 T.id) := by rw [blk_cell hw2.at_.tb]; rfl
  have t1 : W2.cell? ⟨bt, 1, none⟩ = some (.int .i64 T.c) := by rw [blk_cell hw2.at_.tb]; rfl
  have t2 : W2.cell? ⟨bt, 2, none⟩ = some (.int .i64 T.d) := by rw [blk_cell hw2.at_.tb]; rfl
  have t3 : W2.cell? ⟨bt, 3, none⟩ = some (.int .i64 T.t) := by rw [blk_cell hw2.at_.tb]; rfl
  have t4 : W2.cell? ⟨bt, 4, none⟩ = some (.int .i64 T.p) := by rw [blk_cell hw2.at_.tb]; rfl
  have t5 : W2.cell? ⟨bt, 5, none⟩ = some (.slice T.a1 T.ch.length T.c1) := by rw [blk_cell hw2.at_.tb]; rfl
  have t6 : W2.cell? ⟨bt, 6, none⟩ = some (.slice T.a2 T.us.length T.c2) := by rw [blk_cell hw2.at_.tb]; rfl
  have HA2 := Lib.hid (AC.out W2 hw2.up)
  clear AC hw2
  generalize wd (tkP T.us l) = P0 at *
  obtain ⟨P1, hP1⟩ : ∃ P1 : Nat → Nat, wd q1 = P1 := ⟨_, rfl⟩
  have HP1 := Lib.hid hP1
  rw [hP1] at WC
  clear hP1
  go_upto_region 2 with (go_at_call 46; (with_reducible refine (HA2.out).mono ?_); rintro e w3 ⟨rfl, b3⟩; have H3 := Lib.hid (H2.out.below b3); clear b3)
  clear HA2 t0 t1 t2 t3 t4 t5 t6 H2
  have g0 : w3.cell? ⟨g, 0, none⟩ = some (.int .u64 (P0 0)) := by rw [blk_cell H3.out.box]; rfl
  have g1 : w3.cell? ⟨g, 1, none⟩ = some (.int .u64 (P0 1)) := by rw [blk_cell H3.out.box]; rfl
  have g2 : w3.cell? ⟨g, 2, none⟩ = some (.int .u64 (P0 2)) := by rw [blk_cell H3.out.box]; rfl
  have g3 : w3.cell? ⟨g, 3, none⟩ = some (.int .u64 (P0 3)) := by rw [blk_cell H3.out.box]; rfl
  go_upto_region 4 with (go_at_call 50; (with_reducible refine (WC.out _).mono ?_); rintro e w4 ⟨rfl, b4⟩; have HB4 := Lib.hid (H3.out.below b4); have g0 : w4.cell? ⟨g, 0, none⟩ = some (.int .u64 (P0 0)) := (by rw [blk_cell HB4.out.box]; rfl); have g1 : w4.cell? ⟨g, 1, none⟩ = some (.int .u64 (P0 1)) := (by rw [blk_cell HB4.out.box]; rfl); have g2 : w4.cell? ⟨g, 2, none⟩ = some (.int .u64 (P0 2)) := (by rw [blk_cell HB4.out.box]; rfl); have g3 : w4.cell? ⟨g, 3, none⟩ = some (.int .u64 (P0 3)) := (by rw [blk_cell HB4.out.box]; rfl); have f0 := blk_free HB4.out.box 0; have f1 := blk_free HB4.out.box 1; have f2 := blk_free HB4.out.box 2; have f3 := blk_free HB4.out.box 3; clear b4)
  refine gen_world (AddAt w0 bt br bf T l a c W g P1) (HB4.out.put H.out P1) ?_
  intro W6 hw6
  have H6 := Lib.hid hw6
  clear HB4 H3 WC
  have r0 : W6.cell? ⟨br, 0, none⟩ = some (.slice a (l.length + 1) c) := by rw [blk_cell hw6.at_.rb]; rfl
  have g0 : W6.cell? ⟨g, 0, none⟩ = some (.int .u64 (P1 0)) := by rw [blk_cell hw6.box]; rfl
  have g1 : W6.cell? ⟨g, 1, none⟩ = some (.int .u64 (P1 1)) := by rw [blk_cell hw6.box]; rfl
  have g2 : W6.cell? ⟨g, 2, none⟩ = some (.int .u64 (P1 2)) := by rw [blk_cell hw6.box]; rfl
  have g3 : W6.cell? ⟨g, 3, none⟩ = some (.int .u64 (P1 3)) := by rw [blk_cell hw6.box]; rfl
  have HV := Lib.hid (sat_new W6 q1)
  rw [HP1.out] at HV
  clear hw6
  go_wp2_with (at_builtin; refine wp_sappend (m := 1) (l := [q1]) rfl _ _ rfl rfl rfl ((H6.out.at_.below ((by repeat (first | exact Below.refl _ _ | (with_reducible assumption) | refine bw_alloc ?_ _ | refine bw_drew ?_)))).row) (Nat.le_trans H6.out.at_.low.size ((by repeat (first | exact Below.refl _ _ | (with_reducible assumption) | refine bw_alloc ?_ _ | refine bw_drew ?_)) : Below W6.heap.size W6 _).size) (SView.of_at HV.out) rfl HSM.out (fun z => by cases z) (l.length + 2) HNN.out ?_; intro a5 c5 w5 o5 n5 l5; rw [← HQ1.out] at o5; obtain ⟨z1, z2, z3⟩ := add_done H6.out H.out _ n5 o5; have HZ := Lib.hid z1; clear o5 n5 l5 z1)
  go_end0
  exact HZ.out
end Go.Proofs.Ytlglncnhhgofoaa

/-
  The walk over the row of sets that grows with the ticks that are told.
-/
namespace Go.Proofs.Ytlglncnhhgofoaa
open Go.RowKit Go.Maps Go.Shelf
attribute [local go_sem] Oper.semAt_some

/-- The walk within a fence goes on in a world of which only so much is known. -/
theorem gen_worldI {F : Fence} {n : Nat} {P : Program} {c : Code} {Q : Exit → Act → World → Prop} {a : Act} {w : World} (S : World → Prop) (h : S w) (k : ∀ w', S w' → c.wpIn F n P Q a w') : c.wpIn F n P Q a w := k w h
/-- The row so far, wherever it lies. -/
def Grown (w0 : World) (bt br bf : Nat) (T : TV) (l : List Nat) (W : World) : Prop := (∃ a c, GrowAt w0 bt br bf T l a c W) ∧ l.length ≤ T.us.length
theorem GrowAt.own {w0 : World} {bt br bf : Nat} {T : TV} {l : List Nat} {a : Option Addr} {c : Nat} {B : Nat} {X Y : World} {row : Option Nat} (hB : w0.heap.size ≤ B) (h : GrowAt w0 bt br bf T l a c X) (hg : X.grownBy Y row) (hr : ∀ k, row = some k → B ≤ k ∧ ∃ o, X.heap[k]? = some o ∧ o.isCells = false) : GrowAt w0 bt br bf T l a c Y := by
  have e : ∀ (b : Nat) (cs : Array Value) (U : TypeId) (fr : Nat × Nat), X.heap[b]? = some (.cells cs U fr) → Y.heap[b]? = some (.cells cs U fr) := fun b cs U fr hb => by
    refine (hg.block b (lt_of_block hb) (fun e => ?_)).trans hb
    obtain ⟨_, o, ho, hc⟩ := hr b e.symm
    rw [hb] at ho
    cases ho
    cases hc
  refine ⟨h.low.grown hg h.low.size (fun k hk => Nat.le_trans hB (hr k hk).1), e _ _ _ _ h.tb, e _ _ _ _ h.fb, e _ _ _ _ h.rb, ?_, h.tr, h.fr, h.lr⟩
  rcases h.row with ⟨h0, q | ⟨g, cap, cur, q, hb, h3, r⟩⟩
  · exact ⟨h0, .inl q⟩
  · exact ⟨h0, .inr ⟨g, cap, cur, q, hb, e _ _ _ _ h3, r⟩⟩
theorem Grown.own {w0 : World} {bt br bf : Nat} {T : TV} {B : Nat} (hB : w0.heap.size ≤ B) : OwnFrom B (Grown w0 bt br bf T) := fun s X Y row ⟨⟨a, c, h⟩, hl⟩ hg hr =>
  ⟨⟨a, c, h.own hB hg hr⟩, hl⟩
/-- The row is whole: as many sets as a round takes. -/
def Full (w0 : World) (bt br bf : Nat) (T : TV) (c : Code) (l : List Nat) (W : World) : Prop := c = .exit 0 ∧ ∃ pre x, l = pre ++ [x] ∧ pre.length = T.us.length ∧ ∃ a c, GrowAt w0 bt br bf T pre a c W
theorem Full.own {w0 : World} {bt br bf : Nat} {T : TV} {B : Nat} (hB : w0.heap.size ≤ B) (c : Code) : OwnFrom B (Full w0 bt br bf T c) := fun s X Y row ⟨e, pre, x, hp, hl, a, c, h⟩ hg hr =>
  ⟨e, pre, x, hp, hl, a, c, h.own hB hg hr⟩
theorem turn_keeps {S : Nat → Prop} {B : Nat} {W W' : World} (h : Turn S W W') (hS : ∀ i, S i → ∀ o, W.heap[i]? = some o → o.isCells = true) : KeepsFrom B W W' :=
  ⟨h.size, fun k o _ ho hc => h.obj ho (fun q => by rw [hS k q o ho] at hc; cases hc)⟩
theorem turn_walks {S : Nat → Prop} {W W' : World} (h : Turn S W W') (hS : ∀ i, S i → ∀ o, W.heap[i]? = some o → o.isCells = true) : KeepsWalks W W' :=
  ⟨h.size, fun k o ho hw => h.obj ho (fun q => by have := hS k q o ho; rw [Obj.not_cells_of_walk hw] at this; cases this)⟩
/-- What comes back. -/
def GrowBack (T : TV) (ticks : List Nat) (w : World) (e : Ending) (w' : World) : Prop :=
  (∃ a c, e = .returned (.slice a (min ticks.length T.us.length + 1) c) ∧ SView w' a (rowsOf T.us (ticks.take T.us.length))) ∧ Below w.heap.size w w'
theorem made_four (n : Nat) : (madeCells #[.int .u64 0, .int .u64 0, .int .u64 0, .int .u64 0] ((1 + n) * 4)).toList.take ([noneP].length * 4) = [.int .u64 (0 : Nat), .int .u64 (0 : Nat), .int .u64 (0 : Nat), .int .u64 (0 : Nat)] ++ [] := by
  have e : ∀ i, i < 4 → (madeCells #[.int .u64 0, .int .u64 0, .int .u64 0, .int .u64 0] ((1 + n) * 4))[i]? = some (.int .u64 0) := fun i hi => by
    have : i < (1 + n) * 4 := by omega
    rcases (show i = 0 ∨ i = 1 ∨ i = 2 ∨ i = 3 by omega) with rfl | rfl | rfl | rfl <;> simp [madeCells, this]
  apply List.ext_getElem?
  intro i
  rw [List.getElem?_take]
  by_cases hi : i < 4
  · rw [if_pos (by simpa using hi), Array.getElem?_toList, e i hi]
    rcases (show i = 0 ∨ i = 1 ∨ i = 2 ∨ i = 3 by omega) with rfl | rfl | rfl | rfl <;> rfl
  · rw [if_neg (by simpa using hi), eq_comm, List.getElem?_eq_none_iff]
    simp; omega
theorem made_own (w : World) (us : List Int) (n : Nat) (hn : n ≤ 64) : OwnS (w.alloc (.cells (madeCells #[.int .u64 0, .int .u64 0, .int .u64 0, .int .u64 0] ((1 + n) * 4)) ST4)) w.heap.size (.slice (some ⟨w.heap.size, 0, none⟩) 1 (1 + n)) (rowsOf us []) := by
  refine ⟨by rw [rows_nil]; rfl, .inr ⟨w.heap.size, 1 + n, _, rfl, Nat.le_refl _, heap_alloc_new w _, by rw [rows_nil]; simp, by unfold maxLen; omega, ?_, ?_⟩⟩
  · rw [size_madeCells]
  · rw [rows_nil]
    simp only [sflat, scells, wd_none]
    exact made_four n
theorem sinfo4 : (Try.prog.info? ST4).map (fun i => (i.zero, i.size, i.bytes)) = some (some (.agg #[.int .u64 0, .int .u64 0, .int .u64 0, .int .u64 0]), 4, 32) := by kernel_rfl
theorem make_sets (n : Nat) (hn : n ≤ 64) (w : World) : (Instr.makeSlice 105 (.int .i64 1) (.int .i64 ((1 : Int) + n))).run Try.prog w = .ok (.slice (some ⟨w.heap.size, 0, none⟩) 1 (1 + n)) (w.alloc (.cells (madeCells #[.int .u64 0, .int .u64 0, .int .u64 0, .int .u64 0] ((1 + n) * 4)) ST4)) := by
  obtain ⟨i0, hi, hz0, hz1, hz2⟩ := info_parts sinfo4
  have h := run_make w 105 ST4 i0 _ Try.underlying105 hi hz0 .i64 .i64 1 (1 + n) (by omega) (by omega) (by rw [hz2]; omega) (by omega)
  have e : ((1 : Int) + (n : Int)).toNat = 1 + n := by omega
  rw [hz1, e] at h
  simpa [Value.cells] using h
end Go.Proofs.Ytlglncnhhgofoaa

/-
  A region that draws its order, in a round of a range over a function.
-/
namespace Go.Proofs.Ytlglncnhhgofoaa
open Go.RowKit Go.Maps

section
variable {P : Program} {ops : Array Oper} {Q : Exit → Act → World → Prop} {l n : Nat}
theorem rows_round {row : String} {args : Array Value} {w : World} {R R' : Value → World → Prop} (h : _root_.Go.Rows P row args w R) (hr : ∀ v w, R v w → R' v w) : RowsIn (Fence.wide.inRound l) n P row args w R' := fun c cs _ => by
  obtain ⟨v, w', h1, h2⟩ := h c cs
  exact ⟨v, w', hr _ _ h1, stepsIn_wide.2 h2⟩
theorem oper_round {o : Oper} {a : Act} {w : World} {K K' : Act → World → Prop} (hd : ∀ c, o.op ≠ .defer c) (hK : ∀ a w, K a w → K' a w) (hlo : ¬ LetsOut Q) (h : o.wp P a w K Q) : o.wpIn (Fence.wide.inRound l) n P a w K' Q := by
  refine ⟨fun _ _ => trivial, ?_⟩
  unfold Oper.wp at h
  rw [show (o.semAt (Fence.wide.inRound l).round a.eval) = execOp a.eval o from Oper.semAt_eq _ _ _ hd]
  generalize (execOp a.eval o).run P w = r at h ⊢
  cases r with
  | ok x w' =>
    cases x with
    | value v => exact hK _ _ h
    | skip => exact hK _ _ h
    | defer d => exact hK _ _ h
    | enter f args =>
      refine ⟨(fun z => by cases z), CallsIn.inRound l (callsIn_wide.2 (Calls.mono h fun e w'' he => ?_))⟩
      cases e with
      | returned v => exact hK _ _ he
      | panicked c => exact he
      | outgrown => exact absurd he hlo
    | row name args => exact ⟨(fun z => by cases z), rows_round h (fun _ _ => hK _ _)⟩
    | _ => exact h.elim
  | halt x w' =>
    cases x with
    | panic v => exact h
    | _ => exact h.elim
theorem any_round {md : Region.Mode} (hd : ∀ (i : Nat) (o : Oper), ops[i]? = some o → ∀ c, o.op ≠ .defer c) (hlo : ¬ LetsOut Q) : ∀ (fuel : Nat) (listed : Array Bool) (a : Act) (w : World), wpAny P md ops Q fuel listed a w → wpAnyIn (Fence.wide.inRound l) n P md ops Q fuel listed a w
  | 0, _, _, _, h => h
  | fuel + 1, listed, a, w, h => by
    refine ⟨h.1, fun i hi => ?_⟩
    have hs := h.2 i hi
    unfold wpOp at hs
    unfold wpOpIn
    cases ho : ops[i]? with
    | none =>
      rw [ho] at hs
      exact any_round hd hlo fuel _ a w hs
    | some o =>
      rw [ho] at hs
      simp only [] at hs ⊢
      split
      · rename_i hw
        rw [if_pos hw] at hs
        rcases hs with hs | ⟨_, hs⟩
        · exact oper_round (hd i o ho) (fun a w => any_round hd hlo fuel _ a w) hlo hs
        · exact absurd hs hlo
      · rename_i hw
        rw [if_neg hw] at hs
        exact ⟨fun _ _ => trivial, any_round hd hlo fuel _ _ w hs⟩
def noDefer (ops : Array Oper) : Bool := ops.all fun o => match o.op with
  | .defer _ => false
  | _ => true
theorem noDefer_spec (h : noDefer ops = true) : ∀ (i : Nat) (o : Oper), ops[i]? = some o → ∀ c, o.op ≠ .defer c := fun i o ho c e => by
  have h1 := Array.all_eq_true_iff_forall_mem.1 h o (Array.mem_of_getElem? ho)
  rw [e] at h1
  cases h1
theorem region_round {id : Nat} {a : Act} {w : World} (S : World → Prop) (hm : P.follows .mixedOrders = true) (hd : noDefer ops = true) (hlo : ¬ LetsOut Q)
    (h : wpAnyH P .any ops Q S ops.size (Array.replicate ops.size false) a w.drew) : (Code.region id ops true).wpIn (Fence.wide.inRound l) n P Q a w :=
  wpIn_region_any hm (any_round (noDefer_spec hd) hlo _ _ _ _ (wpAny_of_held _ _ _ _ h))
end
end Go.Proofs.Ytlglncnhhgofoaa

/-
  The walk over the row of sets that grows: the loop over the ticks.
-/
namespace Go.Proofs.Ytlglncnhhgofoaa
open Go.RowKit Go.Maps Go.Shelf
attribute [local go_sem] Oper.semAt_some make_sets

set_option maxRecDepth 100000 in
set_option maxHeartbeats 8000000 in
theorem growing_any {w : World} {T : TV} (hT : l_Told T) (hok : T.ok w) {ticks : List Nat} {gf : Nat} {lb : Array Value} {S : Nat → Prop} (hS : ∀ k, S k → k < w.heap.size) (ht : Tells gf lb S ticks w) (hgf : ∀ args w, (callFunc gf args).run Try.prog w = .ok (.enter gf args) w) :
    Calls Try.prog 79 #[.agg #[.int .i64 T.id, .int .i64 T.c, .int .i64 T.d, .int .i64 T.t, .int .i64 T.p, .slice T.a1 T.ch.length T.c1, .slice T.a2 T.us.length T.c2], .func (.func gf) #[] lb] w (GrowBack T ticks w) := by
  have TC := Lib.hid (fun w => told_any T hT w)
  have RC := Lib.hid (fun w => round_any T hT w)
  obtain ⟨N, hN⟩ : ∃ N, T.us.length = N := ⟨_, rfl⟩
  have HNE := Lib.hid hN
  have hn5 : N ≤ 64 := by have := hT.n64; omega
  have hmf : ∀ (fn : Fn) (first cap : Array Value) (w : World), (Instr.makeFunc fn first cap).run Try.prog w = .ok (.func fn first cap) w := fun _ _ _ _ => rfl
  have e1 : IntKind.i64.wrap ((1 : Int) + (N : Int)) = 1 + (N : Int) := IntWalk.i64_in _ (by omega)
  have mk := fun w => make_sets N hn5 w
  have HOK := Lib.hid hok
  have HTT := Lib.hid hT
  have HTE := Lib.hid ht
  have HSS := Lib.hid hS
  clear hT hok ht hS
  rw [hN] at TC RC ⊢
  refine (callsIn_wide (n := 3)).1 ?_
  refine callsIn_of_wp_marks Try.func79 rfl trivial ?_ rfl
  simp only [Try.ntmps79, List.size_toArray, List.length_cons, List.length_nil, Nat.reduceAdd, Nat.reduceSub, Array.replicate_succ, Array.replicate_zero, List.push_toArray, List.append_toArray, List.nil_append, List.cons_append]
  gi_wp2
  refine wpIn_wide.2 ?_
  refine wp_scope_straight ?_
  go_upto_region 3 with (go_at_call 78; (refine (TC.out _).mono ?_); rintro e w1 ⟨rfl, b1⟩; have HB1 := Lib.hid b1; have HT0 := Lib.hid (kept_obj b1 (heap_alloc_new w _)); clear b1)
  have c0 : w1.cell? ⟨w.heap.size, 0, none⟩ = some (.int .i64 T.id) := by rw [blk_cell HT0.out]; rfl
  have c1 : w1.cell? ⟨w.heap.size, 1, none⟩ = some (.int .i64 T.c) := by rw [blk_cell HT0.out]; rfl
  have c2 : w1.cell? ⟨w.heap.size, 2, none⟩ = some (.int .i64 T.d) := by rw [blk_cell HT0.out]; rfl
  have c3 : w1.cell? ⟨w.heap.size, 3, none⟩ = some (.int .i64 T.t) := by rw [blk_cell HT0.out]; rfl
  have c4 : w1.cell? ⟨w.heap.size, 4, none⟩ = some (.int .i64 T.p) := by rw [blk_cell HT0.out]; rfl
  have c5 : w1.cell? ⟨w.heap.size, 5, none⟩ = some (.slice T.a1 T.ch.length T.c1) := by rw [blk_cell HT0.out]; rfl
  have c6 : w1.cell? ⟨w.heap.size, 6, none⟩ = some (.slice T.a2 N T.c2) := by rw [blk_cell HT0.out]; rfl
  go_upto_region 4 with (go_at_call 82; (refine (RC.out _).mono ?_); rintro e w2 ⟨rfl, b2⟩; have HB2 := Lib.hid b2; clear b2)
  have HL2 : Hid (Below w.heap.size w w2) := below_up (below_up ((Below.refl w.heap.size w).alloc (Nat.le_refl _) _) HB1.out) HB2.out
  have HT2 := Lib.hid (kept_obj HB2.out HT0.out)
  clear TC RC HB1 HB2 HT0 c0 c1 c2 c3 c4 c5 c6 mk
  go_wp2
  go_step3
  go_wp2
  refine gen_world (GrowAt w w.heap.size (w2.heap.size + 1) (w2.heap.size + 1 + 1) T [] (some ⟨w2.heap.size, 0, none⟩) (1 + N)) ?_ ?_
  · have hb1 : Below w2.heap.size w2 (w2.alloc (.cells (madeCells #[.int .u64 0, .int .u64 0, .int .u64 0, .int .u64 0] ((1 + N) * 4)) ST4)) := (Below.refl _ _).alloc (Nat.le_refl _) _
    have hlt := lt_of_block HT2.out
    refine ⟨below_up HL2.out ((by repeat (first | exact Below.refl _ _ | (with_reducible assumption) | refine bw_alloc ?_ _ | refine bw_drew ?_))), ?_, ?_, ?_, ?_, by omega, by omega, by omega⟩
    · rw [HNE.out]; exact kept_obj (w := w2) ((by repeat (first | exact Below.refl _ _ | (with_reducible assumption) | refine bw_alloc ?_ _ | refine bw_drew ?_))) HT2.out
    · have := heap_alloc_new ((w2.alloc (.cells (madeCells #[.int .u64 0, .int .u64 0, .int .u64 0, .int .u64 0] ((1 + N) * 4)) ST4)).alloc (.cells #[.slice (some ⟨w2.heap.size, 0, none⟩) 1 (1 + N)] RB4)) (.cells #[.func (.func 97) #[] #[.pointer (some ⟨w2.heap.size + 1, 0, none⟩), .pointer (some ⟨w.heap.size, 0, none⟩)]] 130)
      rw [World.size_alloc, World.size_alloc] at this
      exact this
    · have := heap_alloc_new (w2.alloc (.cells (madeCells #[.int .u64 0, .int .u64 0, .int .u64 0, .int .u64 0] ((1 + N) * 4)) ST4)) (.cells #[.slice (some ⟨w2.heap.size, 0, none⟩) 1 (1 + N)] RB4)
      rw [World.size_alloc] at this
      exact kept_obj ((Below.refl _ _).alloc (Nat.le_refl _) _) this
    · exact ((made_own w2 T.us N hn5).low HL2.out.size).below (w := w2.alloc (.cells (madeCells #[.int .u64 0, .int .u64 0, .int .u64 0, .int .u64 0] ((1 + N) * 4)) ST4)) ((by repeat (first | exact Below.refl _ _ | (with_reducible assumption) | refine bw_alloc ?_ _ | refine bw_drew ?_)))
  intro W hw
  have HW := Lib.hid hw
  clear hw
  refine (wpIn_wide (n := 3)).1 ?_
  refine wpIn_rangeFunc_ownG rfl (by omega) (gf := gf) (lb := lb) rfl trivial hgf (HTE.out.below HW.out.low 2 (by omega)) kpS_t kpS_b (Below.refl _ _) (fun _ => rfl)
    (fun pre V => Grown w w.heap.size (w2.heap.size + 1) (w2.heap.size + 1 + 1) T pre V) (fun c pre V => Full w w.heap.size (w2.heap.size + 1) (w2.heap.size + 1 + 1) T c pre V) (Grown.own HW.out.low.size) (fun c => Full.own HW.out.low.size c) ⟨⟨_, _, HW.out⟩, Nat.zero_le _⟩
    (fun x => { tmps := #[.agg #[.int .i64 T.id, .int .i64 T.c, .int .i64 T.d, .int .i64 T.t, .int .i64 T.p, .slice T.a1 T.ch.length T.c1, .slice T.a2 N T.c2], .func (.func gf) #[] lb, .pointer (some ⟨w.heap.size, 0, none⟩), undef, .slice none 0 0, .pointer (some ⟨w2.heap.size + 1, 0, none⟩), .pointer (some ⟨w2.heap.size + 1 + 1, 0, none⟩), .int .i64 (x : Int), .agg #[.int .i64 T.id, .int .i64 T.c, .int .i64 T.d, .int .i64 T.t, .int .i64 T.p, .slice T.a1 T.ch.length T.c1, .slice T.a2 N T.c2], .bool true, .bool false, undef, .agg #[.int .i64 T.id, .int .i64 T.c, .int .i64 T.d, .int .i64 T.t, .int .i64 T.p, .slice T.a1 T.ch.length T.c1, .slice T.a2 N T.c2], .int .i64 N, .int .i64 (1 + (N : Int)), .slice (some ⟨w2.heap.size, 0, none⟩) 1 (1 + N), .func (.func 97) #[] #[.pointer (some ⟨w2.heap.size + 1, 0, none⟩), .pointer (some ⟨w.heap.size, 0, none⟩)], .func (.func gf) #[] lb, .int .i64 (x : Int), undef, undef, undef, undef, undef, undef, undef, undef, undef, undef], defers := [] }) ?assign ?body ?done ?stop
  case assign =>
    intro l x V K hK
    gi_wp2
    exact hK
  case body =>
    rintro l pre x V ⟨⟨a, c, hI⟩, hle⟩ hlt
    have HI := Lib.hid hI
    have HLE := Lib.hid hle
    have r0 : V.cell? ⟨w2.heap.size + 1, 0, none⟩ = some (.slice a (pre.length + 1) c) := by rw [blk_cell hI.rb]; rfl
    have c0 : V.cell? ⟨w.heap.size, 0, none⟩ = some (.int .i64 T.id) := by rw [blk_cell hI.tb]; rfl
    have c1 : V.cell? ⟨w.heap.size, 1, none⟩ = some (.int .i64 T.c) := by rw [blk_cell hI.tb]; rfl
    have c2 : V.cell? ⟨w.heap.size, 2, none⟩ = some (.int .i64 T.d) := by rw [blk_cell hI.tb]; rfl
    have c3 : V.cell? ⟨w.heap.size, 3, none⟩ = some (.int .i64 T.t) := by rw [blk_cell hI.tb]; rfl
    have c4 : V.cell? ⟨w.heap.size, 4, none⟩ = some (.int .i64 T.p) := by rw [blk_cell hI.tb]; rfl
    have c5 : V.cell? ⟨w.heap.size, 5, none⟩ = some (.slice T.a1 T.ch.length T.c1) := by rw [blk_cell hI.tb]; rfl
    have c6 : V.cell? ⟨w.heap.size, 6, none⟩ = some (.slice T.a2 N T.c2) := by rw [blk_cell hI.tb, ← HNE.out]; rfl
    have RC := Lib.hid (fun w => round_any T HTT.out w)
    rw [hN] at RC
    clear hI hle HTE
    obtain ⟨q, hq⟩ : ∃ q, decide ((N : Int) < (pre.length : Int) + 1) = q := ⟨_, rfl⟩
    have HQ := Lib.hid hq
    gi_wp2
    have hS : (fun w' : World => w'.cell? ⟨w2.heap.size + 1, 0, none⟩ = some (.slice a (pre.length + 1) c) ∧ w'.cell? ⟨w.heap.size, 0, none⟩ = some (.int .i64 T.id) ∧ w'.cell? ⟨w.heap.size, 1, none⟩ = some (.int .i64 T.c) ∧ w'.cell? ⟨w.heap.size, 2, none⟩ = some (.int .i64 T.d) ∧ w'.cell? ⟨w.heap.size, 3, none⟩ = some (.int .i64 T.t) ∧ w'.cell? ⟨w.heap.size, 4, none⟩ = some (.int .i64 T.p) ∧ w'.cell? ⟨w.heap.size, 5, none⟩ = some (.slice T.a1 T.ch.length T.c1) ∧ w'.cell? ⟨w.heap.size, 6, none⟩ = some (.slice T.a2 N T.c2)) V.drew := ⟨r0, c0, c1, c2, c3, c4, c5, c6⟩
    refine region_round (fun w' : World => w'.cell? ⟨w2.heap.size + 1, 0, none⟩ = some (.slice a (pre.length + 1) c) ∧ w'.cell? ⟨w.heap.size, 0, none⟩ = some (.int .i64 T.id) ∧ w'.cell? ⟨w.heap.size, 1, none⟩ = some (.int .i64 T.c) ∧ w'.cell? ⟨w.heap.size, 2, none⟩ = some (.int .i64 T.d) ∧ w'.cell? ⟨w.heap.size, 3, none⟩ = some (.int .i64 T.t) ∧ w'.cell? ⟨w.heap.size, 4, none⟩ = some (.int .i64 T.p) ∧ w'.cell? ⟨w.heap.size, 5, none⟩ = some (.slice T.a1 T.ch.length T.c1) ∧ w'.cell? ⟨w.heap.size, 6, none⟩ = some (.slice T.a2 N T.c2)) (by kernel_rfl) (by kernel_rfl) (by rintro ⟨_, _, h⟩; exact h) ?_
    refine wpAnyH_take (i := 0) (oi := { dst := some 23, op := .load RB4 (.tmp 5), type := RB4, pos := _, after := _, guard := none }) (v := Value.slice a (pre.length + 1) c) rfl (by kernel_rfl) (by kernel_rfl) (by kernel_rfl) (fun _ _ _ h => h) (Or.inl ⟨by rfl, ?_⟩) hS ?_
    · rintro w' ⟨z0, z1, z2, z3, z4, z5, z6, z7⟩
      go_simp
    simp only [Act.put, List.setIfInBounds_toArray, List.set_cons_zero, List.set_cons_succ]
    refine wpAnyH_take (i := 1) (oi := { dst := some 24, op := .call { callee := .builtin .len, args := #[.tmp 23], argTypes := #[RB4] }, type := 3, pos := _, after := _, guard := none }) (v := .int .i64 ((pre.length : Int) + 1)) rfl (by kernel_rfl) (by kernel_rfl) (by kernel_rfl) (fun _ _ _ h => h) (Or.inl ⟨by rfl, ?_⟩) hS ?_
    · rintro w' ⟨z0, z1, z2, z3, z4, z5, z6, z7⟩
      go_simp
    simp only [Act.put, List.setIfInBounds_toArray, List.set_cons_zero, List.set_cons_succ]
    refine wpAnyH_take (i := 2) (oi := { dst := some 25, op := .load TT (.tmp 2), type := TT, pos := _, after := _, guard := none }) (v := .agg #[.int .i64 T.id, .int .i64 T.c, .int .i64 T.d, .int .i64 T.t, .int .i64 T.p, .slice T.a1 T.ch.length T.c1, .slice T.a2 N T.c2]) rfl (by kernel_rfl) (by kernel_rfl) (by kernel_rfl) (fun _ _ _ h => h) (Or.inl ⟨by rfl, ?_⟩) hS ?_
    · rintro w' ⟨z0, z1, z2, z3, z4, z5, z6, z7⟩
      go_simp
    simp only [Act.put, List.setIfInBounds_toArray, List.set_cons_zero, List.set_cons_succ]
    refine wpAnyH_ready (rs := [3]) (by kernel_rfl) (by simp) ?_
    refine AllReadyH.cons (o := { dst := some 26, op := .call { callee := .value (.func 82), args := #[.tmp 25], argTypes := #[TT] }, type := 2, pos := _, after := _, guard := none }) rfl (fun K hK => ?_) AllReadyH.nil
    go_simp
    go_at_call 82
    (with_reducible refine (RC.out _).mono ?_)
    rintro e w3 ⟨rfl, b3⟩
    have b4 : Below V.heap.size V w3 := below_next b3 (Below.refl _ V) (Nat.le_refl _)
    have hS3 : (fun w' : World => w'.cell? ⟨w2.heap.size + 1, 0, none⟩ = some (.slice a (pre.length + 1) c) ∧ w'.cell? ⟨w.heap.size, 0, none⟩ = some (.int .i64 T.id) ∧ w'.cell? ⟨w.heap.size, 1, none⟩ = some (.int .i64 T.c) ∧ w'.cell? ⟨w.heap.size, 2, none⟩ = some (.int .i64 T.d) ∧ w'.cell? ⟨w.heap.size, 3, none⟩ = some (.int .i64 T.t) ∧ w'.cell? ⟨w.heap.size, 4, none⟩ = some (.int .i64 T.p) ∧ w'.cell? ⟨w.heap.size, 5, none⟩ = some (.slice T.a1 T.ch.length T.c1) ∧ w'.cell? ⟨w.heap.size, 6, none⟩ = some (.slice T.a2 N T.c2)) w3 := ⟨kept_cell b4 r0, kept_cell b4 c0, kept_cell b4 c1, kept_cell b4 c2, kept_cell b4 c3, kept_cell b4 c4, kept_cell b4 c5, kept_cell b4 c6⟩
    have H3 := Lib.hid (And.intro (HI.out.below b4) b4)
    clear b3 b4 r0 c0 c1 c2 c3 c4 c5 c6
    refine hK.out _ _ hS3 (fun _ => ?_)
    clear hK K
    try simp only [Act.put, List.setIfInBounds_toArray, List.set_cons_zero, List.set_cons_succ]
    refine wpAnyH_ready (rs := [4]) (by kernel_rfl) (by simp) ?_
    refine AllReadyH.cons (o := { dst := some 27, op := .binOp .gtr 2 (.tmp 24) (.tmp 26) 2, type := 4, pos := _, after := _, guard := none }) rfl (fun K hK => ?_) AllReadyH.nil
    go_simp
    refine hK.out _ _ hS3 (fun _ => ?_)
    clear hK K
    try simp only [Act.put, List.setIfInBounds_toArray, List.set_cons_zero, List.set_cons_succ]
    refine wpAnyH_ready (rs := [5]) (by kernel_rfl) (by simp) ?_
    refine AllReadyH.cons (o := { dst := some 22, op := .assign (.tmp 27), type := 4, pos := _, after := _, guard := none }) rfl (fun K hK => ?_) AllReadyH.nil
    go_simp
    refine hK.out _ _ hS3 (fun _ => ?_)
    clear hK K
    try simp only [Act.put, List.setIfInBounds_toArray, List.set_cons_zero, List.set_cons_succ]
    refine wpAnyH_done (by kernel_rfl) ?_ _
    have fb0 : w3.cell? ⟨w2.heap.size + 1 + 1, 0, none⟩ = some (.func (.func 97) #[] #[.pointer (some ⟨w2.heap.size + 1, 0, none⟩), .pointer (some ⟨w.heap.size, 0, none⟩)]) := by rw [blk_cell H3.out.1.fb]; rfl
    clear hS hS3 RC hq
    cases q with
    | true =>
      gi_wp2
      have hN1 := of_decide_eq_true HQ.out
      have hk := turn_keeps (S := fun _ => False) (B := W.heap.size) (Turn.of_below H3.out.2) (fun i h => h.elim)
      exact ⟨hk, rfl, pre, x, rfl, by have := HLE.out; have := HNE.out; omega, a, c, H3.out.1⟩
    | false =>
      have hN1 := of_decide_eq_false HQ.out
      have hlt2 : pre.length < T.us.length := by have := HNE.out; omega
      have AD := Lib.hid (add_any HTT.out (HOK.out.below H3.out.1.low) (by rintro e; rw [e] at hlt2; simp at hlt2) H3.out.1 x (by have := HNE.out; omega))
      have HL2' := Lib.hid hlt2
      clear hN1 hlt2
      gi_wp2_with (refine ⟨trivial, ?_⟩; gi_at_call 97; (refine (CallsIn.inRound l (callsIn_wide.2 (AD.out))).mono ?_); rintro e w4 ⟨rfl, g4, S4, s4, t4⟩)
      have ht := (Turn.of_below (S := S4) H3.out.2).then (t4.mono fun i _ h => h)
      have hs4 : ∀ i, S4 i → ∀ o, V.heap[i]? = some o → o.isCells = true := fun i hi o ho => (s4 i hi).2 o (kept_obj H3.out.2 ho)
      exact ⟨turn_keeps ht hs4, ⟨turn_walks ht hs4, fun k cs U fr hk hc => ht.obj hc (fun q => by have := (s4 k q).1; have := HSS.out k hk; omega)⟩, g4, by have := HL2'.out; simp; omega⟩
  case done =>
    rintro D ys V hD hys ⟨⟨a, c, hI⟩, hle⟩ hK
    subst hys
    have HI := Lib.hid hI
    have HLE := Lib.hid hle
    have r0 : V.cell? ⟨w2.heap.size + 1, 0, none⟩ = some (.slice a (ys.length + 1) c) := by rw [blk_cell hI.rb]; rfl
    clear hI hle
    gi_wp2
    go_wp2
    refine ⟨by simp, .inl ⟨_, _, rfl, run_takeDeferred hK, ?_⟩⟩
    refine ⟨_, results_tmp rfl _ _ _, ⟨a, c, ?_, ?_⟩, ?_⟩
    · rw [Nat.min_eq_left (by have := HLE.out; omega)]; rfl
    · rw [List.take_of_length_le HLE.out]
      have hv := HI.out.view
      rcases hv with hv | ⟨g, o, e, hc⟩
      · exact .inl hv
      · exact .inr ⟨g, o, e, fun j u hj => by
          have h1 := hc j u hj
          have hne : g ≠ D := by
            rintro rfl
            unfold World.cell? at h1
            rw [hK] at h1
            simp at h1
          have := World.putObj_heap_other (w := V) (o := .deferred none) hne
          unfold World.cell? at h1 ⊢
          rw [this]
          exact h1⟩
    · exact HI.out.low.trans (belowK_b (w := w) (Nat.le_refl _) _ D _ _ (by have := HW.out.low.size; omega) hK rfl rfl)
  case stop =>
    rintro D c ys V hD hys ⟨rfl, pre, x, rfl, hl, a, c, hI⟩ hK
    have HI := Lib.hid hI
    have r0 : V.cell? ⟨w2.heap.size + 1, 0, none⟩ = some (.slice a (pre.length + 1) c) := by rw [blk_cell hI.rb]; rfl
    clear hI
    gi_wp2
    go_wp2
    refine ⟨by simp, .inl ⟨_, _, rfl, run_takeDeferred hK, ?_⟩⟩
    have htk : ticks.take N = pre := by
      obtain ⟨r, hr⟩ := hys
      rw [← hr, List.append_assoc, List.take_append_of_le_length (by omega), List.take_of_length_le (by omega)]
    have hln : N ≤ ticks.length := by
      obtain ⟨r, hr⟩ := hys
      rw [← hr]; simp; omega
    refine ⟨_, results_tmp rfl _ _ _, ⟨a, c, ?_, ?_⟩, ?_⟩
    · rw [hN, Nat.min_eq_right hln, ← hN, ← hl]; rfl
    · rw [hN, htk]
      have hv := HI.out.view
      rcases hv with hv | ⟨g, o, e, hc⟩
      · exact .inl hv
      · exact .inr ⟨g, o, e, fun j u hj => by
          have h1 := hc j u hj
          have hne : g ≠ D := by
            rintro rfl
            unfold World.cell? at h1
            rw [hK] at h1
            simp at h1
          have := World.putObj_heap_other (w := V) (o := .deferred none) hne
          unfold World.cell? at h1 ⊢
          rw [this]
          exact h1⟩
    · exact HI.out.low.trans (belowK_b (w := w) (Nat.le_refl _) _ D _ _ (by have := HW.out.low.size; omega) hK rfl rfl)
end Go.Proofs.Ytlglncnhhgofoaa

/-
  More walks over sets: what is in both, how many, a set out of a row; two together.
-/
namespace Go.Proofs.Ytlglncnhhgofoaa
open Go.RowKit

set_option maxHeartbeats 1000000 in
theorem count_any (x : Nat) (hx : x < 18446744073709551616) (w : World) :
    Calls Try.prog 84 #[.int .u64 x] w fun e w' => e = .returned (.int .i64 (cntN x.testBit 64)) ∧ w = w' := by
  obtain ⟨a, b, c, d, e, f, h1, ka, h2, kb, kb', h3, h4, h5, h6, kc, kd, ke, kf, hr⟩ := pop_steps x
  have q : cntN x.testBit 64 < 128 := by have := cntN_le x.testBit 64; omega
  have w1 : IntKind.u64.wrap (bits .and .u64 ((x : Int) / 2) 6148914691236517205 + bits .and .u64 (x : Int) 6148914691236517205) = (a : Int) := by
    rw [show (x : Int) / 2 = ((x / 2 : Nat) : Int) by omega, show (6148914691236517205 : Int) = ((6148914691236517205 : Nat) : Int) from rfl, and_nat _ _ (by omega) (by omega), and_nat _ _ hx (by omega), ← Int.natCast_add, h1]
    exact u64_nat _ ka
  have w2 : IntKind.u64.wrap (bits .and .u64 ((a : Int) / 4) 3689348814741910323 + bits .and .u64 (a : Int) 3689348814741910323) = (b : Int) := by
    rw [show (a : Int) / 4 = ((a / 4 : Nat) : Int) by omega, show (3689348814741910323 : Int) = ((3689348814741910323 : Nat) : Int) from rfl, and_nat _ _ (by omega) (by omega), and_nat _ _ ka (by omega), ← Int.natCast_add, h2]
    exact u64_nat _ kb
  have w3 : bits .and .u64 (IntKind.u64.wrap ((b : Int) / 16 + (b : Int))) 1085102592571150095 = (c : Int) := by
    rw [show (b : Int) / 16 + (b : Int) = ((b / 16 + b : Nat) : Int) by omega, u64_nat _ kb', show (1085102592571150095 : Int) = ((1085102592571150095 : Nat) : Int) from rfl, and_nat _ _ kb' (by omega), h3]
  have w4 : IntKind.u64.wrap ((c : Int) + (c : Int) / 256) = (d : Int) := by
    rw [show (c : Int) + (c : Int) / 256 = ((c + c / 256 : Nat) : Int) by omega, h4]; exact u64_nat _ kd
  have w5 : IntKind.u64.wrap ((d : Int) + (d : Int) / 65536) = (e : Int) := by
    rw [show (d : Int) + (d : Int) / 65536 = ((d + d / 65536 : Nat) : Int) by omega, h5]; exact u64_nat _ ke
  have w6 : IntKind.u64.wrap ((e : Int) + (e : Int) / 4294967296) = (f : Int) := by
    rw [show (e : Int) + (e : Int) / 4294967296 = ((e + e / 4294967296 : Nat) : Int) by omega, h6]; exact u64_nat _ (by omega)
  have w7 : bits .and .i64 (wrap64 (f : Int)) 127 = (cntN x.testBit 64 : Nat) := by rw [i64_and127, IntWalk.wrap64_in _ (by omega), ← hr]; exact (Int.natCast_emod f 128).symm
  clear h1 h2 h3 h4 h5 h6 ka kb kb' kc kd ke kf hr q hx
  generalize cntN x.testBit 64 = z at w7 ⊢
  go_enter Try.func84, Try.ntmps84
  go_wp2
  go_ret
  exact ⟨rfl, rfl⟩
set_option maxHeartbeats 2000000 in
theorem and_any (p q : Nat → Bool) (w : World) :
    Calls Try.prog 83 #[.agg #[.int .u64 (wd p 0), .int .u64 (wd p 1), .int .u64 (wd p 2), .int .u64 (wd p 3)], .agg #[.int .u64 (wd q 0), .int .u64 (wd q 1), .int .u64 (wd q 2), .int .u64 (wd q 3)]] w fun e w' => e = .returned (.agg #[.int .u64 (wd (andP p q) 0), .int .u64 (wd (andP p q) 1), .int .u64 (wd (andP p q) 2), .int .u64 (wd (andP p q) 3)]) ∧ Below w.heap.size w w' := by
  have e0 := Lib.hid (w_and p q 0)
  have e1 := Lib.hid (w_and p q 1)
  have e2 := Lib.hid (w_and p q 2)
  have e3 := Lib.hid (w_and p q 3)
  generalize wd (andP p q) = r at e0 e1 e2 e3 ⊢
  generalize wd p = a at e0 e1 e2 e3 ⊢
  generalize wd q = b at e0 e1 e2 e3 ⊢
  go_enter Try.func83, Try.ntmps83
  go_wp2
  go_loopw [6] (fun i wr => ∃ k : Nat, k ≤ 4 ∧ i = .int .i64 k ∧ Loop4 w wr k r a b) (fun i _ => (4 - intOf i).toNat)
  case atStart =>
    exact ⟨0, by omega, rfl, ⟨((Four.new w _ _ _ _ _).alloc _).alloc _, by simpa using (Four.new (w.alloc _) (b 0) (b 1) (b 2) (b 3) _).alloc _, by simpa using Four.new ((w.alloc _).alloc _) 0 0 0 0 _, (((Below.refl _ _).alloc (Nat.le_refl _) _).alloc (by simp) _).alloc (by simp; omega) _⟩⟩
  case round =>
    obtain ⟨k, hk, rfl, hx, hy, hz, hb⟩ := hrel
    have HY := Lib.hid hy
    have HZ := Lib.hid hz
    have HB := Lib.hid hb
    have HX := Lib.hid hx
    clear hb hz
    rcases (show k = 0 ∨ k = 1 ∨ k = 2 ∨ k = 3 ∨ k = 4 by omega) with rfl | rfl | rfl | rfl | rfl
    rotate_left 4
    · clear HY hy
      simp only [mix, Nat.reduceLT, reduceIte] at hx
      obtain ⟨x0, x1, x2, x3, g0, g1, g2, g3⟩ := hx
      obtain ⟨z0, z1, z2, z3, v0, v1, v2, v3⟩ := HZ.out
      go_wp2
      refine bodyPost_ret (v := .agg #[.int .u64 (r 0), .int .u64 (r 1), .int .u64 (r 2), .int .u64 (r 3)]) ?_ rfl ⟨rfl, below_set4 HB.out (by omega) (r 0) (r 1) (r 2) (r 3)⟩
      obtain ⟨s0, s1, s2, s3, _, _, _, _⟩ := HZ.out.set4 (r 0) (r 1) (r 2) (r 3)
      unfold set4 at s0 s1 s2 s3
      simp [results, Try.results83, go_sem, s0, s1, s2, s3]
    all_goals
      simp only [mix, Nat.lt_irrefl, Nat.reduceLT, Nat.not_lt_zero, reduceIte] at hx
      obtain ⟨x0, x1, x2, x3, g0, g1, g2, g3⟩ := hx
      obtain ⟨y0, y1, y2, y3, _, _, _, _⟩ := hy
    · have e := e0.out
      go_wp2
      go_region
      all_goals
        clear e
        go_wp2
        go_roundw
        case rel => exact ⟨1, by omega, rfl, ⟨(HX.out.set0 (r 0)).of_drew, (HY.out.far (p := ⟨w.heap.size, 0, none⟩) (by simp) _).of_drew, (HZ.out.far (p := ⟨w.heap.size, 0, none⟩) (by simp; omega) _).of_drew, (HB.out.setCell (p := ⟨w.heap.size, 0, none⟩) (Nat.le_refl _) _).drew⟩⟩
        case measure => simp [intOf]
    · have e := e1.out
      go_wp2
      go_region
      all_goals
        clear e
        go_wp2
        go_roundw
        case rel => exact ⟨2, by omega, rfl, ⟨(HX.out.set1 (r 1)).of_drew, (HY.out.far (p := ⟨w.heap.size, 1, none⟩) (by simp) _).of_drew, (HZ.out.far (p := ⟨w.heap.size, 1, none⟩) (by simp; omega) _).of_drew, (HB.out.setCell (p := ⟨w.heap.size, 1, none⟩) (Nat.le_refl _) _).drew⟩⟩
        case measure => simp [intOf]
    · have e := e2.out
      go_wp2
      go_region
      all_goals
        clear e
        go_wp2
        go_roundw
        case rel => exact ⟨3, by omega, rfl, ⟨(HX.out.set2 (r 2)).of_drew, (HY.out.far (p := ⟨w.heap.size, 2, none⟩) (by simp) _).of_drew, (HZ.out.far (p := ⟨w.heap.size, 2, none⟩) (by simp; omega) _).of_drew, (HB.out.setCell (p := ⟨w.heap.size, 2, none⟩) (Nat.le_refl _) _).drew⟩⟩
        case measure => simp [intOf]
    · have e := e3.out
      go_wp2
      go_region
      all_goals
        clear e
        go_wp2
        go_roundw
        case rel => exact ⟨4, by omega, rfl, ⟨(HX.out.set3 (r 3)).of_drew, (HY.out.far (p := ⟨w.heap.size, 3, none⟩) (by simp) _).of_drew, (HZ.out.far (p := ⟨w.heap.size, 3, none⟩) (by simp; omega) _).of_drew, (HB.out.setCell (p := ⟨w.heap.size, 3, none⟩) (Nat.le_refl _) _).drew⟩⟩
        case measure => simp [intOf]
set_option maxHeartbeats 2000000 in
theorem len_core (p : Nat → Bool) (w : World) :
    Calls Try.prog 59 #[.agg #[.int .u64 (wd p 0), .int .u64 (wd p 1), .int .u64 (wd p 2), .int .u64 (wd p 3)]] w fun e w' => e = .returned (.int .i64 (cntW p 4)) ∧ Below w.heap.size w w' := by
  have HL : Hid (∀ k, k ≤ 4 → cntW p k ≤ 256) := fun k hk => by rw [cntW_eq]; have := cntN_le p (64 * k); omega
  have HC : Hid (∀ k w, Calls Try.prog 84 #[.int .u64 (wd p k)] w fun e w' => e = .returned (.int .i64 (cntN (wd p k).testBit 64)) ∧ w = w') := fun k w => count_any _ (wd_lt p k) w
  have H0 : cntW p 0 = 0 := rfl
  have HS : Hid (∀ k, cntW p (k + 1) = cntW p k + cntN (wd p k).testBit 64) := fun _ => rfl
  have HN : Hid (∀ k, cntN (wd p k).testBit 64 ≤ 64) := fun k => cntN_le _ 64
  generalize wd p = a at HC HS HN ⊢
  generalize cntW p = c at HL H0 HS ⊢
  go_enter Try.func59, Try.ntmps59
  go_wp2
  go_loop [3, 7] (fun n i => ∃ k : Nat, k ≤ 4 ∧ i = .int .i64 k ∧ n = .int .i64 (c k)) (fun _ i => (4 - intOf i).toNat)
  case atStart => exact ⟨0, by omega, rfl, by rw [H0]; rfl⟩
  case round =>
    obtain ⟨k, hk, rfl, rfl⟩ := hrel
    have hle := HL.out k hk
    rcases (show k = 0 ∨ k = 1 ∨ k = 2 ∨ k = 3 ∨ k = 4 by omega) with rfl | rfl | rfl | rfl | rfl
    rotate_left 4
    · clear H0
      go_wp2
      go_ret
      exact ⟨rfl, (Below.refl _ _).alloc (Nat.le_refl _) _⟩
    · have C := Lib.hid (HC.out 0)
      have hn := HN.out 0
      have hs := Lib.hid (HS.out 0)
      have hix := index_0 (a 0) (a 1) (a 2) (a 3)
      clear H0
      generalize cntN (a 0).testBit 64 = m at C hn hs
      go_wp2_with (go_at_call 84; (refine (C.out _).mono ?_); rintro e w' ⟨rfl, rfl⟩)
      go_round
      case rel => exact ⟨0 + 1, by omega, rfl, by rw [hs.out]; go_num⟩
      case measure => simp [intOf]
    · have C := Lib.hid (HC.out 1)
      have hn := HN.out 1
      have hs := Lib.hid (HS.out 1)
      have hix := index_1 (a 0) (a 1) (a 2) (a 3)
      clear H0
      generalize cntN (a 1).testBit 64 = m at C hn hs
      go_wp2_with (go_at_call 84; (refine (C.out _).mono ?_); rintro e w' ⟨rfl, rfl⟩)
      go_round
      case rel => exact ⟨1 + 1, by omega, rfl, by rw [hs.out]; go_num⟩
      case measure => simp [intOf]
    · have C := Lib.hid (HC.out 2)
      have hn := HN.out 2
      have hs := Lib.hid (HS.out 2)
      have hix := index_2 (a 0) (a 1) (a 2) (a 3)
      clear H0
      generalize cntN (a 2).testBit 64 = m at C hn hs
      go_wp2_with (go_at_call 84; (refine (C.out _).mono ?_); rintro e w' ⟨rfl, rfl⟩)
      go_round
      case rel => exact ⟨2 + 1, by omega, rfl, by rw [hs.out]; go_num⟩
      case measure => simp [intOf]
    · have C := Lib.hid (HC.out 3)
      have hn := HN.out 3
      have hs := Lib.hid (HS.out 3)
      have hix := index_3 (a 0) (a 1) (a 2) (a 3)
      clear H0
      generalize cntN (a 3).testBit 64 = m at C hn hs
      go_wp2_with (go_at_call 84; (refine (C.out _).mono ?_); rintro e w' ⟨rfl, rfl⟩)
      go_round
      case rel => exact ⟨3 + 1, by omega, rfl, by rw [hs.out]; go_num⟩
      case measure => simp [intOf]
theorem len_any (p : Nat → Bool) (w : World) :
    Calls Try.prog 59 #[.agg #[.int .u64 (wd p 0), .int .u64 (wd p 1), .int .u64 (wd p 2), .int .u64 (wd p 3)]] w fun e w' => e = .returned (.int .i64 (cntN p 256)) ∧ Below w.heap.size w w' := by
  have h := len_core p w
  rw [cntW_eq] at h
  exact h
theorem ror_two (p q : Nat → Bool) (b : Nat) (w : World) (hb : b < w.heap.size)
    (h0 : w.cell? ⟨b, 0, none⟩ = some (.int .u64 (wd p 0))) (h1 : w.cell? ⟨b, 1, none⟩ = some (.int .u64 (wd p 1))) (h2 : w.cell? ⟨b, 2, none⟩ = some (.int .u64 (wd p 2))) (h3 : w.cell? ⟨b, 3, none⟩ = some (.int .u64 (wd p 3)))
    (h4 : w.cell? ⟨b, 4, none⟩ = some (.int .u64 (wd q 0))) (h5 : w.cell? ⟨b, 5, none⟩ = some (.int .u64 (wd q 1))) (h6 : w.cell? ⟨b, 6, none⟩ = some (.int .u64 (wd q 2))) (h7 : w.cell? ⟨b, 7, none⟩ = some (.int .u64 (wd q 3))) :
    Calls Try.prog 62 #[.slice (some ⟨b, 0, none⟩) 2 2] w fun e w' => e = .returned (.agg #[.int .u64 (wd (orP p q) 0), .int .u64 (wd (orP p q) 1), .int .u64 (wd (orP p q) 2), .int .u64 (wd (orP p q) 3)]) ∧ Below w.heap.size w w' := by
  have h := ror_any [p, q] (by simp) 2 (some ⟨b, 0, none⟩) w (.inr ⟨b, 0, rfl, hb, fun k hk => by
    rcases (show k = 0 ∨ k = 1 by simp at hk; omega) with rfl | rfl
    · exact ⟨h0, h1, h2, h3⟩
    · exact ⟨h4, h5, h6, h7⟩⟩)
  rw [show ([p, q] : List (Nat → Bool)).length = 2 from rfl, orN_two p q 0 (by omega), orN_two p q 1 (by omega), orN_two p q 2 (by omega), orN_two p q 3 (by omega)] at h
  exact h
end Go.Proofs.Ytlglncnhhgofoaa

/-
  The walks over what is used ahead of a place, behind it, at all, and what is useful there.
-/
namespace Go.Proofs.Ytlglncnhhgofoaa
open Go.RowKit Go.Maps Go.Shelf


/-- A result that is nothing yet, in a block of its own. -/
structure Zero4 (G : Nat) (V0 w : World) : Prop where
  low : Below G V0 w
  zer : w.heap[G]? = some (.cells #[.int .u64 0, .int .u64 0, .int .u64 0, .int .u64 0] ST4 (0, 0))
theorem Zero4.new {V0 : World} {G : Nat} (h : V0.heap.size = G) : Zero4 G V0 (V0.alloc (.cells #[.int .u64 0, .int .u64 0, .int .u64 0, .int .u64 0] ST4)) := by
  subst h
  exact ⟨(Below.refl _ _).alloc (Nat.le_refl _) _, heap_alloc_new V0 _⟩
theorem Zero4.drew {G : Nat} {V0 w : World} (h : Zero4 G V0 w) : Zero4 G V0 w.drew := ⟨h.low.drew, h.zer⟩
theorem Zero4.up {G : Nat} {V0 w w' : World} (h : Zero4 G V0 w) (hb : Below w.heap.size w w') : Zero4 G V0 w' :=
  ⟨h.low.trans (hb.mono (Nat.le_of_lt (lt_of_block h.zer))), kept_obj hb h.zer⟩
theorem Calls.upZ {P : Program} {f : FuncId} {args : Array Value} {G : Nat} {V0 w : World} {R : Ending → World → Prop} (h : Zero4 G V0 w) (c : Calls P f args w fun e w' => R e w' ∧ Below w.heap.size w w') : Calls P f args w fun e w' => R e w' ∧ Zero4 G V0 w' :=
  c.mono fun _ _ ⟨h1, h2⟩ => ⟨h1, h.up h2⟩
theorem enters_up (args : Array Value) (w : World) : (callFunc 99 args).run Try.prog w = .ok (.enter 99 args) w := enters_of Try.func99 (by kernel_rfl) rfl args w
theorem enters_down (args : Array Value) (w : World) : (callFunc 100 args).run Try.prog w = .ok (.enter 100 args) w := enters_of Try.func100 (by kernel_rfl) rfl args w
/-- The rows of the ticks from 0 on; of those below an end. -/
theorem grow_up {T : TV} (hT : l_Told T) (m : Nat) (hm : m ≤ 1073741824) (Be : Nat) (w : World) (hok : T.ok w) (hb : w.heap[Be]? = some (.cells #[.int .i64 (m : Int)] 2 (0, 0))) :
    Calls Try.prog 79 #[.agg #[.int .i64 T.id, .int .i64 T.c, .int .i64 T.d, .int .i64 T.t, .int .i64 T.p, .slice T.a1 T.ch.length T.c1, .slice T.a2 T.us.length T.c2], .func (.func 99) #[] #[.pointer (some ⟨Be, 0, none⟩)]] w (GrowBack T (upT m) w) :=
  growing_any hT hok (S := fun k => k = Be) (fun k hk => by subst hk; exact lt_of_block hb) (rising_tells Be m hm w hb) enters_up
theorem grow_down {T : TV} (hT : l_Told T) (C a : Nat) (hC : C ≤ 1073741824) (ha : a ≤ C) (Be Bf : Nat) (w : World) (hok : T.ok w) (hb : w.heap[Be]? = some (.cells #[.int .i64 (C : Int)] 2 (0, 0))) (hf : w.heap[Bf]? = some (.cells #[.int .i64 (a : Int)] 2 (0, 0))) :
    Calls Try.prog 79 #[.agg #[.int .i64 T.id, .int .i64 T.c, .int .i64 T.d, .int .i64 T.t, .int .i64 T.p, .slice T.a1 T.ch.length T.c1, .slice T.a2 T.us.length T.c2], .func (.func 100) #[] #[.pointer (some ⟨Be, 0, none⟩), .pointer (some ⟨Bf, 0, none⟩)]] w (GrowBack T (downT C (C - a)) w) :=
  growing_any hT hok (S := fun k => k = Be ∨ k = Bf) (fun k hk => by rcases hk with rfl | rfl; exact lt_of_block hb; exact lt_of_block hf) (falling_tells Be Bf C a hC ha w hb hf) enters_down
theorem last_rows {us : List Int} (h5 : us.length ≤ 64) (l : List Nat) {P : Nat → Bool} (hP : tkP us (l.take us.length) = P) (a : Option Addr) (c : Nat) (w : World) (h : SView w a (rowsOf us (l.take us.length))) :
    Calls Try.prog 98 #[.slice a (min l.length us.length + 1) c] w (SetBack P w) :=
  last_any _ P (min l.length us.length) (by rw [rows_len, List.length_take, Nat.min_comm]) (by rw [← hP, rows_at _ _ (by rw [List.length_take]; omega), List.take_of_length_le (by rw [List.length_take]; omega)]) (by omega) a c w h
theorem up_last (us : List Int) (m : Nat) : tkP us ((upT m).take us.length) = inP us 0 m := by
  rw [← up_all us m]
  congr 1
  rcases Nat.le_total us.length m with h | h
  · rw [upT_take m _ h, Nat.min_eq_right h]
  · rw [List.take_of_length_le (by rw [upT_len]; exact h), Nat.min_eq_left h]
theorem down_last (us : List Int) (C a : Nat) (ha : a ≤ C) : tkP us ((downT C (C - a)).take us.length) = inP us a C := by
  rw [← down_all us C a ha]
  congr 1
  rcases Nat.le_total us.length (C - a) with h | h
  · rw [downT_take C _ _ h, Nat.min_eq_right h]
  · rw [List.take_of_length_le (by rw [downT_len]; exact h), Nat.min_eq_left h]
theorem rising_box (m : Nat) (w : World) : Calls Try.prog 80 #[.int .i64 (m : Int)] w fun e w' => (∃ Be, e = .returned (.func (.func 99) #[] #[.pointer (some ⟨Be, 0, none⟩)]) ∧ w'.heap[Be]? = some (.cells #[.int .i64 (m : Int)] 2 (0, 0))) ∧ Below w.heap.size w w' :=
  (rising_any m w).mono fun e w' ⟨h1, h2⟩ => ⟨⟨_, h1, by rw [h2]; exact heap_alloc_new w _⟩, by rw [h2]; exact (Below.refl _ _).alloc (Nat.le_refl _) _⟩
theorem falling_box (C a : Nat) (w : World) : Calls Try.prog 81 #[.int .i64 (C : Int), .int .i64 (a : Int)] w fun e w' => (∃ Be Bf, e = .returned (.func (.func 100) #[] #[.pointer (some ⟨Be, 0, none⟩), .pointer (some ⟨Bf, 0, none⟩)]) ∧ w'.heap[Be]? = some (.cells #[.int .i64 (C : Int)] 2 (0, 0)) ∧ w'.heap[Bf]? = some (.cells #[.int .i64 (a : Int)] 2 (0, 0))) ∧ Below w.heap.size w w' :=
  (falling_any C a w).mono fun e w' ⟨h1, h2⟩ => ⟨⟨_, _, h1, by rw [h2]; exact (two_boxes w rfl _ _).1, by rw [h2]; exact (two_boxes w rfl _ _).2⟩, by rw [h2]; exact (by repeat (first | exact Below.refl _ _ | (with_reducible assumption) | refine bw_alloc ?_ _ | refine bw_drew ?_))⟩

set_option maxRecDepth 100000 in
set_option maxHeartbeats 8000000 in
theorem before_any (T : TV) (hT : l_Told T) (C p : Nat) (hC : T.c = (C : Int)) (w : World) (hok : T.ok w) : Calls Try.prog 96 #[.agg #[.int .i64 T.id, .int .i64 T.c, .int .i64 T.d, .int .i64 T.t, .int .i64 T.p, .slice T.a1 T.ch.length T.c1, .slice T.a2 T.us.length T.c2], .int .i64 (p : Int)] w (SetBack (inP T.us 0 (min p C)) w) := by
  have hC24 : C ≤ 1073741824 := by have := hT.c30; omega
  have PC := Lib.hid (fun w => place_any T hT C p hC w)
  obtain ⟨q, hq⟩ : ∃ q, min p C = q := ⟨_, rfl⟩
  have hq24 : q ≤ 1073741824 := by omega
  rw [hq] at PC ⊢
  have RC := Lib.hid (fun w => rising_box q w)
  have GC := Lib.hid (fun Be v (hb : Below w.heap.size w v) => grow_up hT q hq24 Be v (hok.below hb))
  obtain ⟨P, hP⟩ : ∃ P, inP T.us 0 q = P := ⟨_, rfl⟩
  have LC := Lib.hid (fun a c v => last_rows hT.n64 (upT q) ((up_last T.us q).trans hP) a c v)
  rw [hP]
  clear hT hok hP hq hC hC24 hq24
  go_enter Try.func96, Try.ntmps96
  go_upto_region 1 with fail
  obtain ⟨V0, hV0⟩ : ∃ V0, w.alloc (.cells #[.int .i64 T.id, .int .i64 T.c, .int .i64 T.d, .int .i64 T.t, .int .i64 T.p, .slice T.a1 T.ch.length T.c1, .slice T.a2 T.us.length T.c2] TT) = V0 := ⟨_, rfl⟩
  have hG : V0.heap.size = w.heap.size + 1 := by rw [← hV0, World.size_alloc]
  have HT0 : Hid (V0.heap[w.heap.size]? = some (.cells #[.int .i64 T.id, .int .i64 T.c, .int .i64 T.d, .int .i64 T.t, .int .i64 T.p, .slice T.a1 T.ch.length T.c1, .slice T.a2 T.us.length T.c2] TT (0, 0))) := by rw [← hV0]; exact heap_alloc_new w _
  have HLW : Hid (Below w.heap.size w V0) := by rw [← hV0]; exact (Below.refl _ _).alloc (Nat.le_refl _) _
  rw [hV0]
  refine gen_world (Zero4 (w.heap.size + 1) V0) (Zero4.new hG) ?_
  intro V kx
  clear hV0 hG
  have HZ := Lib.hid kx
  have MK : Hid (∀ w', Below (w.heap.size + 1) V0 w' → (w'.cell? ⟨w.heap.size, 0, none⟩ = some (.int .i64 T.id) ∧ w'.cell? ⟨w.heap.size, 1, none⟩ = some (.int .i64 T.c) ∧ w'.cell? ⟨w.heap.size, 2, none⟩ = some (.int .i64 T.d) ∧ w'.cell? ⟨w.heap.size, 3, none⟩ = some (.int .i64 T.t) ∧ w'.cell? ⟨w.heap.size, 4, none⟩ = some (.int .i64 T.p) ∧ w'.cell? ⟨w.heap.size, 5, none⟩ = some (.slice T.a1 T.ch.length T.c1) ∧ w'.cell? ⟨w.heap.size, 6, none⟩ = some (.slice T.a2 T.us.length T.c2))) := fun w' hb => by
    have x := kept_objB hb (Nat.lt_succ_self _) HT0.out
    exact ⟨by rw [blk_cell x]; rfl, by rw [blk_cell x]; rfl, by rw [blk_cell x]; rfl, by rw [blk_cell x]; rfl, by rw [blk_cell x]; rfl, by rw [blk_cell x]; rfl, by rw [blk_cell x]; rfl⟩
  go_region_held3 (fun w' => w'.cell? ⟨w.heap.size, 0, none⟩ = some (.int .i64 T.id) ∧ w'.cell? ⟨w.heap.size, 1, none⟩ = some (.int .i64 T.c) ∧ w'.cell? ⟨w.heap.size, 2, none⟩ = some (.int .i64 T.d) ∧ w'.cell? ⟨w.heap.size, 3, none⟩ = some (.int .i64 T.t) ∧ w'.cell? ⟨w.heap.size, 4, none⟩ = some (.int .i64 T.p) ∧ w'.cell? ⟨w.heap.size, 5, none⟩ = some (.slice T.a1 T.ch.length T.c1) ∧ w'.cell? ⟨w.heap.size, 6, none⟩ = some (.slice T.a2 T.us.length T.c2)) (exact MK.out _ (by repeat (first | exact Zero4.low (by with_reducible assumption) | refine Below.drew ?_ | refine Below.setCell ?_ (by exact Nat.le_refl _) _))) (first | (go_at_call 102; (with_reducible refine (Calls.upZ (by first | (with_reducible assumption) | exact Zero4.drew (by with_reducible assumption)) (PC.out _)).mono ?_); rintro e wx ⟨rfl, kx⟩) | (go_at_call 80; (with_reducible refine (Calls.upZ (by first | (with_reducible assumption) | exact Zero4.drew (by with_reducible assumption)) (RC.out _)).mono ?_); rintro e wx ⟨⟨Be, rfl, hb⟩, kx⟩; have HB := Lib.hid hb; clear hb) | (go_at_call 79; (with_reducible refine (Calls.upZ (by first | (with_reducible assumption) | exact Zero4.drew (by with_reducible assumption)) (GC.out _ _ (HLW.out.trans (kx.low.mono (Nat.le_succ _))) HB.out)).mono ?_); rintro e wx ⟨⟨a, c, rfl, hr⟩, kx⟩; have HR := Lib.hid hr; clear hr) | (go_at_call 98; (with_reducible refine (Calls.upZ (by first | (with_reducible assumption) | exact Zero4.drew (by with_reducible assumption)) (LC.out _ _ _ HR.out)).mono ?_); rintro e wx ⟨rfl, kx⟩; have z0 : wx.cell? ⟨w.heap.size + 1, 0, none⟩ = some (.int .u64 0) := (by rw [blk_cell kx.zer]; rfl); have z1 : wx.cell? ⟨w.heap.size + 1, 1, none⟩ = some (.int .u64 0) := (by rw [blk_cell kx.zer]; rfl); have z2 : wx.cell? ⟨w.heap.size + 1, 2, none⟩ = some (.int .u64 0) := (by rw [blk_cell kx.zer]; rfl); have z3 : wx.cell? ⟨w.heap.size + 1, 3, none⟩ = some (.int .u64 0) := (by rw [blk_cell kx.zer]; rfl); have f0 := blk_free kx.zer 0; have f1 := blk_free kx.zer 1; have f2 := blk_free kx.zer 2; have f3 := blk_free kx.zer 3))
  all_goals
    go_wp2_with fail
    have hz := Blk4.set (show Blk4 wx (w.heap.size + 1) 0 0 0 0 from kx.zer) (wd P 0) (wd P 1) (wd P 2) (wd P 3)
    obtain ⟨y0, y1, y2, y3⟩ := hz.cells
    refine bodyPost_ret (v := .agg #[.int .u64 (wd P 0), .int .u64 (wd P 1), .int .u64 (wd P 2), .int .u64 (wd P 3)]) ?_ rfl ⟨rfl, ?_⟩
    · simp [results, Try.results96, go_sem, y0, y1, y2, y3]
    · exact HLW.out.trans ((Below.setCell (p := ⟨w.heap.size + 1, 3, none⟩) (Below.setCell (p := ⟨w.heap.size + 1, 2, none⟩) (Below.setCell (p := ⟨w.heap.size + 1, 1, none⟩) (Below.setCell (p := ⟨w.heap.size + 1, 0, none⟩) kx.low (Nat.le_refl _) _) (Nat.le_refl _) _) (Nat.le_refl _) _) (Nat.le_refl _) _).mono (Nat.le_succ _))

set_option maxRecDepth 100000 in
set_option maxHeartbeats 4000000 in
theorem used_any (T : TV) (hT : l_Told T) (C : Nat) (hC : T.c = (C : Int)) (w : World) (hok : T.ok w) : Calls Try.prog 77 #[.agg #[.int .i64 T.id, .int .i64 T.c, .int .i64 T.d, .int .i64 T.t, .int .i64 T.p, .slice T.a1 T.ch.length T.c1, .slice T.a2 T.us.length T.c2]] w (SetBack (inP T.us 0 C) w) := by
  have BC := Lib.hid (fun v (hb : Below w.heap.size w v) => before_any T hT C C hC v (hok.below hb))
  rw [Nat.min_self, ← hC] at BC
  unfold SetBack at BC
  generalize inP T.us 0 C = P at *
  clear hT hok hC
  go_enter Try.func77, Try.ntmps77
  go_upto_region 1 with fail
  obtain ⟨V0, hV0⟩ : ∃ V0, w.alloc (.cells #[.int .i64 T.id, .int .i64 T.c, .int .i64 T.d, .int .i64 T.t, .int .i64 T.p, .slice T.a1 T.ch.length T.c1, .slice T.a2 T.us.length T.c2] TT) = V0 := ⟨_, rfl⟩
  have hG : V0.heap.size = w.heap.size + 1 := by rw [← hV0, World.size_alloc]
  have HT0 : Hid (V0.heap[w.heap.size]? = some (.cells #[.int .i64 T.id, .int .i64 T.c, .int .i64 T.d, .int .i64 T.t, .int .i64 T.p, .slice T.a1 T.ch.length T.c1, .slice T.a2 T.us.length T.c2] TT (0, 0))) := by rw [← hV0]; exact heap_alloc_new w _
  have HLW : Hid (Below w.heap.size w V0) := by rw [← hV0]; exact (Below.refl _ _).alloc (Nat.le_refl _) _
  rw [hV0]
  refine gen_world (Zero4 (w.heap.size + 1) V0) (Zero4.new hG) ?_
  intro V kx
  clear hV0 hG
  have HZ := Lib.hid kx
  have MK : Hid (∀ w', Below (w.heap.size + 1) V0 w' → (w'.cell? ⟨w.heap.size, 0, none⟩ = some (.int .i64 T.id) ∧ w'.cell? ⟨w.heap.size, 1, none⟩ = some (.int .i64 T.c) ∧ w'.cell? ⟨w.heap.size, 2, none⟩ = some (.int .i64 T.d) ∧ w'.cell? ⟨w.heap.size, 3, none⟩ = some (.int .i64 T.t) ∧ w'.cell? ⟨w.heap.size, 4, none⟩ = some (.int .i64 T.p) ∧ w'.cell? ⟨w.heap.size, 5, none⟩ = some (.slice T.a1 T.ch.length T.c1) ∧ w'.cell? ⟨w.heap.size, 6, none⟩ = some (.slice T.a2 T.us.length T.c2))) := fun w' hb => by
    have x := kept_objB hb (Nat.lt_succ_self _) HT0.out
    exact ⟨by rw [blk_cell x]; rfl, by rw [blk_cell x]; rfl, by rw [blk_cell x]; rfl, by rw [blk_cell x]; rfl, by rw [blk_cell x]; rfl, by rw [blk_cell x]; rfl, by rw [blk_cell x]; rfl⟩
  obtain ⟨t0, t1, t2, t3, t4, t5, t6⟩ := MK.out _ HZ.out.low
  go_wp2_with (go_at_call 96; (with_reducible refine (Calls.upZ (by first | (with_reducible assumption) | exact Zero4.drew (by with_reducible assumption)) (BC.out _ (HLW.out.trans (kx.low.mono (Nat.le_succ _))))).mono ?_); rintro e wx ⟨rfl, kx⟩; have z0 : wx.cell? ⟨w.heap.size + 1, 0, none⟩ = some (.int .u64 0) := (by rw [blk_cell kx.zer]; rfl); have z1 : wx.cell? ⟨w.heap.size + 1, 1, none⟩ = some (.int .u64 0) := (by rw [blk_cell kx.zer]; rfl); have z2 : wx.cell? ⟨w.heap.size + 1, 2, none⟩ = some (.int .u64 0) := (by rw [blk_cell kx.zer]; rfl); have z3 : wx.cell? ⟨w.heap.size + 1, 3, none⟩ = some (.int .u64 0) := (by rw [blk_cell kx.zer]; rfl); have f0 := blk_free kx.zer 0; have f1 := blk_free kx.zer 1; have f2 := blk_free kx.zer 2; have f3 := blk_free kx.zer 3)
  all_goals
    have hz := Blk4.set (show Blk4 wx (w.heap.size + 1) 0 0 0 0 from kx.zer) (wd P 0) (wd P 1) (wd P 2) (wd P 3)
    obtain ⟨y0, y1, y2, y3⟩ := hz.cells
    refine bodyPost_ret (v := .agg #[.int .u64 (wd P 0), .int .u64 (wd P 1), .int .u64 (wd P 2), .int .u64 (wd P 3)]) ?_ rfl ⟨rfl, ?_⟩
    · simp [results, Try.results77, go_sem, y0, y1, y2, y3]
    · exact HLW.out.trans ((Below.setCell (p := ⟨w.heap.size + 1, 3, none⟩) (Below.setCell (p := ⟨w.heap.size + 1, 2, none⟩) (Below.setCell (p := ⟨w.heap.size + 1, 1, none⟩) (Below.setCell (p := ⟨w.heap.size + 1, 0, none⟩) kx.low (Nat.le_refl _) _) (Nat.le_refl _) _) (Nat.le_refl _) _) (Nat.le_refl _) _).mono (Nat.le_succ _))
end Go.Proofs.Ytlglncnhhgofoaa

/-
  The walk over the most sets that are useful at a place.
-/
namespace Go.Proofs.Ytlglncnhhgofoaa
open Go.RowKit Go.Maps Go.Shelf
attribute [-go_sem] run_min_int2

/-- The boxes of the search: the task, the other sets. -/
structure MostAt (w : World) (T : TV) (o : Nat → Nat) (V : World) : Prop where
  low : Below w.heap.size w V
  tb : V.heap[w.heap.size]? = some (.cells #[.int .i64 T.id, .int .i64 T.c, .int .i64 T.d, .int .i64 T.t, .int .i64 T.p, .slice T.a1 T.ch.length T.c1, .slice T.a2 T.us.length T.c2] TT (0, 0))
  ob : V.heap[w.heap.size + 1]? = some (.cells #[.int .u64 (o 0), .int .u64 (o 1), .int .u64 (o 2), .int .u64 (o 3)] ST4 (0, 0))
theorem MostAt.below {w V V' : World} {T : TV} {o : Nat → Nat} (h : MostAt w T o V) (hb : Below V.heap.size V V') : MostAt w T o V' := ⟨below_up h.low hb, kept_obj hb h.tb, kept_obj hb h.ob⟩
theorem MostAt.drew {w V : World} {T : TV} {o : Nat → Nat} (h : MostAt w T o V) : MostAt w T o V.drew := ⟨bw_drew h.low, h.tb, h.ob⟩
theorem Calls.upV {P : Program} {f : FuncId} {args : Array Value} {V w : World} {R : Ending → World → Prop} (h : Below V.heap.size V w) (c : Calls P f args w fun e w' => R e w' ∧ Below w.heap.size w w') : Calls P f args w fun e w' => R e w' ∧ Below w.heap.size w w' ∧ Below V.heap.size V w' :=
  c.mono fun _ _ ⟨h1, h2⟩ => ⟨h1, h2, below_up h h2⟩
theorem best_step (f : Nat → Nat) {p : Nat} (h : 1 ≤ p) : best f p = if (best f (p - 1)).1 < f p then (f p, p) else best f (p - 1) := by
  obtain ⟨k, rfl⟩ : ∃ k, p = k + 1 := ⟨p - 1, by omega⟩
  rfl
theorem ahead_at (us : List Int) {C p : Nat} (h : p ≤ us.length) (hC : p ≤ C) : (rowsOf us ((upT C).take us.length))[p]? = some (inP us 0 p) := by
  rw [rows_at _ _ (by rw [List.length_take, upT_len]; omega), List.take_take, Nat.min_eq_left h, upT_take _ _ hC, ← up_all us p, Nat.min_eq_left h]
theorem left_at (us : List Int) {C p : Nat} (h : p ≤ C) : (rowsOf us ((downT C C).take us.length))[min (C - p) us.length]? = some (inP us p C) := by
  rw [rows_at _ _ (by rw [List.length_take, downT_len]; omega), List.take_take, Nat.min_eq_left (Nat.min_le_right _ _), downT_take _ _ _ (by omega), down_all us C p h]

set_option maxRecDepth 100000 in
set_option maxHeartbeats 16000000 in
theorem most_any (T : TV) (hT : l_Told T) (C : Nat) (hC : T.c = (C : Int)) (w : World) (hok : T.ok w) (O : Nat → Bool) :
    Calls Try.prog 58 #[.agg #[.int .i64 T.id, .int .i64 T.c, .int .i64 T.d, .int .i64 T.t, .int .i64 T.p, .slice T.a1 T.ch.length T.c1, .slice T.a2 T.us.length T.c2], .agg #[.int .u64 (wd O 0), .int .u64 (wd O 1), .int .u64 (wd O 2), .int .u64 (wd O 3)]] w fun e w' => e = .returned (.tuple #[.int .i64 ((mostOf T.us C O).1 : Nat), .int .i64 ((mostOf T.us C O).2 : Nat)]) ∧ Below w.heap.size w w' := by
  have hC24 : C ≤ 1073741824 := by have := hT.c30; omega
  have hC1 : 1 ≤ C := by have := hT.c1; omega
  have hn5 := hT.n64
  have TC := Lib.hid (fun w => told_any T hT w)
  have NC := Lib.hid (fun w => round_any T hT w)
  have UC := Lib.hid (fun w => rising_box C w)
  have DC := Lib.hid (fun w => falling_box C 0 w)
  rw [← hC] at UC DC
  have G1 := Lib.hid (fun Be v (hb : Below w.heap.size w v) => grow_up hT C hC24 Be v (hok.below hb))
  have G2 := Lib.hid (fun Be Bf v (hb : Below w.heap.size w v) => grow_down hT C 0 hC24 (Nat.zero_le _) Be Bf v (hok.below hb))
  rw [← hC] at G1 G2
  rw [Nat.sub_zero] at G2
  rw [show (((0 : Nat)) : Int) = 0 from rfl] at DC G2
  obtain ⟨o, ho⟩ : ∃ o, wd O = o := ⟨_, rfl⟩
  have HO := Lib.hid ho
  rw [ho]
  have HC := Lib.hid hC
  clear hT hok ho hC
  go_enter Try.func58, Try.ntmps58
  go_upto_region 1 with fail
  refine gen_world (MostAt w T o) ⟨(by repeat (first | exact Below.refl _ _ | (with_reducible assumption) | refine bw_alloc ?_ _ | refine bw_drew ?_)), (two_boxes w rfl _ _).1, (two_boxes w rfl _ _).2⟩ ?_
  intro V1 k1
  have c0 : V1.cell? ⟨w.heap.size, 0, none⟩ = some (.int .i64 T.id) := by rw [blk_cell k1.tb]; rfl
  have c1 : V1.cell? ⟨w.heap.size, 1, none⟩ = some (.int .i64 T.c) := by rw [blk_cell k1.tb]; rfl
  have c2 : V1.cell? ⟨w.heap.size, 2, none⟩ = some (.int .i64 T.d) := by rw [blk_cell k1.tb]; rfl
  have c3 : V1.cell? ⟨w.heap.size, 3, none⟩ = some (.int .i64 T.t) := by rw [blk_cell k1.tb]; rfl
  have c4 : V1.cell? ⟨w.heap.size, 4, none⟩ = some (.int .i64 T.p) := by rw [blk_cell k1.tb]; rfl
  have c5 : V1.cell? ⟨w.heap.size, 5, none⟩ = some (.slice T.a1 T.ch.length T.c1) := by rw [blk_cell k1.tb]; rfl
  have c6 : V1.cell? ⟨w.heap.size, 6, none⟩ = some (.slice T.a2 T.us.length T.c2) := by rw [blk_cell k1.tb]; rfl
  go_upto_region 4 with (go_at_call 78; (with_reducible refine (TC.out _).mono ?_); rintro e w1 ⟨rfl, b1⟩; have kx := k1.below b1)
  clear c0 c1 c2 c3 c4 c5 c6 k1 TC
  refine gen_world (MostAt w T o) kx ?_
  clear kx
  intro V kx
  have MK : Hid (∀ w', MostAt w T o w' → (w'.cell? ⟨w.heap.size, 0, none⟩ = some (.int .i64 T.id) ∧ w'.cell? ⟨w.heap.size, 1, none⟩ = some (.int .i64 T.c) ∧ w'.cell? ⟨w.heap.size, 2, none⟩ = some (.int .i64 T.d) ∧ w'.cell? ⟨w.heap.size, 3, none⟩ = some (.int .i64 T.t) ∧ w'.cell? ⟨w.heap.size, 4, none⟩ = some (.int .i64 T.p) ∧ w'.cell? ⟨w.heap.size, 5, none⟩ = some (.slice T.a1 T.ch.length T.c1) ∧ w'.cell? ⟨w.heap.size, 6, none⟩ = some (.slice T.a2 T.us.length T.c2))) := fun w' hb => by
    exact ⟨by rw [blk_cell hb.tb]; rfl, by rw [blk_cell hb.tb]; rfl, by rw [blk_cell hb.tb]; rfl, by rw [blk_cell hb.tb]; rfl, by rw [blk_cell hb.tb]; rfl, by rw [blk_cell hb.tb]; rfl, by rw [blk_cell hb.tb]; rfl⟩
  obtain ⟨L1, hL1⟩ : ∃ L1, min (upT C).length T.us.length + 1 = L1 := ⟨_, rfl⟩
  obtain ⟨L2, hL2⟩ : ∃ L2, min (downT C C).length T.us.length + 1 = L2 := ⟨_, rfl⟩
  have HL1 := Lib.hid hL1
  have HL2 := Lib.hid hL2
  unfold GrowBack at G1 G2
  rw [hL1] at G1
  rw [hL2] at G2
  clear hL1 hL2
  go_cut [8, 9] from 16 to 25 (fun u v wx => ∃ a1 c1 a2 c2, u = .slice a1 L1 c1 ∧ v = .slice a2 L2 c2 ∧ Hid (MostAt w T o wx) ∧ Hid (SView wx a1 (rowsOf T.us ((upT C).take T.us.length))) ∧ Hid (SView wx a2 (rowsOf T.us ((downT C C).take T.us.length))))
  case first =>
    go_region_held3 (fun w' => w'.cell? ⟨w.heap.size, 0, none⟩ = some (.int .i64 T.id) ∧ w'.cell? ⟨w.heap.size, 1, none⟩ = some (.int .i64 T.c) ∧ w'.cell? ⟨w.heap.size, 2, none⟩ = some (.int .i64 T.d) ∧ w'.cell? ⟨w.heap.size, 3, none⟩ = some (.int .i64 T.t) ∧ w'.cell? ⟨w.heap.size, 4, none⟩ = some (.int .i64 T.p) ∧ w'.cell? ⟨w.heap.size, 5, none⟩ = some (.slice T.a1 T.ch.length T.c1) ∧ w'.cell? ⟨w.heap.size, 6, none⟩ = some (.slice T.a2 T.us.length T.c2)) (exact MK.out _ (by first | (with_reducible assumption) | exact MostAt.drew (by with_reducible assumption))) (first
      | (go_at_call 80; (with_reducible refine (UC.out _).mono ?_); rintro e wx ⟨⟨Be, rfl, hb⟩, bx⟩; have HB := Lib.hid hb; have kx := (by first | exact MostAt.below kx bx | exact MostAt.below (MostAt.drew kx) bx : MostAt w T o wx); clear hb bx)
      | (go_at_call 79; (with_reducible refine (G1.out _ _ kx.low HB.out).mono ?_); rintro e wx ⟨⟨a1, c1, rfl, hr⟩, bx⟩; have HR1 := Lib.hid hr; have kx := (by first | exact MostAt.below kx bx | exact MostAt.below (MostAt.drew kx) bx : MostAt w T o wx); clear hr bx)
      | (go_at_call 81; (with_reducible refine (DC.out _).mono ?_); rintro e wx ⟨⟨Bg, Bf, rfl, hg, hf⟩, bx⟩; have HG := Lib.hid hg; have HF := Lib.hid hf; have HR1 := Lib.hid (HR1.out.below bx); have kx := (by first | exact MostAt.below kx bx | exact MostAt.below (MostAt.drew kx) bx : MostAt w T o wx); clear hg hf bx)
      | (go_at_call 79; (with_reducible refine (G2.out _ _ _ kx.low HG.out HF.out).mono ?_); rintro e wx ⟨⟨a2, c2, rfl, hr⟩, bx⟩; have HR2 := Lib.hid hr; have HR1 := Lib.hid (HR1.out.below bx); have kx := (by first | exact MostAt.below kx bx | exact MostAt.below (MostAt.drew kx) bx : MostAt w T o wx); clear hr bx))
    all_goals
      go_wp2_with fail
      go_meet
      exact ⟨_, _, _, _, rfl, rfl, kx, HR1, HR2⟩
  case rest =>
    obtain ⟨a1, c1, a2, c2, rfl, rfl, H1, HR1, HR2⟩ := hcut
    have hK1 : min (C - 1) T.us.length ≤ 64 := by omega
    go_wp2
    go_loopw [6, 7, 10] (fun m a p wr => ∃ (P : Nat), 1 ≤ P ∧ P ≤ min (C - 1) T.us.length + 1 ∧ p = .int .i64 (P : Int) ∧ m = .int .i64 ((best (usefulN T.us C O) (P - 1)).1 : Nat) ∧ a = .int .i64 ((best (usefulN T.us C O) (P - 1)).2 : Nat) ∧ Hid (MostAt w T o wr) ∧ Hid (SView wr a1 (rowsOf T.us ((upT C).take T.us.length))) ∧ Hid (SView wr a2 (rowsOf T.us ((downT C C).take T.us.length)))) (fun _ _ p _ => ((T.us.length : Int) + 2 - intOf p).toNat)
    case atStart => exact ⟨1, by omega, by omega, rfl, rfl, rfl, H1, HR1, HR2⟩
    case round =>
      obtain ⟨P, hP1, hPK, rfl, rfl, rfl, HM, HS1, HS2⟩ := hrel
      clear H1 HR1 HR2
      by_cases hA : P ≤ min (C - 1) T.us.length
      · have hPC : P < C := by omega
        have hPN : P ≤ T.us.length := by omega
        have q1 : (P : Int) < T.c := by have := HC.out; omega
        have q2 : (P : Int) ≤ (T.us.length : Int) := by omega
        obtain ⟨D, hD⟩ : ∃ D, D = C - P := ⟨_, rfl⟩
        obtain ⟨J, hJ⟩ : ∃ J, J = min (C - P) T.us.length := ⟨_, rfl⟩
        have q3 : IntKind.i64.wrap (T.c - (P : Int)) = (D : Int) := by rw [show T.c - (P : Int) = (D : Int) by have := HC.out; omega]; exact IntWalk.i64_in _ (by omega)
        have q4 : (P : Int) < (L1 : Int) := by have := HL1.out; rw [upT_len] at this; omega
        have q5 : (J : Int) < (L2 : Int) := by have := HL2.out; rw [downT_len] at this; omega
        have q6 : (0 : Int) ≤ (P : Int) := by omega
        have q7 : (0 : Int) ≤ (J : Int) := by omega
        have q8 : IntKind.i64.wrap ((P : Int) + 1) = (P : Int) + 1 := IntWalk.i64_in _ (by omega)
        obtain ⟨g1, o1, rfl, sa⟩ := HS1.out.at_ (ahead_at T.us hPN (Nat.le_of_lt hPC))
        obtain ⟨g2, o2, rfl, sb⟩ := HS2.out.at_ (left_at T.us (C := C) (p := P) (Nat.le_of_lt hPC))
        rw [← hJ] at sb
        have AC := Lib.hid (fun w => and_any (inP T.us 0 P) (inP T.us P C) w)
        have AO := Lib.hid (fun w => and_any (andP (inP T.us 0 P) (inP T.us P C)) O w)
        have LO := Lib.hid (fun w => len_any (andP (andP (inP T.us 0 P) (inP T.us P C)) O) w)
        rw [show cntN (andP (andP (inP T.us 0 P) (inP T.us P C)) O) 256 = usefulN T.us C O P from rfl] at LO
        rw [HO.out] at AO
        obtain ⟨A, hAe⟩ : ∃ A, wd (inP T.us 0 P) = A := ⟨_, rfl⟩
        obtain ⟨B, hBe⟩ : ∃ B, wd (inP T.us P C) = B := ⟨_, rfl⟩
        obtain ⟨U, hUe⟩ : ∃ U, wd (andP (inP T.us 0 P) (inP T.us P C)) = U := ⟨_, rfl⟩
        obtain ⟨X, hXe⟩ : ∃ X, wd (andP (andP (inP T.us 0 P) (inP T.us P C)) O) = X := ⟨_, rfl⟩
        rw [hAe, hBe, hUe] at AC
        rw [hUe, hXe] at AO
        rw [hXe] at LO
        have MS : Hid (∀ w', Below wr.heap.size wr w' → (w'.cell? ⟨w.heap.size, 0, none⟩ = some (.int .i64 T.id) ∧ w'.cell? ⟨w.heap.size, 1, none⟩ = some (.int .i64 T.c) ∧ w'.cell? ⟨w.heap.size, 2, none⟩ = some (.int .i64 T.d) ∧ w'.cell? ⟨w.heap.size, 3, none⟩ = some (.int .i64 T.t) ∧ w'.cell? ⟨w.heap.size, 4, none⟩ = some (.int .i64 T.p) ∧ w'.cell? ⟨w.heap.size, 5, none⟩ = some (.slice T.a1 T.ch.length T.c1) ∧ w'.cell? ⟨w.heap.size, 6, none⟩ = some (.slice T.a2 T.us.length T.c2) ∧ w'.cell? ⟨g1, o1 + P * 4, none⟩ = some (.int .u64 (A 0)) ∧ w'.cell? ⟨g1, o1 + P * 4 + 1, none⟩ = some (.int .u64 (A 1)) ∧ w'.cell? ⟨g1, o1 + P * 4 + 2, none⟩ = some (.int .u64 (A 2)) ∧ w'.cell? ⟨g1, o1 + P * 4 + 3, none⟩ = some (.int .u64 (A 3)) ∧ w'.cell? ⟨g2, o2 + J * 4, none⟩ = some (.int .u64 (B 0)) ∧ w'.cell? ⟨g2, o2 + J * 4 + 1, none⟩ = some (.int .u64 (B 1)) ∧ w'.cell? ⟨g2, o2 + J * 4 + 2, none⟩ = some (.int .u64 (B 2)) ∧ w'.cell? ⟨g2, o2 + J * 4 + 3, none⟩ = some (.int .u64 (B 3)))) := fun w' hb => by
          have hm := HM.out.below hb
          obtain ⟨x0, x1, x2, x3⟩ := sa.below hb
          obtain ⟨y0, y1, y2, y3⟩ := sb.below hb
          rw [hAe] at x0 x1 x2 x3
          rw [hBe] at y0 y1 y2 y3
          exact ⟨by rw [blk_cell hm.tb]; rfl, by rw [blk_cell hm.tb]; rfl, by rw [blk_cell hm.tb]; rfl, by rw [blk_cell hm.tb]; rfl, by rw [blk_cell hm.tb]; rfl, by rw [blk_cell hm.tb]; rfl, by rw [blk_cell hm.tb]; rfl, x0, x1, x2, x3, y0, y1, y2, y3⟩
        clear hAe hBe hUe hXe sa sb
        have bb := Below.refl wr.heap.size wr
        have c0 : wr.cell? ⟨w.heap.size, 0, none⟩ = some (.int .i64 T.id) := by rw [blk_cell HM.out.tb]; rfl
        have c1 : wr.cell? ⟨w.heap.size, 1, none⟩ = some (.int .i64 T.c) := by rw [blk_cell HM.out.tb]; rfl
        have c2 : wr.cell? ⟨w.heap.size, 2, none⟩ = some (.int .i64 T.d) := by rw [blk_cell HM.out.tb]; rfl
        have c3 : wr.cell? ⟨w.heap.size, 3, none⟩ = some (.int .i64 T.t) := by rw [blk_cell HM.out.tb]; rfl
        have c4 : wr.cell? ⟨w.heap.size, 4, none⟩ = some (.int .i64 T.p) := by rw [blk_cell HM.out.tb]; rfl
        have c5 : wr.cell? ⟨w.heap.size, 5, none⟩ = some (.slice T.a1 T.ch.length T.c1) := by rw [blk_cell HM.out.tb]; rfl
        have c6 : wr.cell? ⟨w.heap.size, 6, none⟩ = some (.slice T.a2 T.us.length T.c2) := by rw [blk_cell HM.out.tb]; rfl
        go_upto_region 8 with (go_at_call 82; (with_reducible refine (NC.out _).mono ?_); rintro e w3 ⟨rfl, b3⟩)
        have bV := b3
        clear b3 c0 c1 c2 c3 c4 c5 c6 q1 q2
        refine gen_world (fun v => Below wr.heap.size wr v) bV ?_
        clear bV
        intro V bV
        go_cut [11] from 38 to 52 (fun u wx => ∃ gx : Nat, u = .pointer (some ⟨gx, 0, none⟩) ∧ Hid (wx.heap[gx]? = some (.cells #[.int .u64 (U 0), .int .u64 (U 1), .int .u64 (U 2), .int .u64 (U 3)] ST4 (0, 0))) ∧ Hid (Below wr.heap.size wr wx))
        case first =>
          by_cases q9 : (T.us.length : Int) < (D : Int)
          · obtain rfl : J = T.us.length := by omega
            have mn : ∀ (ts : Array TypeId) (t : TypeId) (w : World), (Builtin.min_ ts t #[.int .i64 (D : Int), .int .i64 (T.us.length : Int)]).run Try.prog w = .ok (.int .i64 (T.us.length : Int)) w := fun ts t w => by rw [run_min_int2, if_pos q9]
            clear hJ hD q9
            go_region_held3 (fun w' => w'.cell? ⟨w.heap.size, 0, none⟩ = some (.int .i64 T.id) ∧ w'.cell? ⟨w.heap.size, 1, none⟩ = some (.int .i64 T.c) ∧ w'.cell? ⟨w.heap.size, 2, none⟩ = some (.int .i64 T.d) ∧ w'.cell? ⟨w.heap.size, 3, none⟩ = some (.int .i64 T.t) ∧ w'.cell? ⟨w.heap.size, 4, none⟩ = some (.int .i64 T.p) ∧ w'.cell? ⟨w.heap.size, 5, none⟩ = some (.slice T.a1 T.ch.length T.c1) ∧ w'.cell? ⟨w.heap.size, 6, none⟩ = some (.slice T.a2 T.us.length T.c2) ∧ w'.cell? ⟨g1, o1 + P * 4, none⟩ = some (.int .u64 (A 0)) ∧ w'.cell? ⟨g1, o1 + P * 4 + 1, none⟩ = some (.int .u64 (A 1)) ∧ w'.cell? ⟨g1, o1 + P * 4 + 2, none⟩ = some (.int .u64 (A 2)) ∧ w'.cell? ⟨g1, o1 + P * 4 + 3, none⟩ = some (.int .u64 (A 3)) ∧ w'.cell? ⟨g2, o2 + T.us.length * 4, none⟩ = some (.int .u64 (B 0)) ∧ w'.cell? ⟨g2, o2 + T.us.length * 4 + 1, none⟩ = some (.int .u64 (B 1)) ∧ w'.cell? ⟨g2, o2 + T.us.length * 4 + 2, none⟩ = some (.int .u64 (B 2)) ∧ w'.cell? ⟨g2, o2 + T.us.length * 4 + 3, none⟩ = some (.int .u64 (B 3))) (exact MS.out _ (by repeat (first | (with_reducible assumption) | refine Below.drew ?_ | refine bw_alloc ?_ _ | refine Below.setCell ?_ (by first | exact bV.size | (show _ ≤ _; omega)) _))) (first
              | (go_at_call 82; (with_reducible refine (Calls.upV (V := wr) (by repeat (first | exact Below.refl _ _ | (with_reducible assumption) | refine bw_alloc ?_ _ | refine bw_drew ?_)) (NC.out _)).mono ?_); rintro e wx ⟨rfl, by0, bx⟩; have sx := bx.size; (try (have hq : wx.heap[V.heap.size]? = some (.cells #[.int .u64 0, .int .u64 0, .int .u64 0, .int .u64 0] ST4 (0, 0)) := kept_obj by0 (heap_alloc_new V.drew _); have HQ0 := Lib.hid hq; have z0 : wx.cell? ⟨V.heap.size, 0, none⟩ = some (.int .u64 0) := (by rw [blk_cell hq]; rfl); have z1 : wx.cell? ⟨V.heap.size, 1, none⟩ = some (.int .u64 0) := (by rw [blk_cell hq]; rfl); have z2 : wx.cell? ⟨V.heap.size, 2, none⟩ = some (.int .u64 0) := (by rw [blk_cell hq]; rfl); have z3 : wx.cell? ⟨V.heap.size, 3, none⟩ = some (.int .u64 0) := (by rw [blk_cell hq]; rfl); have f0 : wx.frozen? ⟨V.heap.size, 0, none⟩ = false := blk_free hq 0; have f1 : wx.frozen? ⟨V.heap.size, 1, none⟩ = false := blk_free hq 1; have f2 : wx.frozen? ⟨V.heap.size, 2, none⟩ = false := blk_free hq 2; have f3 : wx.frozen? ⟨V.heap.size, 3, none⟩ = false := blk_free hq 3; clear hq)); clear by0)
              | (go_at_call 83; (with_reducible refine (Calls.upV (V := wr) (by repeat (first | exact Below.refl _ _ | (with_reducible assumption) | refine bw_alloc ?_ _ | refine bw_drew ?_)) (AC.out _)).mono ?_); rintro e wy ⟨rfl, by0, by1⟩; have sy := by1.size; (first | (have hq := kept_obj by0 HQ0.out; have HQ1 := Lib.hid hq; have z0 : wy.cell? ⟨V.heap.size, 0, none⟩ = some (.int .u64 0) := (by rw [blk_cell hq]; rfl); have z1 : wy.cell? ⟨V.heap.size, 1, none⟩ = some (.int .u64 0) := (by rw [blk_cell hq]; rfl); have z2 : wy.cell? ⟨V.heap.size, 2, none⟩ = some (.int .u64 0) := (by rw [blk_cell hq]; rfl); have z3 : wy.cell? ⟨V.heap.size, 3, none⟩ = some (.int .u64 0) := (by rw [blk_cell hq]; rfl); have f0 : wy.frozen? ⟨V.heap.size, 0, none⟩ = false := blk_free hq 0; have f1 : wy.frozen? ⟨V.heap.size, 1, none⟩ = false := blk_free hq 1; have f2 : wy.frozen? ⟨V.heap.size, 2, none⟩ = false := blk_free hq 2; have f3 : wy.frozen? ⟨V.heap.size, 3, none⟩ = false := blk_free hq 3; clear hq) | (have hq : wy.heap[wx.heap.size]? = some (.cells #[.int .u64 0, .int .u64 0, .int .u64 0, .int .u64 0] ST4 (0, 0)) := kept_obj by0 (heap_alloc_new wx _); have HQ2 := Lib.hid hq; have z0 : wy.cell? ⟨wx.heap.size, 0, none⟩ = some (.int .u64 0) := (by rw [blk_cell hq]; rfl); have z1 : wy.cell? ⟨wx.heap.size, 1, none⟩ = some (.int .u64 0) := (by rw [blk_cell hq]; rfl); have z2 : wy.cell? ⟨wx.heap.size, 2, none⟩ = some (.int .u64 0) := (by rw [blk_cell hq]; rfl); have z3 : wy.cell? ⟨wx.heap.size, 3, none⟩ = some (.int .u64 0) := (by rw [blk_cell hq]; rfl); have f0 : wy.frozen? ⟨wx.heap.size, 0, none⟩ = false := blk_free hq 0; have f1 : wy.frozen? ⟨wx.heap.size, 1, none⟩ = false := blk_free hq 1; have f2 : wy.frozen? ⟨wx.heap.size, 2, none⟩ = false := blk_free hq 2; have f3 : wy.frozen? ⟨wx.heap.size, 3, none⟩ = false := blk_free hq 3; clear hq) | skip); clear by0))
            all_goals
              go_wp2_with fail
              go_meet
              first
                | exact ⟨V.heap.size, rfl, Lib.hid (Blk4.set (show Blk4 wy V.heap.size 0 0 0 0 from HQ1.out) (U 0) (U 1) (U 2) (U 3)), Lib.hid (by repeat (first | (with_reducible assumption) | refine bw_alloc ?_ _ | refine Below.setCell ?_ (by show _ ≤ _; first | exact bV.size | exact sx | exact sy) _))⟩
                | exact ⟨wx.heap.size, rfl, Lib.hid (Blk4.set (show Blk4 wy wx.heap.size 0 0 0 0 from HQ2.out) (U 0) (U 1) (U 2) (U 3)), Lib.hid (by repeat (first | (with_reducible assumption) | refine bw_alloc ?_ _ | refine Below.setCell ?_ (by show _ ≤ _; first | exact bV.size | exact sx | exact sy) _))⟩
                | exact ⟨wy.heap.size, rfl, Lib.hid (heap_alloc_new wy _), Lib.hid (by repeat (first | (with_reducible assumption) | refine bw_alloc ?_ _ | refine Below.setCell ?_ (by show _ ≤ _; first | exact bV.size | exact sx | exact sy) _))⟩
          · obtain rfl : J = D := by omega
            have mn : ∀ (ts : Array TypeId) (t : TypeId) (w : World), (Builtin.min_ ts t #[.int .i64 (J : Int), .int .i64 (T.us.length : Int)]).run Try.prog w = .ok (.int .i64 (J : Int)) w := fun ts t w => by rw [run_min_int2, if_neg q9]
            clear hJ hD q9
            go_region_held3 (fun w' => w'.cell? ⟨w.heap.size, 0, none⟩ = some (.int .i64 T.id) ∧ w'.cell? ⟨w.heap.size, 1, none⟩ = some (.int .i64 T.c) ∧ w'.cell? ⟨w.heap.size, 2, none⟩ = some (.int .i64 T.d) ∧ w'.cell? ⟨w.heap.size, 3, none⟩ = some (.int .i64 T.t) ∧ w'.cell? ⟨w.heap.size, 4, none⟩ = some (.int .i64 T.p) ∧ w'.cell? ⟨w.heap.size, 5, none⟩ = some (.slice T.a1 T.ch.length T.c1) ∧ w'.cell? ⟨w.heap.size, 6, none⟩ = some (.slice T.a2 T.us.length T.c2) ∧ w'.cell? ⟨g1, o1 + P * 4, none⟩ = some (.int .u64 (A 0)) ∧ w'.cell? ⟨g1, o1 + P * 4 + 1, none⟩ = some (.int .u64 (A 1)) ∧ w'.cell? ⟨g1, o1 + P * 4 + 2, none⟩ = some (.int .u64 (A 2)) ∧ w'.cell? ⟨g1, o1 + P * 4 + 3, none⟩ = some (.int .u64 (A 3)) ∧ w'.cell? ⟨g2, o2 + J * 4, none⟩ = some (.int .u64 (B 0)) ∧ w'.cell? ⟨g2, o2 + J * 4 + 1, none⟩ = some (.int .u64 (B 1)) ∧ w'.cell? ⟨g2, o2 + J * 4 + 2, none⟩ = some (.int .u64 (B 2)) ∧ w'.cell? ⟨g2, o2 + J * 4 + 3, none⟩ = some (.int .u64 (B 3))) (exact MS.out _ (by repeat (first | (with_reducible assumption) | refine Below.drew ?_ | refine bw_alloc ?_ _ | refine Below.setCell ?_ (by first | exact bV.size | (show _ ≤ _; omega)) _))) (first
              | (go_at_call 82; (with_reducible refine (Calls.upV (V := wr) (by repeat (first | exact Below.refl _ _ | (with_reducible assumption) | refine bw_alloc ?_ _ | refine bw_drew ?_)) (NC.out _)).mono ?_); rintro e wx ⟨rfl, by0, bx⟩; have sx := bx.size; (try (have hq : wx.heap[V.heap.size]? = some (.cells #[.int .u64 0, .int .u64 0, .int .u64 0, .int .u64 0] ST4 (0, 0)) := kept_obj by0 (heap_alloc_new V.drew _); have HQ0 := Lib.hid hq; have z0 : wx.cell? ⟨V.heap.size, 0, none⟩ = some (.int .u64 0) := (by rw [blk_cell hq]; rfl); have z1 : wx.cell? ⟨V.heap.size, 1, none⟩ = some (.int .u64 0) := (by rw [blk_cell hq]; rfl); have z2 : wx.cell? ⟨V.heap.size, 2, none⟩ = some (.int .u64 0) := (by rw [blk_cell hq]; rfl); have z3 : wx.cell? ⟨V.heap.size, 3, none⟩ = some (.int .u64 0) := (by rw [blk_cell hq]; rfl); have f0 : wx.frozen? ⟨V.heap.size, 0, none⟩ = false := blk_free hq 0; have f1 : wx.frozen? ⟨V.heap.size, 1, none⟩ = false := blk_free hq 1; have f2 : wx.frozen? ⟨V.heap.size, 2, none⟩ = false := blk_free hq 2; have f3 : wx.frozen? ⟨V.heap.size, 3, none⟩ = false := blk_free hq 3; clear hq)); clear by0)
              | (go_at_call 83; (with_reducible refine (Calls.upV (V := wr) (by repeat (first | exact Below.refl _ _ | (with_reducible assumption) | refine bw_alloc ?_ _ | refine bw_drew ?_)) (AC.out _)).mono ?_); rintro e wy ⟨rfl, by0, by1⟩; have sy := by1.size; (first | (have hq := kept_obj by0 HQ0.out; have HQ1 := Lib.hid hq; have z0 : wy.cell? ⟨V.heap.size, 0, none⟩ = some (.int .u64 0) := (by rw [blk_cell hq]; rfl); have z1 : wy.cell? ⟨V.heap.size, 1, none⟩ = some (.int .u64 0) := (by rw [blk_cell hq]; rfl); have z2 : wy.cell? ⟨V.heap.size, 2, none⟩ = some (.int .u64 0) := (by rw [blk_cell hq]; rfl); have z3 : wy.cell? ⟨V.heap.size, 3, none⟩ = some (.int .u64 0) := (by rw [blk_cell hq]; rfl); have f0 : wy.frozen? ⟨V.heap.size, 0, none⟩ = false := blk_free hq 0; have f1 : wy.frozen? ⟨V.heap.size, 1, none⟩ = false := blk_free hq 1; have f2 : wy.frozen? ⟨V.heap.size, 2, none⟩ = false := blk_free hq 2; have f3 : wy.frozen? ⟨V.heap.size, 3, none⟩ = false := blk_free hq 3; clear hq) | (have hq : wy.heap[wx.heap.size]? = some (.cells #[.int .u64 0, .int .u64 0, .int .u64 0, .int .u64 0] ST4 (0, 0)) := kept_obj by0 (heap_alloc_new wx _); have HQ2 := Lib.hid hq; have z0 : wy.cell? ⟨wx.heap.size, 0, none⟩ = some (.int .u64 0) := (by rw [blk_cell hq]; rfl); have z1 : wy.cell? ⟨wx.heap.size, 1, none⟩ = some (.int .u64 0) := (by rw [blk_cell hq]; rfl); have z2 : wy.cell? ⟨wx.heap.size, 2, none⟩ = some (.int .u64 0) := (by rw [blk_cell hq]; rfl); have z3 : wy.cell? ⟨wx.heap.size, 3, none⟩ = some (.int .u64 0) := (by rw [blk_cell hq]; rfl); have f0 : wy.frozen? ⟨wx.heap.size, 0, none⟩ = false := blk_free hq 0; have f1 : wy.frozen? ⟨wx.heap.size, 1, none⟩ = false := blk_free hq 1; have f2 : wy.frozen? ⟨wx.heap.size, 2, none⟩ = false := blk_free hq 2; have f3 : wy.frozen? ⟨wx.heap.size, 3, none⟩ = false := blk_free hq 3; clear hq) | skip); clear by0))
            all_goals
              go_wp2_with fail
              go_meet
              first
                | exact ⟨V.heap.size, rfl, Lib.hid (Blk4.set (show Blk4 wy V.heap.size 0 0 0 0 from HQ1.out) (U 0) (U 1) (U 2) (U 3)), Lib.hid (by repeat (first | (with_reducible assumption) | refine bw_alloc ?_ _ | refine Below.setCell ?_ (by show _ ≤ _; first | exact bV.size | exact sx | exact sy) _))⟩
                | exact ⟨wx.heap.size, rfl, Lib.hid (Blk4.set (show Blk4 wy wx.heap.size 0 0 0 0 from HQ2.out) (U 0) (U 1) (U 2) (U 3)), Lib.hid (by repeat (first | (with_reducible assumption) | refine bw_alloc ?_ _ | refine Below.setCell ?_ (by show _ ≤ _; first | exact bV.size | exact sx | exact sy) _))⟩
                | exact ⟨wy.heap.size, rfl, Lib.hid (heap_alloc_new wy _), Lib.hid (by repeat (first | (with_reducible assumption) | refine bw_alloc ?_ _ | refine Below.setCell ?_ (by show _ ≤ _; first | exact bV.size | exact sx | exact sy) _))⟩
        case rest =>
          obtain ⟨gx, rfl, HU, HB⟩ := hcut
          have HM2 := Lib.hid (HM.out.below HB.out)
          have u0 : wc.cell? ⟨gx, 0, none⟩ = some (.int .u64 (U 0)) := by rw [blk_cell HU.out]; rfl
          have u1 : wc.cell? ⟨gx, 1, none⟩ = some (.int .u64 (U 1)) := by rw [blk_cell HU.out]; rfl
          have u2 : wc.cell? ⟨gx, 2, none⟩ = some (.int .u64 (U 2)) := by rw [blk_cell HU.out]; rfl
          have u3 : wc.cell? ⟨gx, 3, none⟩ = some (.int .u64 (U 3)) := by rw [blk_cell HU.out]; rfl
          have v0 : wc.cell? ⟨w.heap.size + 1, 0, none⟩ = some (.int .u64 (o 0)) := by rw [blk_cell HM2.out.ob]; rfl
          have v1 : wc.cell? ⟨w.heap.size + 1, 1, none⟩ = some (.int .u64 (o 1)) := by rw [blk_cell HM2.out.ob]; rfl
          have v2 : wc.cell? ⟨w.heap.size + 1, 2, none⟩ = some (.int .u64 (o 2)) := by rw [blk_cell HM2.out.ob]; rfl
          have v3 : wc.cell? ⟨w.heap.size + 1, 3, none⟩ = some (.int .u64 (o 3)) := by rw [blk_cell HM2.out.ob]; rfl
          clear MS AC
          go_upto_region 10 with (first
            | (go_at_call 83; (with_reducible refine (AO.out _).mono ?_); rintro e wx ⟨rfl, b1⟩; have HB1 := Lib.hid (below_up HB.out b1); clear b1)
            | (go_at_call 59; (with_reducible refine (LO.out _).mono ?_); rintro e wy ⟨rfl, b2⟩; have HB2 := Lib.hid (below_up HB1.out b2); clear b2))
          have HBS := Lib.hid (best_step (usefulN T.us C O) hP1)
          have HBR : Hid (∀ w', Below wr.heap.size wr w' → Hid (MostAt w T o w') ∧ Hid (SView w' (some ⟨g1, o1, none⟩) (rowsOf T.us ((upT C).take T.us.length))) ∧ Hid (SView w' (some ⟨g2, o2, none⟩) (rowsOf T.us ((downT C C).take T.us.length)))) := fun w' hb => ⟨HM.out.below hb, HS1.out.below hb, HS2.out.below hb⟩
          have hf256 := usefulN_le T.us C O P
          have hm256 : (best (usefulN T.us C O) (P - 1)).1 ≤ 256 := best_le fun p _ _ => usefulN_le T.us C O p
          have hPs : P + 1 - 1 = P := rfl
          clear u0 u1 u2 u3 v0 v1 v2 v3
          obtain ⟨mv, hmv⟩ : ∃ mv, best (usefulN T.us C O) (P - 1) = mv := ⟨_, rfl⟩
          obtain ⟨fP, hfP⟩ : ∃ fP, usefulN T.us C O P = fP := ⟨_, rfl⟩
          have HMV := Lib.hid hmv
          have HFP := Lib.hid hfP
          rw [hmv] at hm256 ⊢
          rw [hfP] at hf256 ⊢
          clear hmv hfP
          by_cases hq : mv.1 < fP
          · have hq1 : (mv.1 : Int) < (fP : Int) := by omega
            go_wp2
            go_roundw
            case rel =>
              have hbs := HBS.out
              rw [HMV.out, HFP.out, if_pos hq] at hbs
              refine ⟨P + 1, by omega, by omega, by go_num, ?_, ?_, HBR.out _ HB2.out⟩
              · rw [hPs, hbs]
              · rw [hPs, hbs]
            case measure => simp [intOf]; omega
          · have hq1 : ¬ (mv.1 : Int) < (fP : Int) := by omega
            go_wp2
            go_roundw
            case rel =>
              have hbs := HBS.out
              rw [HMV.out, HFP.out, if_neg hq] at hbs
              refine ⟨P + 1, by omega, by omega, by go_num, ?_, ?_, HBR.out _ HB2.out⟩
              · rw [hPs, hbs]
              · rw [hPs, hbs]
            case measure => simp [intOf]; omega
      · have hPe : P - 1 = min (C - 1) T.us.length := by omega
        have HPE : Hid (best (usefulN T.us C O) (P - 1) = mostOf T.us C O) := by show _ = _; rw [hPe]; rfl
        rw [HPE.out]
        have hlow := Lib.hid HM.out.low
        have c0 : wr.cell? ⟨w.heap.size, 0, none⟩ = some (.int .i64 T.id) := by rw [blk_cell HM.out.tb]; rfl
        have c1 : wr.cell? ⟨w.heap.size, 1, none⟩ = some (.int .i64 T.c) := by rw [blk_cell HM.out.tb]; rfl
        have c2 : wr.cell? ⟨w.heap.size, 2, none⟩ = some (.int .i64 T.d) := by rw [blk_cell HM.out.tb]; rfl
        have c3 : wr.cell? ⟨w.heap.size, 3, none⟩ = some (.int .i64 T.t) := by rw [blk_cell HM.out.tb]; rfl
        have c4 : wr.cell? ⟨w.heap.size, 4, none⟩ = some (.int .i64 T.p) := by rw [blk_cell HM.out.tb]; rfl
        have c5 : wr.cell? ⟨w.heap.size, 5, none⟩ = some (.slice T.a1 T.ch.length T.c1) := by rw [blk_cell HM.out.tb]; rfl
        have c6 : wr.cell? ⟨w.heap.size, 6, none⟩ = some (.slice T.a2 T.us.length T.c2) := by rw [blk_cell HM.out.tb]; rfl
        by_cases hPC : P < C
        · have q1 : (P : Int) < T.c := by have := HC.out; omega
          have q2 : ¬ (P : Int) ≤ (T.us.length : Int) := by omega
          clear hPe
          go_wp2_with (go_at_call 82; (with_reducible refine (NC.out _).mono ?_); rintro e w3 ⟨rfl, b3⟩)
          go_ret2
          exact ⟨rfl, below_up hlow.out b3⟩
        · have q1 : ¬ (P : Int) < T.c := by have := HC.out; omega
          clear hPe
          go_wp2
          go_ret2
          exact ⟨rfl, hlow.out⟩
end Go.Proofs.Ytlglncnhhgofoaa

/-
  The walk over all sets that the tasks of a row use, but for one's.
-/
namespace Go.Proofs.Ytlglncnhhgofoaa
open Go.RowKit Go.Maps Go.Shelf

/-- What the first k of a row use, but for one's. -/
def allN (L : List TV) (id : Int) : Nat → Nat → Bool
  | 0 => noneP
  | k + 1 => match L[k]? with
    | some T => if T.id = id then allN L id k else orP (allN L id k) (inP T.us 0 T.c.toNat)
    | none => allN L id k
theorem allN_is {L : List TV} {id : Int} {k : Nat} {T : TV} (h : L[k]? = some T) (hi : T.id = id) : allN L id (k + 1) = allN L id k := by
  rw [allN, h]; exact if_pos hi
theorem allN_not {L : List TV} {id : Int} {k : Nat} {T : TV} (h : L[k]? = some T) (hi : ¬ T.id = id) : allN L id (k + 1) = orP (allN L id k) (inP T.us 0 T.c.toNat) := by
  rw [allN, h]; exact if_neg hi
/-- The boxes: what comes back, what has been met. -/
structure AllAt (w : World) (p : Nat → Nat) (V : World) : Prop where
  low : Below w.heap.size w V
  res : V.heap[w.heap.size]? = some (.cells #[.int .u64 0, .int .u64 0, .int .u64 0, .int .u64 0] ST4 (0, 0))
  all : V.heap[w.heap.size + 1]? = some (.cells #[.int .u64 (p 0), .int .u64 (p 1), .int .u64 (p 2), .int .u64 (p 3)] ST4 (0, 0))
theorem AllAt.below {w V V' : World} {p : Nat → Nat} (h : AllAt w p V) (hb : Below V.heap.size V V') : AllAt w p V' := ⟨below_up h.low hb, kept_obj hb h.res, kept_obj hb h.all⟩
theorem AllAt.put {w V : World} {p : Nat → Nat} (h : AllAt w p V) (y : Nat → Nat) : AllAt w y ((((V.setCell ⟨w.heap.size + 1, 0, none⟩ (.int .u64 (y 0))).setCell ⟨w.heap.size + 1, 1, none⟩ (.int .u64 (y 1))).setCell ⟨w.heap.size + 1, 2, none⟩ (.int .u64 (y 2))).setCell ⟨w.heap.size + 1, 3, none⟩ (.int .u64 (y 3))) :=
  ⟨(((h.low.setCell (p := ⟨w.heap.size + 1, 0, none⟩) (Nat.le_succ _) _).setCell (p := ⟨w.heap.size + 1, 1, none⟩) (Nat.le_succ _) _).setCell (p := ⟨w.heap.size + 1, 2, none⟩) (Nat.le_succ _) _).setCell (p := ⟨w.heap.size + 1, 3, none⟩) (Nat.le_succ _) _,
    (set4_far (by omega) _ _ _ _).trans h.res, Blk4.set (show Blk4 V (w.heap.size + 1) _ _ _ _ from h.all) (y 0) (y 1) (y 2) (y 3)⟩

set_option maxRecDepth 100000 in
set_option maxHeartbeats 16000000 in
theorem all_any (L : List TV) (hT : ∀ T ∈ L, l_Told T) (id : Int) (w : World) (a : Option Addr) (n cap : Nat) (hn : n ≤ 100) (ht : Tasks w a n cap L) :
    Calls Try.prog 57 #[.slice a n cap, .int .i64 id] w (SetBack (allN L id n) w) := by
  have HT := Lib.hid ht
  have HL := Lib.hid hT
  clear ht hT
  go_enter Try.func57, Try.ntmps57
  go_upto_region 2 with fail
  refine gen_world (AllAt w (wd (allN L id 0))) ⟨(by repeat (first | exact Below.refl _ _ | (with_reducible assumption) | refine bw_alloc ?_ _ | refine bw_drew ?_)), (two_boxes w rfl _ _).1, by show _ = some (Obj.cells #[.int .u64 (wd noneP 0), .int .u64 (wd noneP 1), .int .u64 (wd noneP 2), .int .u64 (wd noneP 3)] ST4 (0, 0)); rw [wd_none, wd_none, wd_none, wd_none]; exact (two_boxes w rfl _ _).2⟩ ?_
  intro V hv
  have HV := Lib.hid hv
  clear hv
  go_wp2
  go_loopw [10] (fun u wr => ∃ k : Nat, k ≤ n ∧ u = .int .i64 k ∧ Hid (AllAt w (wd (allN L id k)) wr)) (fun u _ => (n - intOf u).toNat)
  case atStart => exact ⟨0, Nat.zero_le _, rfl, HV⟩
  case round =>
    obtain ⟨k, hk, rfl, HA⟩ := hrel
    clear HV
    by_cases hlt : k < n
    · obtain ⟨T, hTk⟩ := nth_of HT.out.len hlt
      obtain ⟨g, og, rfl, hat⟩ := (HT.out.view.below HA.out.low).at_ hTk
      have HTT := Lib.hid (HL.out T (List.mem_of_getElem? hTk))
      have HOK := Lib.hid (HT.out.ok.at_ hTk)
      obtain ⟨c0, c1, c2, c3, c4, c5, c6⟩ := hat
      have hk0 : (0 : Int) ≤ (k : Int) := by omega
      have hkn : (k : Int) < (n : Int) := by omega
      have hks : IntKind.i64.wrap ((k : Int) + 1) = (k : Int) + 1 := IntWalk.i64_in _ (by omega)
      obtain ⟨C, hC⟩ : ∃ C : Nat, T.c = (C : Int) := ⟨T.c.toNat, by have := HTT.out.c1; omega⟩
      have HC := Lib.hid hC
      clear hC
      go_upto_region 5 with fail
      refine gen_world (fun v => AllAt w (wd (allN L id k)) v ∧ v.heap[wr.heap.size]? = some (.cells #[.int .i64 T.id, .int .i64 T.c, .int .i64 T.d, .int .i64 T.t, .int .i64 T.p, .slice T.a1 T.ch.length T.c1, .slice T.a2 T.us.length T.c2] TT (0, 0)) ∧ Below wr.heap.size wr v) ⟨HA.out.below ((Below.refl _ _).alloc (Nat.le_refl _) _), heap_alloc_new wr _, (Below.refl _ _).alloc (Nat.le_refl _) _⟩ ?_
      intro V2 ⟨ha2, ht2, hb2⟩
      have HA2 := Lib.hid ha2
      have HT2 := Lib.hid ht2
      have HB2 := Lib.hid hb2
      clear c0 c1 c2 c3 c4 c5 c6 hb2
      have t0 : V2.cell? ⟨wr.heap.size, 0, none⟩ = some (.int .i64 T.id) := by rw [blk_cell ht2]; rfl
      by_cases hid : T.id = id
      · have hd : (T.id == id) = true := by simp [hid]
        have hd2 : (T.id != id) = false := by simp [hid]
        have HN : Hid (allN L id (k + 1) = allN L id k) := allN_is hTk hid
        clear ha2 ht2 hid hTk
        go_wp2
        go_roundw
        case rel => exact ⟨k + 1, by omega, by go_num, by rw [HN.out]; exact HA2⟩
        case measure => simp [intOf]; omega
      · have hd : (T.id == id) = false := by simp [hid]
        have hd2 : (T.id != id) = true := by simp [hid]
        have HN : Hid (allN L id (k + 1) = orP (allN L id k) (inP T.us 0 T.c.toNat)) := allN_not hTk hid
        have UC := Lib.hid (fun v (hb : Below wr.heap.size wr v) => used_any T HTT.out C HC.out v (HOK.out.below (below_up HA.out.low hb)))
        rw [show inP T.us 0 C = inP T.us 0 T.c.toNat by rw [HC.out]; rfl] at UC
        have OC := Lib.hid (or_two (allN L id k) (inP T.us 0 T.c.toNat))
        rw [← HN.out] at OC
        unfold SetBack at UC
        clear HN hid hTk
        obtain ⟨p2, hp2⟩ : ∃ p2, wd (allN L id (k + 1)) = p2 := ⟨_, rfl⟩
        have HP2 := Lib.hid hp2
        rw [hp2] at OC
        clear hp2
        generalize wd (allN L id k) = p at *
        generalize wd (inP T.us 0 T.c.toNat) = y at *
        have t1 : V2.cell? ⟨wr.heap.size, 1, none⟩ = some (.int .i64 T.c) := by rw [blk_cell ht2]; rfl
        have t2 : V2.cell? ⟨wr.heap.size, 2, none⟩ = some (.int .i64 T.d) := by rw [blk_cell ht2]; rfl
        have t3 : V2.cell? ⟨wr.heap.size, 3, none⟩ = some (.int .i64 T.t) := by rw [blk_cell ht2]; rfl
        have t4 : V2.cell? ⟨wr.heap.size, 4, none⟩ = some (.int .i64 T.p) := by rw [blk_cell ht2]; rfl
        have t5 : V2.cell? ⟨wr.heap.size, 5, none⟩ = some (.slice T.a1 T.ch.length T.c1) := by rw [blk_cell ht2]; rfl
        have t6 : V2.cell? ⟨wr.heap.size, 6, none⟩ = some (.slice T.a2 T.us.length T.c2) := by rw [blk_cell ht2]; rfl
        have a0 : V2.cell? ⟨w.heap.size + 1, 0, none⟩ = some (.int .u64 (p 0)) := by rw [blk_cell ha2.all]; rfl
        have a1 : V2.cell? ⟨w.heap.size + 1, 1, none⟩ = some (.int .u64 (p 1)) := by rw [blk_cell ha2.all]; rfl
        have a2 : V2.cell? ⟨w.heap.size + 1, 2, none⟩ = some (.int .u64 (p 2)) := by rw [blk_cell ha2.all]; rfl
        have a3 : V2.cell? ⟨w.heap.size + 1, 3, none⟩ = some (.int .u64 (p 3)) := by rw [blk_cell ha2.all]; rfl
        clear ha2 ht2
        go_upto_region 6 with fail
        go_region_with (first
          | (go_at_call 77; (refine (UC.out _ (by repeat (first | exact HB2.out | refine bw_drew ?_))).mono ?_); rintro e w1 ⟨rfl, b1⟩; have HA3 := Lib.hid (AllAt.below (V := V2.drew) ⟨bw_drew HA2.out.low, HA2.out.res, HA2.out.all⟩ b1); clear b1; have a0 : w1.cell? ⟨w.heap.size + 1, 0, none⟩ = some (.int .u64 (p 0)) := (by rw [blk_cell HA3.out.all]; rfl); have a1 : w1.cell? ⟨w.heap.size + 1, 1, none⟩ = some (.int .u64 (p 1)) := (by rw [blk_cell HA3.out.all]; rfl); have a2 : w1.cell? ⟨w.heap.size + 1, 2, none⟩ = some (.int .u64 (p 2)) := (by rw [blk_cell HA3.out.all]; rfl); have a3 : w1.cell? ⟨w.heap.size + 1, 3, none⟩ = some (.int .u64 (p 3)) := (by rw [blk_cell HA3.out.all]; rfl); have f0 := blk_free HA3.out.all 0; have f1 := blk_free HA3.out.all 1; have f2 := blk_free HA3.out.all 2; have f3 := blk_free HA3.out.all 3)
          | (go_at_call 74; (refine (OC.out _ _ (by simp) (by simp) (by simp) (by simp) (by simp) (by simp) (by simp) (by simp) (by simp)).mono ?_); rintro e w2 ⟨rfl, b2⟩; have HA4 := Lib.hid ((HA3.out.below ((Below.refl _ _).alloc (Nat.le_refl _) _)).below b2); clear b2; have a0 : w2.cell? ⟨w.heap.size + 1, 0, none⟩ = some (.int .u64 (p 0)) := (by rw [blk_cell HA4.out.all]; rfl); have a1 : w2.cell? ⟨w.heap.size + 1, 1, none⟩ = some (.int .u64 (p 1)) := (by rw [blk_cell HA4.out.all]; rfl); have a2 : w2.cell? ⟨w.heap.size + 1, 2, none⟩ = some (.int .u64 (p 2)) := (by rw [blk_cell HA4.out.all]; rfl); have a3 : w2.cell? ⟨w.heap.size + 1, 3, none⟩ = some (.int .u64 (p 3)) := (by rw [blk_cell HA4.out.all]; rfl); have f0 := blk_free HA4.out.all 0; have f1 := blk_free HA4.out.all 1; have f2 := blk_free HA4.out.all 2; have f3 := blk_free HA4.out.all 3))
        all_goals
          go_wp2
          go_roundw
          case rel => exact ⟨k + 1, by omega, by go_num, by rw [HP2.out]; exact HA4.out.put p2⟩
          case measure => simp [intOf]; omega
    · obtain rfl : k = n := by omega
      have hres := HA.out.res
      have a0 : wr.cell? ⟨w.heap.size + 1, 0, none⟩ = some (.int .u64 (wd (allN L id k) 0)) := by rw [blk_cell HA.out.all]; rfl
      have a1 : wr.cell? ⟨w.heap.size + 1, 1, none⟩ = some (.int .u64 (wd (allN L id k) 1)) := by rw [blk_cell HA.out.all]; rfl
      have a2 : wr.cell? ⟨w.heap.size + 1, 2, none⟩ = some (.int .u64 (wd (allN L id k) 2)) := by rw [blk_cell HA.out.all]; rfl
      have a3 : wr.cell? ⟨w.heap.size + 1, 3, none⟩ = some (.int .u64 (wd (allN L id k) 3)) := by rw [blk_cell HA.out.all]; rfl
      have z0 : wr.cell? ⟨w.heap.size, 0, none⟩ = some (.int .u64 0) := by rw [blk_cell hres]; rfl
      have z1 : wr.cell? ⟨w.heap.size, 1, none⟩ = some (.int .u64 0) := by rw [blk_cell hres]; rfl
      have z2 : wr.cell? ⟨w.heap.size, 2, none⟩ = some (.int .u64 0) := by rw [blk_cell hres]; rfl
      have z3 : wr.cell? ⟨w.heap.size, 3, none⟩ = some (.int .u64 0) := by rw [blk_cell hres]; rfl
      have f0 := blk_free hres 0
      have f1 := blk_free hres 1
      have f2 := blk_free hres 2
      have f3 := blk_free hres 3
      have hz := Blk4.set (show Blk4 wr w.heap.size 0 0 0 0 from hres) (wd (allN L id k) 0) (wd (allN L id k) 1) (wd (allN L id k) 2) (wd (allN L id k) 3)
      have HZ := Lib.hid hz.cells
      clear hres hz
      obtain ⟨p, hp⟩ : ∃ p, wd (allN L id k) = p := ⟨_, rfl⟩
      have HP := Lib.hid hp
      rw [hp] at a0 a1 a2 a3 HZ
      clear hp
      go_wp2
      obtain ⟨y0, y1, y2, y3⟩ := HZ.out
      refine bodyPost_ret (v := .agg #[.int .u64 (p 0), .int .u64 (p 1), .int .u64 (p 2), .int .u64 (p 3)]) ?_ rfl ⟨by rw [← HP.out], ?_⟩
      · simp [results, Try.results57, go_sem, y0, y1, y2, y3]
      · exact below_set4 HA.out.low (Nat.le_refl _) (p 0) (p 1) (p 2) (p 3)
end Go.Proofs.Ytlglncnhhgofoaa

/-
  What a preemption costs a task: plain numbers, no program in this text.
-/
namespace Go.Proofs.Ytlglncnhhgofoaa
open Go.RowKit

/-- The numbers below one. -/
def lowP (k x : Nat) : Bool := decide (x < k)
theorem lowP_zero : lowP 0 = noneP := by funext x; unfold lowP noneP; exact decide_eq_false (Nat.not_lt_zero x)
theorem lowP_next (k : Nat) : orP (lowP k) (oneP (k : Int)) = lowP (k + 1) := by
  funext x
  apply bool_ext
  unfold orP oneP lowP
  rw [Bool.or_eq_true, decide_eq_true_eq, decide_eq_true_eq, decide_eq_true_eq]
  omega

/-- A task's three charges: all that is useful, all that others use, both. -/
structure Cg where
  u : Int
  v : Int
  b : Int
def cgOf (r : Int) (L : List TV) (t : Tk) : Cg := ⟨r * ((mostOf t.us t.c.toNat (lowP 256)).1 : Nat), r * (cntN (allN L t.id L.length) 256 : Nat), r * ((mostOf t.us t.c.toNat (allN L t.id L.length)).1 : Nat)⟩
theorem cg_least {r : Int} (h0 : 0 ≤ r) (L : List TV) (t : Tk) : (cgOf r L t).b ≤ (cgOf r L t).u ∧ (cgOf r L t).b ≤ (cgOf r L t).v := by
  constructor
  · refine Int.mul_le_mul_of_nonneg_left ?_ h0
    have := most_mono t.us t.c.toNat (O := allN L t.id L.length) (O' := lowP 256) (fun x hx _ => decide_eq_true hx)
    omega
  · refine Int.mul_le_mul_of_nonneg_left ?_ h0
    have := most_used t.us t.c.toNat (allN L t.id L.length)
    omega
theorem mul_small {r : Int} {n : Nat} (h0 : 0 ≤ r) (h1 : r ≤ 1000) (hn : n ≤ 256) : 0 ≤ r * (n : Int) ∧ r * (n : Int) ≤ 256000 := by
  refine ⟨Int.mul_nonneg h0 (by omega), ?_⟩
  have h2 : r * (n : Int) ≤ 1000 * (n : Int) := Int.mul_le_mul_of_nonneg_right h1 (by omega)
  omega
theorem mul_wrap {r : Int} {n : Nat} (h0 : 0 ≤ r) (h1 : r ≤ 1000) (hn : n ≤ 256) : IntKind.i64.wrap (r * (n : Int)) = r * (n : Int) := by
  have := mul_small h0 h1 hn
  exact IntWalk.i64_in _ (by omega)
theorem cg_small {r : Int} (h0 : 0 ≤ r) (h1 : r ≤ 1000) (L : List TV) (t : Tk) : (0 ≤ (cgOf r L t).u ∧ (cgOf r L t).u ≤ 256000) ∧ (0 ≤ (cgOf r L t).v ∧ (cgOf r L t).v ≤ 256000) ∧ (0 ≤ (cgOf r L t).b ∧ (cgOf r L t).b ≤ 256000) :=
  ⟨mul_small h0 h1 (most_le _ _ _), mul_small h0 h1 (cntN_le _ _), mul_small h0 h1 (most_le _ _ _)⟩

/-- The charges of the task of a number, if the system is right and has it. -/
def cgAt (s r : Int) (L : List TV) (id : Int) : Option Cg := if checkOf s r L = 0 then (findTk (L.map TV.tk) id).map (cgOf r L) else none
def cgU (o : Option Cg) : Int := match o with | some c => c.u | none => 0
def cgV (o : Option Cg) : Int := match o with | some c => c.v | none => 0
def cgB (o : Option Cg) : Int := match o with | some c => c.b | none => 0
theorem cgAt_bad {s r : Int} {L : List TV} (h : ¬ checkOf s r L = 0) (id : Int) : cgAt s r L id = none := if_neg h
theorem cgAt_none {s r : Int} {L : List TV} {id : Int} (h : findTk (L.map TV.tk) id = none) : cgAt s r L id = none := by
  unfold cgAt; rw [h]; split <;> rfl
theorem cgAt_some {s r : Int} {L : List TV} {id : Int} {t : Tk} (h : checkOf s r L = 0) (hf : findTk (L.map TV.tk) id = some t) : cgAt s r L id = some (cgOf r L t) := by
  unfold cgAt; rw [if_pos h, hf]; rfl

/-- What a right system's tasks are. -/
theorem right_told {x : TV} {s : Int} (hs : s ≤ 256) (h : rightOf x s = 0) : l_Told x ∧ x.ch.length ≤ 64 := by
  unfold rightOf at h
  by_cases g1 : idBad x
  · rw [if_pos g1] at h; omega
  rw [if_neg g1] at h
  by_cases g2 : cdBad x
  · rw [if_pos g2] at h; omega
  rw [if_neg g2] at h
  by_cases g3 : chBad x
  · rw [if_pos g3] at h; omega
  rw [if_neg g3] at h
  by_cases g4 : usBad x s
  · rw [if_pos g4] at h; omega
  unfold cdBad at g2
  unfold chBad at g3
  unfold usBad at g4
  refine ⟨⟨by omega, by omega, ?_, ?_⟩, ?_⟩
  · have := g4; simp at this; omega
  · intro u hu
    have := g4; simp [badB] at this
    have := this.2 u hu
    omega
  · have := g3; simp at this; omega
theorem first_right {s : Int} : ∀ (L : List TV) (last : Int) (seen : List Int), firstOf s last seen L = 0 → ∀ x ∈ L, rightOf x s = 0
  | [], _, _, _, x, hx => by cases hx
  | y :: L, last, seen, h, x, hx => by
    rw [firstOf] at h
    by_cases h1 : rightOf y s = 0
    · rw [if_neg (fun z => z h1)] at h
      by_cases h2 : y.id ≤ last
      · rw [if_pos h2] at h; omega
      · rw [if_neg h2] at h
        by_cases h3 : y.p ∈ seen
        · rw [if_pos h3] at h; omega
        · rw [if_neg h3] at h
          rcases List.mem_cons.1 hx with e | e
          · rw [e]; exact h1
          · exact first_right L _ _ h x e
    · rw [if_pos h1] at h; exact absurd h h1
theorem check_ok {s r : Int} {L : List TV} (h : checkOf s r L = 0) : (0 ≤ s ∧ s ≤ 256) ∧ (0 ≤ r ∧ r ≤ 1000) ∧ (0 < L.length ∧ L.length ≤ 64) ∧ ∀ x ∈ L, l_Told x ∧ x.ch.length ≤ 64 := by
  unfold checkOf at h
  by_cases g : sysBad s r L
  · rw [if_pos g] at h; omega
  rw [if_neg g] at h
  by_cases g2 : 64 < L.length
  · rw [if_pos g2] at h; omega
  rw [if_neg g2] at h
  unfold sysBad at g
  have hs : s ≤ 256 := by omega
  exact ⟨by omega, by omega, by omega, fun x hx => right_told hs (first_right L _ _ h x hx)⟩
/-- Its tasks have numbers of their own. -/
theorem first_rise {s : Int} : ∀ (L : List TV) (last : Int) (seen : List Int), firstOf s last seen L = 0 → ∀ x ∈ L, last < x.id
  | [], _, _, _, x, hx => by cases hx
  | y :: L, last, seen, h, x, hx => by
    rw [firstOf] at h
    by_cases h1 : rightOf y s = 0
    · rw [if_neg (fun z => z h1)] at h
      by_cases h2 : y.id ≤ last
      · rw [if_pos h2] at h; omega
      · rw [if_neg h2] at h
        by_cases h3 : y.p ∈ seen
        · rw [if_pos h3] at h; omega
        · rw [if_neg h3] at h
          rcases List.mem_cons.1 hx with e | e
          · rw [e]; omega
          · have := first_rise L _ _ h x e; omega
    · rw [if_pos h1] at h; exact absurd h h1
theorem first_find {s : Int} : ∀ (L : List TV) (last : Int) (seen : List Int), firstOf s last seen L = 0 → ∀ x ∈ L, findTk (L.map TV.tk) x.id = some x.tk
  | [], _, _, _, x, hx => by cases hx
  | y :: L, last, seen, h, x, hx => by
    have hr := first_rise (y :: L) last seen h
    rw [firstOf] at h
    by_cases h1 : rightOf y s = 0
    · rw [if_neg (fun z => z h1)] at h
      by_cases h2 : y.id ≤ last
      · rw [if_pos h2] at h; omega
      · rw [if_neg h2] at h
        by_cases h3 : y.p ∈ seen
        · rw [if_pos h3] at h; omega
        · rw [if_neg h3] at h
          unfold findTk
          rw [List.map_cons, List.find?_cons]
          rcases List.mem_cons.1 hx with e | e
          · subst e
            have : decide (x.tk.id = x.id) = true := decide_eq_true rfl
            rw [this]
          · have h9 := first_rise L _ _ h x e
            have : decide (y.tk.id = x.id) = false := decide_eq_false (by show ¬ y.id = x.id; omega)
            rw [this]
            exact first_find L _ _ h x e
    · rw [if_pos h1] at h; exact absurd h h1
theorem check_find {s r : Int} {L : List TV} (h : checkOf s r L = 0) {x : TV} (hx : x ∈ L) : cgAt s r L x.id = some (cgOf r L x.tk) := by
  refine cgAt_some h ?_
  unfold checkOf at h
  by_cases g : sysBad s r L
  · rw [if_pos g] at h; omega
  rw [if_neg g] at h
  by_cases g2 : 64 < L.length
  · rw [if_pos g2] at h; omega
  rw [if_neg g2] at h
  exact first_find L _ _ h x hx
end Go.Proofs.Ytlglncnhhgofoaa

/-
  The walks over the least of a row, over the set of all, and over what tells the charges of a system.
-/
namespace Go.Proofs.Ytlglncnhhgofoaa
open Go.RowKit Go.Maps

set_option maxRecDepth 100000 in
set_option maxHeartbeats 4000000 in
/-- The least one of a row, of which there is one. -/
theorem least_any (l : List Int) (m : Int) (j : Nat) (hj : l[j]? = some m) (hm : ∀ x ∈ l, m ≤ x) (hf : ∀ i x, i < j → l[i]? = some x → m < x) (hn : l.length ≤ 100) (a : Option Addr) (c : Nat) (w : World) (hi : Ints w a l) :
    Calls Try.prog 60 #[.slice a l.length c] w fun e w' => e = .returned (.int .i64 m) ∧ w = w' := by
  obtain ⟨n, hN⟩ : ∃ n, l.length = n := ⟨_, rfl⟩
  have hjn : j < n := by have := (List.getElem?_eq_some_iff.1 hj).1; omega
  have HL := Lib.hid hN
  rw [hN] at hn ⊢
  have HI := Lib.hid hi
  have HM := Lib.hid hm
  have HF := Lib.hid hf
  have HJ := Lib.hid hj
  clear hN hi hm hf hj
  go_enter Try.func60, Try.ntmps60
  go_wp2
  go_step3
  go_wp2
  go_step3
  go_wp2
  go_loop [9] (fun u => ∃ k : Nat, k ≤ j ∧ u = .int .i64 k) (fun u => (n - intOf u).toNat)
  case atStart => exact ⟨0, Nat.zero_le _, rfl⟩
  case round =>
    obtain ⟨k, hk, rfl⟩ := hrel
    obtain ⟨x, hx⟩ := nth_of HL.out (show k < n by omega)
    obtain ⟨b, o, rfl, c0⟩ := HI.out.at_ hx
    have hk1 : (k : Int) < (n : Int) := by omega
    have hk0 : (0 : Int) ≤ (k : Int) := by omega
    by_cases hkj : k = j
    · subst hkj
      have hxm : x = m := by rw [HJ.out] at hx; exact (Option.some.inj hx).symm
      subst hxm
      go_wp2
      go_loop [15] (fun u => ∃ i : Nat, i ≤ n ∧ u = .int .i64 i) (fun u => (n - intOf u).toNat)
      case atStart => exact ⟨0, Nat.zero_le _, rfl⟩
      case round =>
        obtain ⟨i, hi, rfl⟩ := hrel
        by_cases hin : i < n
        · obtain ⟨y, hy⟩ := nth_of HL.out hin
          obtain ⟨b2, o2, e2, d0⟩ := HI.out.at_ hy
          cases e2
          have hi1 : (i : Int) < (n : Int) := by omega
          have hi0 : (0 : Int) ≤ (i : Int) := by omega
          have hq : ¬ y < x := by have := HM.out y (List.mem_of_getElem? hy); omega
          clear hx hy
          go_wp2
          go_round
          case rel => exact ⟨i + 1, by omega, by go_num⟩
          case measure => simp [intOf]; omega
        · obtain rfl : i = n := by omega
          clear hx
          go_wp2
          go_ret
          exact ⟨rfl, rfl⟩
    · have hmx : m < x := HF.out k x (by omega) hx
      go_wp2
      go_loop [15] (fun u => ∃ i : Nat, i ≤ j ∧ u = .int .i64 i) (fun u => (n - intOf u).toNat)
      case atStart => exact ⟨0, Nat.zero_le _, rfl⟩
      case round =>
        obtain ⟨i, hi, rfl⟩ := hrel
        obtain ⟨y, hy⟩ := nth_of HL.out (show i < n by omega)
        obtain ⟨b2, o2, e2, d0⟩ := HI.out.at_ hy
        cases e2
        have hi1 : (i : Int) < (n : Int) := by omega
        have hi0 : (0 : Int) ≤ (i : Int) := by omega
        have hkj2 : k + 1 ≤ j := by omega
        by_cases hq : y < x
        · clear hkj hx hy
          go_wp2
          go_round
          case rel => exact ⟨k + 1, hkj2, by go_num⟩
          case measure => simp [intOf]; omega
        · have hij : i + 1 ≤ j := by
            rcases Nat.lt_or_ge i j with h | h
            · exact h
            · obtain rfl : i = j := by omega
              rw [HJ.out] at hy
              obtain rfl := Option.some.inj hy
              omega
          clear hkj hx hy
          go_wp2
          go_round
          case rel => exact ⟨i + 1, hij, by go_num⟩
          case measure => simp [intOf]; omega

set_option maxRecDepth 100000 in
set_option maxHeartbeats 4000000 in
/-- All sets that there may be. -/
theorem every_any (w : World) : Calls Try.prog 54 #[] w (SetBack (lowP 256) w) := by
  go_enter Try.func54, Try.ntmps54
  go_upto_region 2 with fail
  refine gen_world (AllAt w (wd (lowP 0))) ⟨(by repeat (first | exact Below.refl _ _ | (with_reducible assumption) | refine bw_alloc ?_ _ | refine bw_drew ?_)), (two_boxes w rfl _ _).1, by rw [lowP_zero]; show _ = some (Obj.cells #[.int .u64 (wd noneP 0), .int .u64 (wd noneP 1), .int .u64 (wd noneP 2), .int .u64 (wd noneP 3)] ST4 (0, 0)); rw [wd_none, wd_none, wd_none, wd_none]; exact (two_boxes w rfl _ _).2⟩ ?_
  intro V hv
  have HV := Lib.hid hv
  clear hv
  go_wp2
  go_loopw [3] (fun u wr => ∃ k : Nat, k ≤ 256 ∧ u = .int .i64 k ∧ Hid (AllAt w (wd (lowP k)) wr)) (fun u _ => (256 - intOf u).toNat)
  case atStart => exact ⟨0, Nat.zero_le _, rfl, HV⟩
  case round =>
    obtain ⟨k, hk, rfl, HA⟩ := hrel
    clear HV
    have a0 : wr.cell? ⟨w.heap.size + 1, 0, none⟩ = some (.int .u64 (wd (lowP k) 0)) := by rw [blk_cell HA.out.all]; rfl
    have a1 : wr.cell? ⟨w.heap.size + 1, 1, none⟩ = some (.int .u64 (wd (lowP k) 1)) := by rw [blk_cell HA.out.all]; rfl
    have a2 : wr.cell? ⟨w.heap.size + 1, 2, none⟩ = some (.int .u64 (wd (lowP k) 2)) := by rw [blk_cell HA.out.all]; rfl
    have a3 : wr.cell? ⟨w.heap.size + 1, 3, none⟩ = some (.int .u64 (wd (lowP k) 3)) := by rw [blk_cell HA.out.all]; rfl
    by_cases hlt : k < 256
    · have OC := Lib.hid (fun w => with_any (lowP k) k (by omega) w)
      rw [lowP_next] at OC
      have hk2 : (k : Int) < 256 := by omega
      have hk3 : ¬ k = 256 := by omega
      obtain ⟨p2, hp2⟩ : ∃ p2, wd (lowP (k + 1)) = p2 := ⟨_, rfl⟩
      have HP2 := Lib.hid hp2
      rw [hp2] at OC
      clear hp2
      generalize wd (lowP k) = p at *
      go_wp2_with (go_at_call 50; (with_reducible refine (OC.out _).mono ?_); rintro e w2 ⟨rfl, b2⟩; have HA4 := Lib.hid (HA.out.below b2); clear b2; have a0 : w2.cell? ⟨w.heap.size + 1, 0, none⟩ = some (.int .u64 (p 0)) := (by rw [blk_cell HA4.out.all]; rfl); have a1 : w2.cell? ⟨w.heap.size + 1, 1, none⟩ = some (.int .u64 (p 1)) := (by rw [blk_cell HA4.out.all]; rfl); have a2 : w2.cell? ⟨w.heap.size + 1, 2, none⟩ = some (.int .u64 (p 2)) := (by rw [blk_cell HA4.out.all]; rfl); have a3 : w2.cell? ⟨w.heap.size + 1, 3, none⟩ = some (.int .u64 (p 3)) := (by rw [blk_cell HA4.out.all]; rfl); have f0 := blk_free HA4.out.all 0; have f1 := blk_free HA4.out.all 1; have f2 := blk_free HA4.out.all 2; have f3 := blk_free HA4.out.all 3)
      go_roundw
      case rel => exact ⟨k + 1, by omega, by go_num, by rw [HP2.out]; exact HA4.out.put p2⟩
      case measure => simp [intOf]; omega
    · obtain rfl : k = 256 := by omega
      have hres := HA.out.res
      have z0 : wr.cell? ⟨w.heap.size, 0, none⟩ = some (.int .u64 0) := by rw [blk_cell hres]; rfl
      have z1 : wr.cell? ⟨w.heap.size, 1, none⟩ = some (.int .u64 0) := by rw [blk_cell hres]; rfl
      have z2 : wr.cell? ⟨w.heap.size, 2, none⟩ = some (.int .u64 0) := by rw [blk_cell hres]; rfl
      have z3 : wr.cell? ⟨w.heap.size, 3, none⟩ = some (.int .u64 0) := by rw [blk_cell hres]; rfl
      have f0 := blk_free hres 0
      have f1 := blk_free hres 1
      have f2 := blk_free hres 2
      have f3 := blk_free hres 3
      have hz := Blk4.set (show Blk4 wr w.heap.size 0 0 0 0 from hres) (wd (lowP 256) 0) (wd (lowP 256) 1) (wd (lowP 256) 2) (wd (lowP 256) 3)
      have HZ := Lib.hid hz.cells
      clear hres hz
      obtain ⟨p, hp⟩ : ∃ p, wd (lowP 256) = p := ⟨_, rfl⟩
      have HP := Lib.hid hp
      rw [hp] at a0 a1 a2 a3 HZ
      clear hp
      go_wp2
      obtain ⟨y0, y1, y2, y3⟩ := HZ.out
      refine bodyPost_ret (v := .agg #[.int .u64 (p 0), .int .u64 (p 1), .int .u64 (p 2), .int .u64 (p 3)]) ?_ rfl ⟨by rw [← HP.out], ?_⟩
      · simp [results, Try.results54, go_sem, y0, y1, y2, y3]
      · exact below_set4 HA.out.low (Nat.le_refl _) (p 0) (p 1) (p 2) (p 3)

/-- What tells the charges of a system: its boxes. -/
structure ChgAt (w : World) (s r : Int) (a : Option Addr) (n cap G E C : Nat) : Prop where
  sys : w.heap[G]? = some (.cells #[.int .i64 s, .int .i64 r, .slice a n cap] 27 (0, 0))
  evr : w.heap[E]? = some (.cells #[.int .u64 (wd (lowP 256) 0), .int .u64 (wd (lowP 256) 1), .int .u64 (wd (lowP 256) 2), .int .u64 (wd (lowP 256) 3)] ST4 (0, 0))
  cst : w.heap[C]? = some (.cells #[.func (.func 55) #[] #[.pointer (some ⟨G, 0, none⟩)]] 98 (0, 0))
theorem ChgAt.below {w w' : World} {s r : Int} {a : Option Addr} {n cap G E C : Nat} (h : ChgAt w s r a n cap G E C) (hb : Below w.heap.size w w') : ChgAt w' s r a n cap G E C :=
  ⟨kept_obj hb h.sys, kept_obj hb h.evr, kept_obj hb h.cst⟩
def ChgBack (w : World) (s r : Int) (a : Option Addr) (n cap : Nat) (e : Ending) (w' : World) : Prop :=
  ∃ G E C, e = .returned (.func (.func 56) #[] #[.pointer (some ⟨G, 0, none⟩), .pointer (some ⟨E, 0, none⟩), .pointer (some ⟨C, 0, none⟩)]) ∧ ChgAt w' s r a n cap G E C ∧ Below w.heap.size w w'

set_option maxRecDepth 100000 in
set_option maxHeartbeats 2000000 in
theorem cost_any {w : World} {s r : Int} {a : Option Addr} {n cap G : Nat} (hG : w.heap[G]? = some (.cells #[.int .i64 s, .int .i64 r, .slice a n cap] 27 (0, 0))) (m : Nat) (h0 : 0 ≤ r) (h1 : r ≤ 1000) (hm : m ≤ 256) :
    Calls Try.prog 55 #[.int .i64 (m : Int), .pointer (some ⟨G, 0, none⟩)] w fun e w' => e = .returned (.int .i64 (r * (m : Int))) ∧ Below w.heap.size w w' := by
  have e1 : w.cell? ⟨G, 1, none⟩ = some (.int .i64 r) := by rw [blk_cell hG]; rfl
  have q := mul_wrap h0 h1 hm
  clear hG h0 h1 hm
  obtain ⟨z, hz⟩ : ∃ z, r * (m : Int) = z := ⟨_, rfl⟩
  rw [hz] at q ⊢
  go_enter Try.func55, Try.ntmps55
  go_wp2_with fail
  go_ret
  exact ⟨rfl, (by repeat (first | exact Below.refl _ _ | (with_reducible assumption) | refine bw_alloc ?_ _ | refine bw_drew ?_))⟩

set_option maxRecDepth 100000 in
set_option maxHeartbeats 4000000 in
theorem charges_any (s r : Int) (a : Option Addr) (n cap : Nat) (w : World) : Calls Try.prog 34 #[.agg #[.int .i64 s, .int .i64 r, .slice a n cap]] w (ChgBack w s r a n cap) := by
  have EC := Lib.hid (fun w => every_any w)
  unfold SetBack at EC
  go_enter Try.func34, Try.ntmps34
  go_wp2_with (go_at_call 54; (with_reducible refine (EC.out _).mono ?_); rintro e w1 ⟨rfl, b1⟩; have B1 := Lib.hid b1; clear b1)
  go_ret
  have hs := B1.out.size
  have hs1 : w.heap.size < w1.heap.size := by rw [World.size_alloc] at hs; omega
  have hsys := kept_obj B1.out (heap_alloc_new w (.cells #[.int .i64 s, .int .i64 r, .slice a n cap] 27))
  obtain ⟨q1, q2⟩ := two_boxes w1 rfl (.cells #[.int .u64 (wd (lowP 256) 0), .int .u64 (wd (lowP 256) 1), .int .u64 (wd (lowP 256) 2), .int .u64 (wd (lowP 256) 3)] ST4) (.cells #[.func (.func 55) #[] #[.pointer (some ⟨w.heap.size, 0, none⟩)]] 98)
  exact ⟨w.heap.size, w1.heap.size, w1.heap.size + 1, rfl, ⟨kept_obj (by repeat (first | exact Below.refl _ _ | (with_reducible assumption) | refine bw_alloc ?_ _ | refine bw_drew ?_)) hsys, q1, q2⟩, below_up (below_up (bw_alloc (Below.refl _ _) _) B1.out) (by repeat (first | exact Below.refl _ _ | (with_reducible assumption) | refine bw_alloc ?_ _ | refine bw_drew ?_))⟩

end Go.Proofs.Ytlglncnhhgofoaa
