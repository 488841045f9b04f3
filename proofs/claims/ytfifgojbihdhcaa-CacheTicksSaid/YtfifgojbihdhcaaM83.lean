/- Texts of this claim, put together: BIter, BListW, BRef5, BRef6, CMem, CW1, KW27, CK, CW5, CW3, CW4, CR1, CR2, COpen. -/
import Derived.Test.YtfifgojbihdhcaaM82
import Derived.RangeFuncNested
import Derived.RangeFuncBound
import Derived.RangeFuncCalls
import Derived.RangeFuncLeaves
import Derived.RangeFuncBox
import Derived.Shelf.Abstract
import Derived.Shelf.RegionOpen
import Derived.OwnWalkIn
import Derived.TacticsInMore
import Derived.LoopNIn
import Derived.LoopIn
import Derived.Maps.AppendAt
import Derived.Laws.MakeOwn
import Derived.OwnWalk
import Derived.Tactics2
import Derived.Tactics
import Derived.RegionTactic
set_option linter.unusedVariables false
set_option linter.unusedSimpArgs false

/-
  The walk over what tells a set's numbers one by one.
-/
namespace Go.Proofs.Ytfifgojbihdhcaa
open Go.RowKit Go.Shelf
attribute [local go_sem] Oper.semAt_some

def elsN (p : Nat → Bool) (k : Nat) : List Int := (below p (64 * k)).map fun x : Nat => (x : Int)
def onesAt (k x : Nat) : List Int := (ones x).map fun j : Nat => (k : Int) * 64 + (j : Int)

theorem elsN_next (p : Nat → Bool) (k : Nat) : elsN p (k + 1) = elsN p k ++ onesAt k (wd p k) := by
  unfold elsN onesAt
  rw [ones_wd, List.map_append, List.map_map]
  congr 1
  exact List.map_congr_left fun j _ => by simp; omega
theorem onesAt_zero (k : Nat) : onesAt k 0 = [] := by unfold onesAt; rw [ones_zero]; rfl
theorem onesAt_next (k : Nat) {x : Nat} (h0 : x ≠ 0) (h : x < 18446744073709551616) : onesAt k x = ((k : Int) * 64 + (Lib.ctz 64 x : Int)) :: onesAt k (x &&& (x - 1)) := by
  unfold onesAt; rw [(ones_next h0 h).2]; rfl
theorem elsN_pre (p : Nat → Bool) : ∀ {k}, k ≤ 4 → ∃ t, els p = elsN p k ++ t := by
  have h : ∀ d k, k + d = 4 → ∃ t, els p = elsN p k ++ t := by
    intro d
    induction d with
    | zero => intro k hk; obtain rfl : k = 4 := by omega
              exact ⟨[], by simp [els, elsN]⟩
    | succ d ih =>
      intro k hk
      obtain ⟨t, ht⟩ := ih (k + 1) (by omega)
      exact ⟨onesAt k (wd p k) ++ t, by rw [ht, elsN_next, List.append_assoc]⟩
  exact fun {k} hk => h (4 - k) k (by omega)

theorem index_any (a : Nat → Nat) {k : Nat} (hk : k < 4) (w : World) : (Instr.index 37 (.agg #[.int .u64 (a 0), .int .u64 (a 1), .int .u64 (a 2), .int .u64 (a 3)]) (.int .i64 (k : Int))).run Try.prog w = .ok (.int .u64 (a k)) w := by
  rcases (show k = 0 ∨ k = 1 ∨ k = 2 ∨ k = 3 by omega) with rfl | rfl | rfl | rfl
  · exact index_0 ..
  · exact index_1 ..
  · exact index_2 ..
  · exact index_3 ..

end Go.Proofs.Ytfifgojbihdhcaa

/-
  The walk over the list of a set.
-/
namespace Go.Proofs.Ytfifgojbihdhcaa
open Go.RowKit Go.Shelf
attribute [local go_sem] Oper.semAt_some

theorem infoInt : (Try.prog.info? 3).map (fun i => (i.zero, i.size, i.bytes)) = some (some (.int .i64 0), 1, 8) := by kernel_rfl

theorem make_run (c : Nat) (hc : c ≤ 256) (w : World) : (Instr.makeSlice 45 (.int .i64 0) (.int .i64 (c : Int))).run Try.prog w = .ok (.slice (some ⟨w.heap.size, 0, none⟩) 0 c) (w.alloc (.cells (madeCells #[.int .i64 0] c) 3)) := by
  obtain ⟨i0, hi, hz0, hz1, hz2⟩ := info_parts infoInt
  have h := run_make w 45 3 i0 (.int .i64 0) Try.underlying45 hi hz0 .i64 .i64 0 c (by omega) (by omega) (by rw [hz2]; omega) (by omega)
  rw [hz1] at h
  simpa [Value.cells] using h

/-- What the list of a set is: a row of its own. -/
def ListPost (p : Nat → Bool) (w : World) (e : Ending) (w' : World) : Prop :=
  ∃ v, e = .returned v ∧ w'.ownsRow w.heap.size 3 1 v (els p).length ((els p).map (Value.int .i64)) ∧ Below w.heap.size w w'

end Go.Proofs.Ytfifgojbihdhcaa

/-
  The walks over the document's own list and count; two rows held against each other; the first numbers of a row; the chapter's example.
-/
namespace Go.Proofs.Ytfifgojbihdhcaa
open Go.RowKit

theorem owns_below {w w' : World} {B base : Nat} {e : TypeId} {size n : Nat} {v : Value} {xs : List Value} (h : w.ownsRow base e size v n xs) (hb : Below B w w') (hB : w.heap.size ≤ B) : w'.ownsRow base e size v n xs := by
  refine ⟨h.1, ?_⟩
  rcases h.2 with h | ⟨g, cap, cur, h1, h2, h3, h4⟩
  · exact .inl h
  · have hg : g < w.heap.size := (Array.getElem?_eq_some_iff.1 h3).1
    exact .inr ⟨g, cap, cur, h1, h2, (hb.block g (by omega)).trans h3, h4⟩
theorem owns_base {w : World} {base base' : Nat} {e : TypeId} {size n : Nat} {v : Value} {xs : List Value} (h : w.ownsRow base e size v n xs) (hB : base' ≤ base) : w.ownsRow base' e size v n xs := by
  refine ⟨h.1, ?_⟩
  rcases h.2 with h | ⟨g, cap, cur, h1, h2, h3⟩
  · exact .inl h
  · exact .inr ⟨g, cap, cur, h1, by omega, h3⟩

/-- A row of one's own, read. -/
theorem owns_reads {w : World} {base : Nat} {v : Value} {E : List Int} (h : w.ownsRow base 3 1 v E.length (E.map (Value.int .i64))) :
    ∃ ao cap, v = .slice ao E.length cap ∧ Reads w w.heap.size ao E ∧ (cap : Int) ≤ 9223372036854775807 ∧ E.length ≤ cap := by
  rcases h.2 with ⟨rfl, h0⟩ | ⟨g, cap, cur, rfl, h2, h3, h4, h5, _⟩
  · exact ⟨none, 0, by rw [h0], .inl (List.eq_nil_of_length_eq_zero h0), by omega, by omega⟩
  · refine ⟨some ⟨g, 0, none⟩, cap, rfl, ?_, by unfold maxLen at h5; omega, h4⟩
    right
    refine ⟨g, 0, rfl, (Array.getElem?_eq_some_iff.1 h3).1, fun k hk => ?_⟩
    have := h.cells (g := g) (by simp [Value.ownBlock]) k (.int .i64 (E.getD k 0)) (by rw [List.getElem?_map, List.getElem?_eq_getElem hk, List.getD_eq_getElem?_getD, List.getElem?_eq_getElem hk]; rfl)
    have e : (⟨g, 0, none⟩ : Addr).add k = ⟨g, 0 + k, none⟩ := by unfold Addr.add; split <;> simp_all
    rw [e] at this
    exact this

def Blk4 (w : World) (b x0 x1 x2 x3 : Nat) : Prop := w.heap[b]? = some (.cells #[.int .u64 x0, .int .u64 x1, .int .u64 x2, .int .u64 x3] 37 (0, 0))
theorem Blk4.lt {w : World} {b x0 x1 x2 x3 : Nat} (h : Blk4 w b x0 x1 x2 x3) : b < w.heap.size := (Array.getElem?_eq_some_iff.1 h).1
theorem Blk4.cells {w : World} {b x0 x1 x2 x3 : Nat} (h : Blk4 w b x0 x1 x2 x3) : w.cell? ⟨b, 0, none⟩ = some (.int .u64 x0) ∧ w.cell? ⟨b, 1, none⟩ = some (.int .u64 x1) ∧ w.cell? ⟨b, 2, none⟩ = some (.int .u64 x2) ∧ w.cell? ⟨b, 3, none⟩ = some (.int .u64 x3) := by
  unfold Blk4 at h; simp [World.cell?, h]

structure LoopL (p : Nat → Bool) (w wr : World) (n : Nat) (v : Value) : Prop where
  x : Blk4 wr w.heap.size (wd p 0) (wd p 1) (wd p 2) (wd p 3)
  row : wr.ownsRow (w.heap.size + 1) 3 1 v (below p n).length (((below p n).map fun x : Nat => (x : Int)).map (Value.int .i64))
  low : Below w.heap.size w wr

theorem below_yes {p : Nat → Bool} {n : Nat} (h : p n = true) : below p (n + 1) = below p n ++ [n] := by unfold below; rw [List.range_succ, List.filter_append]; simp [h]
theorem below_no {p : Nat → Bool} {n : Nat} (h : p n = false) : below p (n + 1) = below p n := by unfold below; rw [List.range_succ, List.filter_append]; simp [h]

theorem LoopL.next {p : Nat → Bool} {w wr w1 w3 : World} {n : Nat} {v v' : Value} {o : Obj} (h : LoopL p w wr n v) (hw : Below wr.heap.size wr w1) (hp : p n = true)
    (hown : w3.ownsRow (w.heap.size + 1) 3 1 v' ((below p n).length + 1) (((below p n).map fun x : Nat => (x : Int)).map (Value.int .i64) ++ [.int .i64 (n : Int)])) (hg : (w1.alloc o).grownBy w3 v.ownBlock) : LoopL p w w3 (n + 1) v' := by
  have hlt := h.x.lt
  have hsz := hw.size
  have hne : ∀ k, v.ownBlock = some k → w.heap.size + 1 ≤ k := fun k hk => (h.row.lt k hk).1
  refine ⟨?_, ?_, ?_⟩
  · have h1 : Blk4 w1 w.heap.size (wd p 0) (wd p 1) (wd p 2) (wd p 3) := (hw.block _ hlt).trans h.x
    have h2 : Blk4 (w1.alloc o) w.heap.size (wd p 0) (wd p 1) (wd p 2) (wd p 3) := (Below.heap_alloc w1 o _ h1.lt).trans h1
    exact (hg.block _ h2.lt (fun e => by have := hne _ e.symm; omega)).trans h2
  · rw [below_yes hp]
    simpa using hown
  · exact ((h.low.trans (hw.mono h.low.size)).alloc (Nat.le_trans h.low.size hsz) o).grown hg (Nat.le_trans h.low.size (by simp; omega)) fun k hk => by have := hne k hk; omega
theorem LoopL.stay {p : Nat → Bool} {w wr w1 : World} {n : Nat} {v : Value} (h : LoopL p w wr n v) (hw : Below wr.heap.size wr w1) (hp : p n = false) : LoopL p w w1 (n + 1) v :=
  ⟨(hw.block _ h.x.lt).trans h.x, by rw [below_no hp]; exact owns_below h.row hw (Nat.le_refl _), h.low.trans (hw.mono h.low.size)⟩

set_option maxRecDepth 100000 in
set_option maxHeartbeats 4000000 in
theorem rlist_any (p : Nat → Bool) (w : World) : Calls Try.prog 37 #[.agg #[.int .u64 (wd p 0), .int .u64 (wd p 1), .int .u64 (wd p 2), .int .u64 (wd p 3)]] w (ListPost p w) := by
  obtain ⟨i0, hi, hz0, hz1, hz2⟩ := info_parts infoInt
  have H := Lib.hid (fun (n : Nat) (h : n < 256) w => (show Calls Try.prog 25 #[.agg #[.int .u64 (wd p 0), .int .u64 (wd p 1), .int .u64 (wd p 2), .int .u64 (wd p 3)], .int .i64 n] w fun e w' => e = .returned (.bool (p n)) ∧ Below w.heap.size w w' by have := rhas_any p n w; rw [hasP_nat h] at this; exact this))
  go_enter Try.func37, Try.ntmps37
  go_wp2
  go_loopw [3, 4] (fun v i wr => ∃ n : Nat, n ≤ 256 ∧ i = .int .i64 n ∧ Hid (LoopL p w wr n v)) (fun _ i _ => (256 - intOf i).toNat)
  case atStart =>
    exact ⟨0, by omega, rfl, ⟨World.alloc_heap_new w _, World.ownsRow_nil _ _ _ _, (Below.refl _ _).alloc (Nat.le_refl _) _⟩⟩
  case round =>
    obtain ⟨n, hn, rfl, HL⟩ := hrel
    by_cases hlt : n < 256
    · obtain ⟨x0, x1, x2, x3⟩ := HL.out.x.cells
      have C := Lib.hid (H.out n hlt)
      have hlen : (below p n).length ≤ 256 := by rw [below_length]; have := cntN_le p n; omega
      clear H
      cases hq : p n with
      | false =>
        have HN := Lib.hid (fun w1 hw => HL.out.stay (w1 := w1) hw hq)
        rw [hq] at C
        clear HL hq hlen
        generalize wd p = a at x0 x1 x2 x3 C
        go_wp2_with (go_at_call 25; (refine (C.out _).mono ?_); rintro e w1 ⟨rfl, hw1⟩; have HM := Lib.hid (HN.out _ hw1); clear hw1)
        go_roundw
        case rel => exact ⟨n + 1, by omega, by go_num, HM⟩
        case measure => simp [intOf]; omega
      | true =>
        have HQ := Lib.hid hq
        rw [hq] at C
        clear hq
        generalize wd p = a at x0 x1 x2 x3 C
        go_wp2_with (first
          | (go_at_call 25; (refine (C.out _).mono ?_); rintro e w1 ⟨rfl, hw1⟩; have HR := Lib.hid (owns_below HL.out.row hw1 (Nat.le_refl _)); have HZ := Lib.hid (Nat.le_trans (HL.out.x.lt : w.heap.size + 1 ≤ wr.heap.size) hw1.size); have HW := Lib.hid hw1; clear hw1)
          | (at_builtin; refine wpList_append_own _ rfl _ _ 45 rfl (w.heap.size + 1) 3 i0 (.int .i64 0) 1 8 Try.underlying45 hi hz0 hz1 hz2 rfl (by decide) _ _ _ rfl (HR.out.alloc _) ⟨w1.heap.size, 0, none⟩ 1 1 [.int .i64 n] rfl rfl (cell_one_new _ _ _) (fun x hx => by simp at hx; subst hx; rfl) (by unfold maxLen; omega) (by omega) (by have := HZ.out; simp; omega) ?_; intro v' w3 hown' hgrow _; have HM := Lib.hid (HL.out.next HW.out HQ.out hown' hgrow); clear hown' hgrow))
        go_roundw
        case rel => exact ⟨n + 1, by omega, by go_num, HM⟩
        case measure => simp [intOf]; omega
    · obtain rfl : n = 256 := by omega
      clear H
      go_wp2
      go_ret
      exact ⟨_, rfl, by
        have := owns_base HL.out.row (base' := w.heap.size) (by omega)
        unfold els; rw [List.length_map]; exact this, HL.out.low⟩

end Go.Proofs.Ytfifgojbihdhcaa

/-
  The walks over the document's own count; two rows held against each other; the first numbers of a row; the chapter's example.
-/
namespace Go.Proofs.Ytfifgojbihdhcaa
open Go.RowKit

theorem els_length (p : Nat → Bool) : (els p).length = cntN p 256 := by unfold els; rw [List.length_map, below_length]

set_option maxHeartbeats 1000000 in
theorem rlen_any (p : Nat → Bool) (w : World) :
    Calls Try.prog 26 #[.agg #[.int .u64 (wd p 0), .int .u64 (wd p 1), .int .u64 (wd p 2), .int .u64 (wd p 3)]] w fun e w' => e = .returned (.int .i64 (cntN p 256)) ∧ Below w.heap.size w w' := by
  have C := Lib.hid (fun w => rlist_any p w)
  have HE := Lib.hid (els_length p)
  have HB := Lib.hid ((Below.refl w.heap.size w).alloc (Nat.le_refl _) (.cells #[.int .u64 (wd p 0), .int .u64 (wd p 1), .int .u64 (wd p 2), .int .u64 (wd p 3)] 37))
  go_enter Try.func26, Try.ntmps26
  go_wp2_with (go_at_call 37; (refine (C.out _).mono ?_); rintro e w1 ⟨v, rfl, hown, hw1⟩; obtain ⟨ao, cap, rfl, _, _, _⟩ := owns_reads hown; have HB1 := Lib.hid (below_next hw1 HB.out (Nat.le_refl _)); clear hw1 hown)
  go_ret
  exact ⟨by rw [HE.out]; rfl, HB1.out⟩

theorem l_i64_of_wf {x : Int} (h : (Lit.int .i64 x).wf = true) : -9223372036854775808 ≤ x ∧ x ≤ 9223372036854775807 := by
  simp [Lit.wf, IntKind.min, IntKind.max, IntKind.signed, IntKind.bits] at h
  omega

theorem els_sample : els (ofN [5, 3, 300, 3] 4) = [3, 5] := by decide +kernel
theorem has_sample : hasP (ofN [3] 1) 3 = true := by decide +kernel

theorem reads_two (a b : Int) (g : Nat) (w : World) (hg : g < w.heap.size) (h0 : w.cell? ⟨g, 0, none⟩ = some (.int .i64 a)) (h1 : w.cell? ⟨g, 1, none⟩ = some (.int .i64 b)) : Reads w w.heap.size (some ⟨g, 0, none⟩) [a, b] :=
  .inr ⟨g, 0, rfl, hg, fun k hk => by
    rcases (show k = 0 ∨ k = 1 by simp at hk; omega) with rfl | rfl
    · exact h0
    · exact h1⟩

theorem reads_next {w w1 w2 : World} {B : Nat} {ao : Option Addr} {L : List Int} (hb : Below w1.heap.size w1 w2) (h : Reads w B ao L) (hB : B ≤ w.heap.size) (e : w1.heap = w.heap := by rfl) : Reads w2 w2.heap.size ao L := by
  rcases h with h | ⟨b, off, h1, h2, h3⟩
  · exact .inl h
  · refine .inr ⟨b, off, h1, ?_, fun k hk => ?_⟩
    · have := hb.size; rw [e] at this; omega
    · rw [hb.cell (p := ⟨b, off + k, none⟩) (by show b < _; rw [e]; omega), cell_same e]; exact h3 k hk

end Go.Proofs.Ytfifgojbihdhcaa

/-
  What a cache's blocks hold, and what of memory a call may turn.
-/
namespace Go.Proofs.Ytfifgojbihdhcaa
open Go.RowKit Go.Maps

/-- What may have turned of what was there: the blocks of S alone. -/
structure Turn (S : Nat → Prop) (w w' : World) : Prop where
  os : w'.os = w.os
  tape : w'.tape = w.tape
  output : w'.output = w.output
  size : w.heap.size ≤ w'.heap.size
  block : ∀ k, k < w.heap.size → ¬ S k → w'.heap[k]? = w.heap[k]?

theorem Turn.refl (S : Nat → Prop) (w : World) : Turn S w w := ⟨rfl, rfl, rfl, Nat.le_refl _, fun _ _ _ => rfl⟩
theorem Turn.trans {S S' : Nat → Prop} {a b c : World} (h : Turn S a b) (k : Turn S' b c) (hs : ∀ i, i < a.heap.size → S' i → S i) : Turn S a c :=
  ⟨k.os.trans h.os, k.tape.trans h.tape, k.output.trans h.output, Nat.le_trans h.size k.size, fun i hi hn => (k.block i (Nat.lt_of_lt_of_le hi h.size) (fun q => hn (hs i hi q))).trans (h.block i hi hn)⟩
theorem Turn.then {S : Nat → Prop} {a b c : World} (h : Turn S a b) (k : Turn S b c) : Turn S a c := h.trans k fun _ _ q => q
theorem Turn.mono {S S' : Nat → Prop} {a b : World} (h : Turn S a b) (hs : ∀ i, i < a.heap.size → S i → S' i) : Turn S' a b :=
  ⟨h.os, h.tape, h.output, h.size, fun i hi hn => h.block i hi (fun q => hn (hs i hi q))⟩
theorem Turn.of_below {S : Nat → Prop} {w w' : World} (h : Below w.heap.size w w') : Turn S w w' := ⟨h.os, h.tape, h.output, h.size, fun k hk _ => h.block k hk⟩
theorem Turn.of_same {S : Nat → Prop} {w w1 w' : World} (h : Turn S w1 w') (e : w1.heap = w.heap) (e1 : w1.os = w.os) (e2 : w1.tape = w.tape) (e3 : w1.output = w.output) : Turn S w w' :=
  ⟨h.os.trans e1, h.tape.trans e2, h.output.trans e3, by rw [← e]; exact h.size, fun k hk hn => by rw [← e]; exact h.block k (by rw [e]; exact hk) hn⟩
theorem Turn.below {S : Nat → Prop} {w w' : World} {B : Nat} (h : Turn S w w') (hB : B ≤ w.heap.size) (hs : ∀ i, S i → B ≤ i) : Below B w w' :=
  ⟨h.os, h.tape, h.output, h.size, fun k hk => h.block k (by omega) (fun q => by have := hs k q; omega)⟩
theorem Turn.drew {S : Nat → Prop} {a w : World} (h : Turn S a w) : Turn S a w.drew := ⟨h.os, h.tape, h.output, h.size, h.block⟩
theorem Turn.alloc {S : Nat → Prop} {a w : World} (h : Turn S a w) (o : Obj) : Turn S a (w.alloc o) :=
  h.then (Turn.of_below ((Below.refl _ _).alloc (Nat.le_refl _) o))
theorem Turn.setCell {S : Nat → Prop} {a w : World} (h : Turn S a w) {p : Addr} (hp : p.block < a.heap.size → S p.block) (u : Value) : Turn S a (w.setCell p u) :=
  ⟨h.os, h.tape, h.output, by simp [World.setCell]; exact h.size, fun k hk hn => by
    rw [Below.heap_setCell _ _ _ _ (fun e => hn (by rw [e]; exact hp (by omega)))]; exact h.block k hk hn⟩
theorem Turn.grown {S : Nat → Prop} {a w w' : World} {row : Option Nat} (h : Turn S a w) (hg : w.grownBy w' row) (hr : ∀ k, row = some k → k < a.heap.size → S k) : Turn S a w' :=
  ⟨hg.os.trans h.os, hg.tape.trans h.tape, hg.output.trans h.output, Nat.le_trans h.size hg.size, fun k hk hn => (hg.block k (Nat.lt_of_lt_of_le hk h.size) (fun e => hn (hr k e.symm hk))).trans (h.block k hk hn)⟩

theorem Turn.obj {S : Nat → Prop} {w w' : World} (h : Turn S w w') {b : Nat} {o : Obj} (ho : w.heap[b]? = some o) (hn : ¬ S b) : w'.heap[b]? = some o := (h.block b (lt_of_block ho) hn).trans ho

theorem Turn.bel {S : Nat → Prop} {w w' w'' : World} (h : Turn S w w') (k : Below w'.heap.size w' w'') : Turn S w w'' := h.then (Turn.of_below k)
theorem Turn.cell {S : Nat → Prop} {w w' : World} (h : Turn S w w') {b o : Nat} {v : Value} (hc : w.cell? ⟨b, o, none⟩ = some v) (hn : ¬ S b) : w'.cell? ⟨b, o, none⟩ = some v := by
  have hl := block_of_cell hc
  have e := h.block b hl hn
  unfold World.cell? at hc ⊢
  simp only [e]
  exact hc

/-! ### plain: whose each set is -/
def okSet (n : Nat) (s : Int) : Prop := 0 ≤ s ∧ s < n
def okOwn (o : Int) : Prop := 1 ≤ o ∧ o ≤ 99
instance (n : Nat) (s : Int) : Decidable (okSet n s) := inferInstanceAs (Decidable (_ ∧ _))
instance (o : Int) : Decidable (okOwn o) := inferInstanceAs (Decidable (_ ∧ _))
def ownL (n : Nat) (L : Nat → Int) (s : Int) : Int := if okSet n s then L s.toNat else 0
def putL (L : Nat → Int) (s o : Int) (i : Nat) : Int := if (i : Int) = s then o else L i
def useB (n : Nat) (L : Nat → Int) (s o : Int) : Bool := if okSet n s ∧ okOwn o then decide (L s.toNat = o) else false
def useL (n : Nat) (L : Nat → Int) (s o : Int) : Nat → Int := if okSet n s ∧ okOwn o then putL L s o else L
def ofP (n : Nat) (L : Nat → Int) (o : Int) (i : Nat) : Bool := decide (okOwn o) && (decide (i < n) && decide (L i = o))

/-- A row of owners. -/
def RowC (w : World) (r n : Nat) (L : Nat → Int) : Prop :=
  ∃ cur : Array Value, w.heap[r]? = some (.cells cur 3 (0, 0)) ∧ cur.size = n ∧ ∀ i, i < n → cur[i]? = some (.int .i64 (L i))
/-- A cache: its struct, of type T, and its row. -/
structure Ch (T : TypeId) (w : World) (b r n : Nat) (L : Nat → Int) : Prop where
  str : w.heap[b]? = some (.cells #[.slice (some ⟨r, 0, none⟩) n n] T (0, 0))
  row : RowC w r n L
  ne : b ≠ r
  few : n ≤ 256
  wf : ∀ i, I64 (L i)
theorem RowC.lt {w : World} {r n : Nat} {L : Nat → Int} (h : RowC w r n L) : r < w.heap.size := let ⟨_, hb, _⟩ := h; lt_of_block hb
theorem RowC.cell {w : World} {r n : Nat} {L : Nat → Int} (h : RowC w r n L) {i : Nat} (hi : i < n) : w.cell? ⟨r, i, none⟩ = some (.int .i64 (L i)) := by
  obtain ⟨cur, hb, _, hc⟩ := h
  rw [blk_cell hb]; exact hc i hi
theorem RowC.free {w : World} {r n : Nat} {L : Nat → Int} (h : RowC w r n L) (o : Nat) : w.frozen? ⟨r, o, none⟩ = false := let ⟨_, hb, _⟩ := h; blk_free hb o
theorem RowC.turn {S : Nat → Prop} {w w' : World} {r n : Nat} {L : Nat → Int} (h : RowC w r n L) (ht : Turn S w w') (hn : ¬ S r) : RowC w' r n L := by
  obtain ⟨cur, hb, h1, h2⟩ := h
  exact ⟨cur, ht.obj hb hn, h1, h2⟩
theorem RowC.put {w : World} {r n : Nat} {L : Nat → Int} (h : RowC w r n L) {i : Nat} (hi : i < n) (o : Int) : RowC (w.setCell ⟨r, i, none⟩ (.int .i64 o)) r n (putL L i o) := by
  obtain ⟨cur, hb, h1, h2⟩ := h
  refine ⟨cur.setIfInBounds i (.int .i64 o), blk_set hb _, by simp [h1], fun j hj => ?_⟩
  unfold putL
  by_cases e : j = i
  · subst e
    rw [if_pos rfl, Array.getElem?_setIfInBounds_self]
    simp [h1, hj]
  · rw [if_neg (by omega), Array.getElem?_setIfInBounds_ne (by omega)]
    exact h2 j hj
theorem Ch.slice {T : TypeId} {w : World} {b r n : Nat} {L : Nat → Int} (h : Ch T w b r n L) : w.cell? ⟨b, 0, none⟩ = some (.slice (some ⟨r, 0, none⟩) n n) := by rw [blk_cell h.str]; rfl
theorem Ch.free {T : TypeId} {w : World} {b r n : Nat} {L : Nat → Int} (h : Ch T w b r n L) : w.frozen? ⟨b, 0, none⟩ = false := blk_free h.str 0
theorem Ch.turn {T : TypeId} {S : Nat → Prop} {w w' : World} {b r n : Nat} {L : Nat → Int} (h : Ch T w b r n L) (ht : Turn S w w') (hb : ¬ S b) (hr : ¬ S r) : Ch T w' b r n L :=
  ⟨ht.obj h.str hb, h.row.turn ht hr, h.ne, h.few, h.wf⟩
theorem Ch.below {T : TypeId} {w w' : World} {b r n : Nat} {L : Nat → Int} (h : Ch T w b r n L) (hb : Below w.heap.size w w') : Ch T w' b r n L :=
  h.turn (S := fun _ => False) (Turn.of_below hb) (fun q => q) (fun q => q)
theorem putL_wf {L : Nat → Int} (h : ∀ i, I64 (L i)) {s o : Int} (ho : I64 o) : ∀ i, I64 (putL L s o i) := fun i => by
  unfold putL; split
  · exact ho
  · exact h i
theorem own_i64 {o : Int} (h : okOwn o) : I64 o := by unfold okOwn at h; unfold I64; omega
theorem Ch.put {T : TypeId} {w : World} {b r n : Nat} {L : Nat → Int} (h : Ch T w b r n L) {i : Nat} (hi : i < n) {o : Int} (ho : okOwn o) : Ch T (w.setCell ⟨r, i, none⟩ (.int .i64 o)) b r n (putL L i o) :=
  ⟨(blk_far (a := ⟨r, i, none⟩) h.ne _).trans h.str, h.row.put hi o, h.ne, h.few, putL_wf h.wf (own_i64 ho)⟩
theorem Ch.lt {T : TypeId} {w : World} {b r n : Nat} {L : Nat → Int} (h : Ch T w b r n L) : b < w.heap.size ∧ r < w.heap.size := ⟨lt_of_block h.str, h.row.lt⟩
/-- What a use leaves. -/
theorem Ch.use {T : TypeId} {w : World} {b r n : Nat} {L : Nat → Int} (h : Ch T w b r n L) {i : Nat} (hi : i < n) {o : Int} (ho : okOwn o) {w1 : World} (hb : Below w.heap.size w w1) :
    Ch T (w1.setCell ⟨r, i, none⟩ (.int .i64 o)) b r n (useL n L i o) ∧ Turn (fun k => k = r) w (w1.setCell ⟨r, i, none⟩ (.int .i64 o)) := by
  have e : useL n L i o = putL L i o := by unfold useL; rw [if_pos ⟨⟨by omega, by omega⟩, ho⟩]
  rw [e]
  exact ⟨(h.below hb).put hi ho, Turn.setCell (S := fun k => k = r) (p := ⟨r, i, none⟩) (Turn.of_below hb) (fun _ => rfl) _⟩

abbrev CT : TypeId := 74
abbrev RT : TypeId := 76

theorem cinfoInt : (Try.prog.info? 3).map (fun i => (i.zero, i.size, i.bytes)) = some (some (.int .i64 0), 1, 8) := by kernel_rfl
theorem make_row (n : Nat) (hn : n ≤ 256) (w : World) : (Instr.makeSlice 45 (.int .i64 (n : Int)) (.int .i64 (n : Int))).run Try.prog w = .ok (.slice (some ⟨w.heap.size, 0, none⟩) n n) (w.alloc (.cells (madeCells #[.int .i64 0] n) 3)) := by
  obtain ⟨i0, hi, hz0, hz1, hz2⟩ := info_parts cinfoInt
  have h := run_make w 45 3 i0 (.int .i64 0) Try.underlying45 hi hz0 .i64 .i64 n n (by omega) (by omega) (by rw [hz2]; omega) (by omega)
  rw [hz1] at h
  simpa [Value.cells] using h
theorem made_at {n i : Nat} (h : i < n) : (madeCells #[.int .i64 0] n)[i]? = some (.int .i64 0) := by
  simp [madeCells, h, Nat.mod_one]
theorem row_new (w : World) (n : Nat) : RowC (w.alloc (.cells (madeCells #[.int .i64 0] n) 3)) w.heap.size n (fun _ => 0) :=
  ⟨_, heap_alloc_new w _, size_madeCells _ _, fun i hi => made_at hi⟩

end Go.Proofs.Ytfifgojbihdhcaa

/-
  The walks over a cache: how many sets; is there such a set, may one own; a new one; a use, an owner, a flush; of none.
-/
namespace Go.Proofs.Ytfifgojbihdhcaa
open Go.RowKit Go.Maps

set_option maxHeartbeats 1000000 in
theorem sets_any {w : World} {b r n : Nat} {L : Nat → Int} (h : Ch CT w b r n L) : Calls Try.prog 22 #[.pointer (some ⟨b, 0, none⟩)] w fun e w' => e = .returned (.int .i64 n) ∧ w' = w := by
  have c0 := h.slice
  clear h
  go_enter Try.func22, Try.ntmps22
  go_wp2
  go_ret
  exact ⟨rfl, rfl⟩
set_option maxHeartbeats 1000000 in
theorem sets_nil (w : World) : Calls Try.prog 22 #[.pointer none] w fun e w' => e = .returned (.int .i64 0) ∧ w' = w := by
  go_enter Try.func22, Try.ntmps22
  go_wp2
  go_ret
  exact ⟨rfl, rfl⟩
set_option maxHeartbeats 1000000 in
theorem chas_core {v : Value} {n : Nat} {w : World} (C : Hid (Calls Try.prog 22 #[v] w fun e w' => e = .returned (.int .i64 n) ∧ w' = w)) (s : Int) :
    Calls Try.prog 28 #[v, .int .i64 s] w fun e w' => e = .returned (.bool (decide (okSet n s))) ∧ w' = w := by
  by_cases h0 : 0 ≤ s
  · by_cases h1 : s < n
    · rw [decide_eq_true (show okSet n s from ⟨h0, h1⟩)]
      have d1 : decide (s < (n : Int)) = true := decide_eq_true h1
      go_enter Try.func28, Try.ntmps28
      go_wp2_with (go_at_call 22; refine C.out.mono ?_; rintro e w1 ⟨rfl, rfl⟩)
      go_ret
      exact ⟨rfl, rfl⟩
    · rw [decide_eq_false (fun q : okSet n s => h1 q.2)]
      have d1 : decide (s < (n : Int)) = false := decide_eq_false h1
      go_enter Try.func28, Try.ntmps28
      go_wp2_with (go_at_call 22; refine C.out.mono ?_; rintro e w1 ⟨rfl, rfl⟩)
      go_ret
      exact ⟨rfl, rfl⟩
  · rw [decide_eq_false (fun q : okSet n s => h0 q.1)]
    go_enter Try.func28, Try.ntmps28
    go_wp2
    go_ret
    exact ⟨rfl, rfl⟩
theorem chas_any {w : World} {b r n : Nat} {L : Nat → Int} (h : Ch CT w b r n L) (s : Int) : Calls Try.prog 28 #[.pointer (some ⟨b, 0, none⟩), .int .i64 s] w fun e w' => e = .returned (.bool (decide (okSet n s))) ∧ w' = w :=
  chas_core (Lib.hid (sets_any h)) s
theorem chas_nil (w : World) (s : Int) : Calls Try.prog 28 #[.pointer none, .int .i64 s] w fun e w' => e = .returned (.bool false) ∧ w' = w := by
  have := chas_core (Lib.hid (sets_nil w)) s
  rwa [decide_eq_false (fun q : okSet 0 s => by have := q.1; have := q.2; omega)] at this
set_option maxHeartbeats 1000000 in
theorem may_any (o : Int) (w : World) : Calls Try.prog 29 #[.int .i64 o] w fun e w' => e = .returned (.bool (decide (okOwn o))) ∧ w' = w := by
  by_cases h0 : 1 ≤ o
  · by_cases h1 : o ≤ 99
    · rw [decide_eq_true (show okOwn o from ⟨h0, h1⟩)]
      have d1 : decide (o ≤ 99) = true := decide_eq_true h1
      go_enter Try.func29, Try.ntmps29
      go_wp2
      go_ret
      exact ⟨rfl, rfl⟩
    · rw [decide_eq_false (fun q : okOwn o => h1 q.2)]
      have d1 : decide (o ≤ 99) = false := decide_eq_false h1
      go_enter Try.func29, Try.ntmps29
      go_wp2
      go_ret
      exact ⟨rfl, rfl⟩
  · rw [decide_eq_false (fun q : okOwn o => h0 q.1)]
    go_enter Try.func29, Try.ntmps29
    go_wp2
    go_ret
    exact ⟨rfl, rfl⟩

/-! ### a new one -/
/-- What comes back: a cache of its own. -/
def CacheBack (T : TypeId) (n : Nat) (w : World) (e : Ending) (w' : World) : Prop :=
  ∃ b r, e = .returned (.pointer (some ⟨b, 0, none⟩)) ∧ Ch T w' b r n (fun _ => 0) ∧ w.heap.size ≤ b ∧ w.heap.size ≤ r ∧ Below w.heap.size w w'
theorem back_of {T : TypeId} {n : Nat} (hn : n ≤ 256) (w : World) : CacheBack T n w (.returned (.pointer (some ⟨w.heap.size + 1, 0, none⟩))) ((w.alloc (.cells (madeCells #[.int .i64 0] n) 3)).alloc (.cells #[.slice (some ⟨w.heap.size, 0, none⟩) n n] T)) := by
  have e := World.size_alloc w (.cells (madeCells #[.int .i64 0] n) 3)
  refine ⟨w.heap.size + 1, w.heap.size, rfl, ⟨?_, ?_, by omega, hn, fun _ => by unfold I64; omega⟩, by omega, by omega, (by repeat (first | exact Below.refl _ _ | (with_reducible assumption) | refine bw_alloc ?_ _ | refine bw_drew ?_))⟩
  · have := heap_alloc_new (w.alloc (.cells (madeCells #[.int .i64 0] n) 3)) (.cells #[.slice (some ⟨w.heap.size, 0, none⟩) n n] T)
    rwa [e] at this
  · exact (row_new w n).turn (S := fun _ => False) (Turn.of_below ((Below.refl _ _).alloc (Nat.le_refl _) _)) (fun q => q)
set_option maxHeartbeats 1000000 in
theorem cnew_some (n : Nat) (hn : n ≤ 256) (w : World) : Calls Try.prog 10 #[.int .i64 n] w (CacheBack CT n w) := by
  have hmk := make_row n hn
  have h0 : (0 : Int) ≤ (n : Int) := by omega
  have h1 : (n : Int) ≤ 256 := by omega
  go_enter Try.func10, Try.ntmps10
  go_wp2
  go_ret
  exact back_of hn w
set_option maxHeartbeats 1000000 in
theorem cnew_none (n : Int) (h : n < 0 ∨ 256 < n) (w : World) : Calls Try.prog 10 #[.int .i64 n] w fun e w' => e = .returned (.pointer none) ∧ w' = w := by
  by_cases h1 : n < 0
  · clear h
    go_enter Try.func10, Try.ntmps10
    go_wp2
    go_ret
    exact ⟨rfl, rfl⟩
  · have h2 : 256 < n := by omega
    have h3 : 0 ≤ n := by omega
    clear h h1
    go_enter Try.func10, Try.ntmps10
    go_wp2
    go_ret
    exact ⟨rfl, rfl⟩

/-! ### a use -/
/-- What a use answers and leaves. -/
def UseBack (T : TypeId) (b r n : Nat) (L : Nat → Int) (s o : Int) (w : World) (e : Ending) (w' : World) : Prop :=
  e = .returned (.bool (useB n L s o)) ∧ Ch T w' b r n (useL n L s o) ∧ Turn (fun k => k = r) w w'
theorem use_stays {T : TypeId} {b r n : Nat} {L : Nat → Int} {s o : Int} {w : World} (h : Ch T w b r n L) (hn : ¬ (okSet n s ∧ okOwn o)) : UseBack T b r n L s o w (.returned (.bool false)) w := by
  refine ⟨by unfold useB; rw [if_neg hn], ?_, Turn.refl _ _⟩
  unfold useL; rw [if_neg hn]; exact h
theorem use_puts {T : TypeId} {b r n : Nat} {L : Nat → Int} {i : Nat} {o : Int} {w : World} (h : Ch T w b r n L) (hi : i < n) (ho : okOwn o) {q : Bool} (hq : (L i == o) = q) {w1 : World} (hb : Below w.heap.size w w1) : UseBack T b r n L i o w (.returned (.bool q)) (w1.setCell ⟨r, i, none⟩ (.int .i64 o)) := by
  refine ⟨?_, h.use hi ho hb⟩
  unfold useB
  rw [if_pos ⟨⟨by omega, by omega⟩, ho⟩, Int.toNat_natCast, ← hq]
  by_cases e : L i = o <;> simp [e]
set_option maxHeartbeats 1000000 in
theorem cuse_core {v : Value} {n : Nat} {w : World} (s o : Int) (C : Hid (Calls Try.prog 28 #[v, .int .i64 s] w fun e w' => e = .returned (.bool (decide (okSet n s))) ∧ w' = w)) (hn : ¬ (okSet n s ∧ okOwn o)) :
    Calls Try.prog 12 #[v, .int .i64 s, .int .i64 o] w fun e w' => e = .returned (.bool false) ∧ w' = w := by
  have M := Lib.hid (may_any o)
  by_cases h0 : okSet n s
  · have h1 : ¬ okOwn o := fun q => hn ⟨h0, q⟩
    rw [decide_eq_true h0] at C
    rw [decide_eq_false h1] at M
    clear hn h0 h1
    go_enter Try.func12, Try.ntmps12
    go_wp2_with (first
      | (go_at_call 28; refine C.out.mono ?_; rintro e w1 ⟨rfl, rfl⟩)
      | (go_at_call 29; refine (M.out _).mono ?_; rintro e w1 ⟨rfl, rfl⟩))
    go_ret
    exact ⟨rfl, rfl⟩
  · rw [decide_eq_false h0] at C
    clear hn h0
    go_enter Try.func12, Try.ntmps12
    go_wp2_with (go_at_call 28; refine C.out.mono ?_; rintro e w1 ⟨rfl, rfl⟩)
    go_ret
    exact ⟨rfl, rfl⟩
set_option maxHeartbeats 1000000 in
theorem cuse_any {w : World} {b r n : Nat} {L : Nat → Int} (h : Ch CT w b r n L) (s o : Int) : Calls Try.prog 12 #[.pointer (some ⟨b, 0, none⟩), .int .i64 s, .int .i64 o] w (UseBack CT b r n L s o w) := by
  have C := Lib.hid (chas_any h s)
  by_cases hq : okSet n s ∧ okOwn o
  · have M := Lib.hid (may_any o)
    have h0 := hq.1.1
    have h1 := hq.1.2
    rw [decide_eq_true hq.1] at C
    rw [decide_eq_true hq.2] at M
    obtain ⟨i, rfl⟩ : ∃ i : Nat, s = (i : Int) := ⟨s.toNat, by omega⟩
    have hi : i < n := by omega
    have ho := hq.2
    have H := Lib.hid h
    have c0 := h.slice
    have c1 := h.row.cell hi
    have f1 := h.row.free i
    obtain ⟨q, hqe⟩ : ∃ q, (L i == o) = q := ⟨_, rfl⟩
    have HQ := Lib.hid hqe
    have HO := Lib.hid ho
    clear h hq h0 h1 ho
    generalize L i = x at c1 hqe
    go_enter Try.func12, Try.ntmps12
    go_wp2_with (first
      | (go_at_call 28; refine C.out.mono ?_; rintro e w1 ⟨rfl, rfl⟩)
      | (go_at_call 29; refine (M.out _).mono ?_; rintro e w1 ⟨rfl, rfl⟩))
    go_ret
    exact use_puts H.out hi HO.out HQ.out (Below.refl _ _)
  · refine (cuse_core s o C hq).mono ?_
    rintro e w' ⟨rfl, rfl⟩
    exact use_stays h hq
theorem cuse_nil (w : World) (s o : Int) : Calls Try.prog 12 #[.pointer none, .int .i64 s, .int .i64 o] w fun e w' => e = .returned (.bool false) ∧ w' = w :=
  cuse_core (n := 0) s o (by rw [decide_eq_false (fun q : okSet 0 s => by have := q.1; have := q.2; omega)]; exact Lib.hid (chas_nil w s)) (fun q => by have := q.1.1; have := q.1.2; omega)

/-! ### an owner -/
set_option maxHeartbeats 1000000 in
theorem cowner_any {w : World} {b r n : Nat} {L : Nat → Int} (h : Ch CT w b r n L) (s : Int) : Calls Try.prog 18 #[.pointer (some ⟨b, 0, none⟩), .int .i64 s] w fun e w' => e = .returned (.int .i64 (ownL n L s)) ∧ w' = w := by
  have C := Lib.hid (chas_any h s)
  unfold ownL
  by_cases hq : okSet n s
  · have h0 := hq.1
    have h1 := hq.2
    rw [decide_eq_true hq] at C
    obtain ⟨i, rfl⟩ : ∃ i : Nat, s = (i : Int) := ⟨s.toNat, by omega⟩
    have hi : i < n := by omega
    rw [if_pos hq, Int.toNat_natCast]
    have c0 := h.slice
    have c1 := h.row.cell hi
    clear h hq h0 h1
    generalize L i = x at c1 ⊢
    go_enter Try.func18, Try.ntmps18
    go_wp2_with (go_at_call 28; refine C.out.mono ?_; rintro e w1 ⟨rfl, rfl⟩)
    go_ret
    exact ⟨rfl, rfl⟩
  · rw [decide_eq_false hq] at C
    rw [if_neg hq]
    clear h hq
    go_enter Try.func18, Try.ntmps18
    go_wp2_with (go_at_call 28; refine C.out.mono ?_; rintro e w1 ⟨rfl, rfl⟩)
    go_ret
    exact ⟨rfl, rfl⟩
set_option maxHeartbeats 1000000 in
theorem cowner_nil (w : World) (s : Int) : Calls Try.prog 18 #[.pointer none, .int .i64 s] w fun e w' => e = .returned (.int .i64 0) ∧ w' = w := by
  have C := Lib.hid (chas_nil w s)
  go_enter Try.func18, Try.ntmps18
  go_wp2_with (go_at_call 28; refine C.out.mono ?_; rintro e w1 ⟨rfl, rfl⟩)
  go_ret
  exact ⟨rfl, rfl⟩
end Go.Proofs.Ytfifgojbihdhcaa

/-
  The walks over accesses, and over the greatest chunk.
-/
namespace Go.Proofs.Ytfifgojbihdhcaa
open Go.RowKit Go.Maps

/-- Which set a tick uses, and whether one does. -/
def accOf (x : TV) (k : Int) : Int × Bool := if k < 0 then (0, false) else (x.us[(k % x.us.length).toNat]?.getD 0, decide (x.us ≠ []))
theorem acc_neg (x : TV) {k : Int} (h : k < 0) : accOf x k = (0, false) := by unfold accOf; rw [if_pos h]
theorem acc_nil {x : TV} {k : Int} (h : ¬ k < 0) (hu : x.us = []) : accOf x k = (0, false) := by unfold accOf; rw [if_neg h, hu]; rfl
theorem acc_at {x : TV} {k : Int} {j : Nat} {u : Int} (h : ¬ k < 0) (hj : k % x.us.length = (j : Int)) (hu : x.us[j]? = some u) : accOf x k = (u, true) := by
  unfold accOf
  rw [if_neg h, hj]
  have : x.us ≠ [] := by rintro e; rw [e] at hu; simp at hu
  simp [hu, this]
set_option maxRecDepth 100000 in
set_option maxHeartbeats 2000000 in
theorem acc_any (x : TV) (k : Int) (w : World) (hx : x.ok w) : Calls Try.prog 40 #[.agg #[.int .i64 x.id, .int .i64 x.c, .int .i64 x.d, .int .i64 x.t, .int .i64 x.p, .slice x.a1 x.ch.length x.c1, .slice x.a2 x.us.length x.c2], .int .i64 k] w fun e w' => e = .returned (.tuple #[.int .i64 (accOf x k).1, .bool (accOf x k).2]) ∧ Below w.heap.size w w' := by
  have hl2 := hx.l2
  have hm2 := hx.m2
  have hn9 : (x.us.length : Int) ≤ 9223372036854775807 := by omega
  clear hl2 hm2
  by_cases hk : k < 0
  · rw [acc_neg x hk]
    clear hx
    have hk2 : decide (k < 0) = true := decide_eq_true hk
    by_cases hu : x.us.length = 0
    · rw [hu]
      go_enter Try.func40, Try.ntmps40
      go_wp2_with fail
      go_ret2
      exact ⟨rfl, (by repeat (first | exact Below.refl _ _ | (with_reducible assumption) | refine bw_alloc ?_ _ | refine bw_drew ?_))⟩
    · have d1 : ((x.us.length : Int) == 0) = false := by rw [beq_eq_false_iff_ne]; omega
      generalize x.us.length = n at *
      go_enter Try.func40, Try.ntmps40
      go_wp2_with fail
      go_ret2
      exact ⟨rfl, (by repeat (first | exact Below.refl _ _ | (with_reducible assumption) | refine bw_alloc ?_ _ | refine bw_drew ?_))⟩
  · have hk2 : decide (k < 0) = false := decide_eq_false hk
    by_cases hu : x.us = []
    · rw [acc_nil hk hu]
      have hu2 : x.us.length = 0 := by rw [hu]; rfl
      clear hx hu
      rw [hu2]
      go_enter Try.func40, Try.ntmps40
      go_wp2_with fail
      go_ret2
      exact ⟨rfl, (by repeat (first | exact Below.refl _ _ | (with_reducible assumption) | refine bw_alloc ?_ _ | refine bw_drew ?_))⟩
    · have hp : 0 < x.us.length := List.length_pos_iff.2 hu
      obtain ⟨j, hj, hjl⟩ : ∃ j : Nat, k % x.us.length = (j : Int) ∧ j < x.us.length := by
        have a := Int.emod_nonneg k (show (x.us.length : Int) ≠ 0 by omega)
        have b := Int.emod_lt_of_pos k (show (0 : Int) < x.us.length by omega)
        exact ⟨(k % x.us.length).toNat, by omega, by omega⟩
      obtain ⟨u, hu⟩ := nth_of (rfl : x.us.length = x.us.length) hjl
      rw [acc_at hk hj hu]
      obtain ⟨g, o, ha, hc⟩ := hx.two.at_ hu
      have hgl : g < w.heap.size := block_of_cell hc
      rw [ha]
      have e1 : k.tmod x.us.length = (j : Int) := by rw [Int.tmod_eq_emod_of_nonneg (by omega)]; exact hj
      have d1 : ((x.us.length : Int) == 0) = false := by rw [beq_eq_false_iff_ne]; omega
      have z1 : ¬ (x.us.length : Int) = 0 := by omega
      have z2 : ¬ x.us.length = 0 := by omega
      have hj1 : (j : Int) < (x.us.length : Int) := by omega
      have hj0 : (0 : Int) ≤ (j : Int) := by omega
      clear hx hu ha hj hp
      generalize x.us.length = n at *
      go_enter Try.func40, Try.ntmps40
      go_upto_region 3 with fail
      go_quiet (fail)
      go_wp2_with fail
      go_ret2
      exact ⟨rfl, below_same (Below.alloc (Below.refl _ _) (Nat.le_refl _) _) rfl rfl rfl rfl⟩
set_option maxRecDepth 100000 in
set_option maxHeartbeats 2000000 in
theorem racc_any (x : TV) (k : Int) (w : World) (hx : x.ok w) : Calls Try.prog 32 #[.agg #[.int .i64 x.id, .int .i64 x.c, .int .i64 x.d, .int .i64 x.t, .int .i64 x.p, .slice x.a1 x.ch.length x.c1, .slice x.a2 x.us.length x.c2], .int .i64 k] w fun e w' => e = .returned (.tuple #[.int .i64 (accOf x k).1, .bool (accOf x k).2]) ∧ Below w.heap.size w w' := by
  have hl2 := hx.l2
  have hm2 := hx.m2
  have hn9 : (x.us.length : Int) ≤ 9223372036854775807 := by omega
  clear hl2 hm2
  by_cases hk : k < 0
  · rw [acc_neg x hk]
    clear hx
    have hk2 : decide (k < 0) = true := decide_eq_true hk
    by_cases hu : x.us.length = 0
    · rw [hu]
      go_enter Try.func32, Try.ntmps32
      go_wp2_with fail
      go_ret2
      exact ⟨rfl, (by repeat (first | exact Below.refl _ _ | (with_reducible assumption) | refine bw_alloc ?_ _ | refine bw_drew ?_))⟩
    · have d1 : ((x.us.length : Int) == 0) = false := by rw [beq_eq_false_iff_ne]; omega
      generalize x.us.length = n at *
      go_enter Try.func32, Try.ntmps32
      go_wp2_with fail
      go_ret2
      exact ⟨rfl, (by repeat (first | exact Below.refl _ _ | (with_reducible assumption) | refine bw_alloc ?_ _ | refine bw_drew ?_))⟩
  · have hk2 : decide (k < 0) = false := decide_eq_false hk
    by_cases hu : x.us = []
    · rw [acc_nil hk hu]
      have hu2 : x.us.length = 0 := by rw [hu]; rfl
      clear hx hu
      rw [hu2]
      go_enter Try.func32, Try.ntmps32
      go_wp2_with fail
      go_ret2
      exact ⟨rfl, (by repeat (first | exact Below.refl _ _ | (with_reducible assumption) | refine bw_alloc ?_ _ | refine bw_drew ?_))⟩
    · have hp : 0 < x.us.length := List.length_pos_iff.2 hu
      obtain ⟨j, hj, hjl⟩ : ∃ j : Nat, k % x.us.length = (j : Int) ∧ j < x.us.length := by
        have a := Int.emod_nonneg k (show (x.us.length : Int) ≠ 0 by omega)
        have b := Int.emod_lt_of_pos k (show (0 : Int) < x.us.length by omega)
        exact ⟨(k % x.us.length).toNat, by omega, by omega⟩
      obtain ⟨u, hu⟩ := nth_of (rfl : x.us.length = x.us.length) hjl
      rw [acc_at hk hj hu]
      obtain ⟨g, o, ha, hc⟩ := hx.two.at_ hu
      have hgl : g < w.heap.size := block_of_cell hc
      rw [ha]
      have e1 : k.tmod x.us.length = (j : Int) := by rw [Int.tmod_eq_emod_of_nonneg (by omega)]; exact hj
      have d1 : ((x.us.length : Int) == 0) = false := by rw [beq_eq_false_iff_ne]; omega
      have z1 : ¬ (x.us.length : Int) = 0 := by omega
      have z2 : ¬ x.us.length = 0 := by omega
      have hj1 : (j : Int) < (x.us.length : Int) := by omega
      have hj0 : (0 : Int) ≤ (j : Int) := by omega
      clear hx hu ha hj hp
      generalize x.us.length = n at *
      go_enter Try.func32, Try.ntmps32
      go_upto_region 3 with fail
      go_quiet (fail)
      go_wp2_with fail
      go_ret2
      exact ⟨rfl, below_same (Below.alloc (Below.refl _ _) (Nat.le_refl _) _) rfl rfl rfl rfl⟩
end Go.Proofs.Ytfifgojbihdhcaa

/-
  A job's work in memory, and what a tick makes of it.
-/
namespace Go.Proofs.Ytfifgojbihdhcaa
open Go.RowKit Go.Maps

abbrev WT : TypeId := 39
/-- A job's work. -/
structure WK where
  dn : Int
  dm : Int
  db : Int
  rl : Int
  sn : Nat → Bool
/-- What may be stepped. -/
def Fits (id rel : Int) (k : WK) : Prop := okOwn id ∧ 0 ≤ rel ∧ rel ≤ 1000 ∧ 0 ≤ k.dn ∧ k.dn < k.dm ∧ 0 ≤ k.db
instance (id rel : Int) (k : WK) : Decidable (Fits id rel k) := inferInstanceAs (Decidable (_ ∧ _ ∧ _ ∧ _ ∧ _ ∧ _))
def wUp (x : Int) : Int := IntKind.i64.wrap (x + 1)
def bitUp (p : Nat → Bool) (s : Int) : Nat → Bool := orP p (oneP s)
/-- A tick of work with nothing to end: the set s, if any (u), is used. -/
def workW (n : Nat) (L : Nat → Int) (id : Int) (s : Int) (u : Bool) (rel : Int) (k : WK) : WK × Bool :=
  if u = true ∧ okSet n s then
    if ¬ L s.toNat = id ∧ 0 < rel ∧ hasP k.sn s = true then ({ k with db := rel - 1, rl := wUp k.rl }, true)
    else ({ k with dn := k.dn + 1, sn := bitUp k.sn s }, false)
  else ({ k with dn := k.dn + 1 }, false)
def workL (n : Nat) (L : Nat → Int) (id : Int) (s : Int) (u : Bool) : Nat → Int := if u = true ∧ okSet n s then putL L s id else L
/-- A tick. -/
def stepW (n : Nat) (L : Nat → Int) (id : Int) (s : Int) (u : Bool) (rel : Int) (k : WK) : WK × Bool :=
  if Fits id rel k then if 0 < k.db then ({ k with db := k.db - 1, rl := wUp k.rl }, true) else workW n L id s u rel k
  else (k, false)
def stepL (n : Nat) (L : Nat → Int) (id : Int) (s : Int) (u : Bool) (rel : Int) (k : WK) : Nat → Int :=
  if Fits id rel k ∧ ¬ 0 < k.db then workL n L id s u else L
/-- What a tick leaves. -/
def StepBack (T : TypeId) (b r n : Nat) (L' : Nat → Int) (o : WK × Bool) (w : World) (e : Ending) (w' : World) : Prop :=
  e = .returned (.tuple #[.agg #[.int .i64 o.1.dn, .int .i64 o.1.dm, .int .i64 o.1.db, .int .i64 o.1.rl, .int .u64 (wd o.1.sn 0), .int .u64 (wd o.1.sn 1), .int .u64 (wd o.1.sn 2), .int .u64 (wd o.1.sn 3)], .bool o.2]) ∧ Ch T w' b r n L' ∧ Turn (fun k => k = r) w w'

/-- The boxes of a call: a task, a work, the work that comes back. -/
structure StepAt (S : Nat → Prop) (w : World) (x : TV) (a b c d : Int) (y : Nat → Nat) (W : World) : Prop where
  low : Turn S w W
  tb : W.heap[w.heap.size]? = some (.cells #[.int .i64 x.id, .int .i64 x.c, .int .i64 x.d, .int .i64 x.t, .int .i64 x.p, .slice x.a1 x.ch.length x.c1, .slice x.a2 x.us.length x.c2] TT (0, 0))
  wb : W.heap[w.heap.size + 1]? = some (.cells #[.int .i64 a, .int .i64 b, .int .i64 c, .int .i64 d, .int .u64 (y 0), .int .u64 (y 1), .int .u64 (y 2), .int .u64 (y 3)] WT (0, 0))
  rb : W.heap[w.heap.size + 1 + 1]? = some (.cells #[.int .i64 0, .int .i64 0, .int .i64 0, .int .i64 0, .int .u64 0, .int .u64 0, .int .u64 0, .int .u64 0] WT (0, 0))
theorem StepAt.below {S : Nat → Prop} {w W W' : World} {x : TV} {a b c d : Int} {y : Nat → Nat} (h : StepAt S w x a b c d y W) (hb : Below W.heap.size W W') : StepAt S w x a b c d y W' :=
  ⟨h.low.bel hb, kept_obj hb h.tb, kept_obj hb h.wb, kept_obj hb h.rb⟩
theorem StepAt.turn {r : Nat} {w W W' : World} {x : TV} {a b c d : Int} {y : Nat → Nat} (h : StepAt (fun k => k = r) w x a b c d y W) (hb : Turn (fun k => k = r) W W') (hr : r < w.heap.size) : StepAt (fun k => k = r) w x a b c d y W' :=
  ⟨h.low.then hb, hb.obj h.tb (by omega), hb.obj h.wb (by omega), hb.obj h.rb (by omega)⟩
theorem stepAt_new (S : Nat → Prop) (w : World) (x : TV) (a b c d : Int) (y : Nat → Nat) : StepAt S w x a b c d y (((w.alloc (.cells #[.int .i64 x.id, .int .i64 x.c, .int .i64 x.d, .int .i64 x.t, .int .i64 x.p, .slice x.a1 x.ch.length x.c1, .slice x.a2 x.us.length x.c2] TT)).alloc (.cells #[.int .i64 a, .int .i64 b, .int .i64 c, .int .i64 d, .int .u64 (y 0), .int .u64 (y 1), .int .u64 (y 2), .int .u64 (y 3)] WT)).alloc (.cells #[.int .i64 0, .int .i64 0, .int .i64 0, .int .i64 0, .int .u64 0, .int .u64 0, .int .u64 0, .int .u64 0] WT)) := by
  have e1 := World.size_alloc w (.cells #[.int .i64 x.id, .int .i64 x.c, .int .i64 x.d, .int .i64 x.t, .int .i64 x.p, .slice x.a1 x.ch.length x.c1, .slice x.a2 x.us.length x.c2] TT)
  have e2 := World.size_alloc (w.alloc (.cells #[.int .i64 x.id, .int .i64 x.c, .int .i64 x.d, .int .i64 x.t, .int .i64 x.p, .slice x.a1 x.ch.length x.c1, .slice x.a2 x.us.length x.c2] TT)) (.cells #[.int .i64 a, .int .i64 b, .int .i64 c, .int .i64 d, .int .u64 (y 0), .int .u64 (y 1), .int .u64 (y 2), .int .u64 (y 3)] WT)
  refine ⟨Turn.of_below (by repeat (first | exact Below.refl _ _ | (with_reducible assumption) | refine bw_alloc ?_ _ | refine bw_drew ?_)), ?_, ?_, ?_⟩
  · exact kept_obj ((Below.refl _ _).alloc (Nat.le_refl _) _) (kept_obj ((Below.refl _ _).alloc (Nat.le_refl _) _) (heap_alloc_new w _))
  · have := heap_alloc_new (w.alloc (.cells #[.int .i64 x.id, .int .i64 x.c, .int .i64 x.d, .int .i64 x.t, .int .i64 x.p, .slice x.a1 x.ch.length x.c1, .slice x.a2 x.us.length x.c2] TT)) (.cells #[.int .i64 a, .int .i64 b, .int .i64 c, .int .i64 d, .int .u64 (y 0), .int .u64 (y 1), .int .u64 (y 2), .int .u64 (y 3)] WT)
    rw [e1] at this
    exact kept_obj ((Below.refl _ _).alloc (Nat.le_refl _) _) this
  · have := heap_alloc_new ((w.alloc (.cells #[.int .i64 x.id, .int .i64 x.c, .int .i64 x.d, .int .i64 x.t, .int .i64 x.p, .slice x.a1 x.ch.length x.c1, .slice x.a2 x.us.length x.c2] TT)).alloc (.cells #[.int .i64 a, .int .i64 b, .int .i64 c, .int .i64 d, .int .u64 (y 0), .int .u64 (y 1), .int .u64 (y 2), .int .u64 (y 3)] WT)) (.cells #[.int .i64 0, .int .i64 0, .int .i64 0, .int .i64 0, .int .u64 0, .int .u64 0, .int .u64 0, .int .u64 0] WT)
    rw [e2, e1] at this
    exact this
theorem StepAt.set0 {S : Nat → Prop} {w W : World} {x : TV} {a b c d : Int} {y : Nat → Nat} (h : StepAt S w x a b c d y W) (a' : Int) : StepAt S w x a' b c d y (W.setCell ⟨w.heap.size + 1, 0, none⟩ (.int .i64 a')) :=
  ⟨h.low.setCell (p := ⟨w.heap.size + 1, 0, none⟩) (fun q => absurd q (by show ¬ w.heap.size + 1 < _; omega)) _, (blk_far (a := ⟨w.heap.size + 1, 0, none⟩) (by show w.heap.size ≠ w.heap.size + 1; omega) _).trans h.tb, (blk_set h.wb _).trans rfl, (blk_far (a := ⟨w.heap.size + 1, 0, none⟩) (by show w.heap.size + 1 + 1 ≠ w.heap.size + 1; omega) _).trans h.rb⟩
theorem StepAt.facts {S : Nat → Prop} {w W : World} {x : TV} {a b c d : Int} {y : Nat → Nat} (h : StepAt S w x a b c d y W) :
    W.cell? ⟨w.heap.size, 0, none⟩ = some (.int .i64 x.id) ∧ W.cell? ⟨w.heap.size, 1, none⟩ = some (.int .i64 x.c) ∧ W.cell? ⟨w.heap.size, 2, none⟩ = some (.int .i64 x.d) ∧ W.cell? ⟨w.heap.size, 3, none⟩ = some (.int .i64 x.t) ∧ W.cell? ⟨w.heap.size, 4, none⟩ = some (.int .i64 x.p) ∧ W.cell? ⟨w.heap.size, 5, none⟩ = some (.slice x.a1 x.ch.length x.c1) ∧ W.cell? ⟨w.heap.size, 6, none⟩ = some (.slice x.a2 x.us.length x.c2) ∧ W.cell? ⟨w.heap.size + 1, 0, none⟩ = some (.int .i64 a) ∧ W.cell? ⟨w.heap.size + 1, 1, none⟩ = some (.int .i64 b) ∧ W.cell? ⟨w.heap.size + 1, 2, none⟩ = some (.int .i64 c) ∧ W.cell? ⟨w.heap.size + 1, 3, none⟩ = some (.int .i64 d) ∧ W.cell? ⟨w.heap.size + 1, 4, none⟩ = some (.int .u64 (y 0)) ∧ W.cell? ⟨w.heap.size + 1, 5, none⟩ = some (.int .u64 (y 1)) ∧ W.cell? ⟨w.heap.size + 1, 6, none⟩ = some (.int .u64 (y 2)) ∧ W.cell? ⟨w.heap.size + 1, 7, none⟩ = some (.int .u64 (y 3)) ∧ W.frozen? ⟨w.heap.size + 1, 0, none⟩ = false ∧ W.frozen? ⟨w.heap.size + 1, 1, none⟩ = false ∧ W.frozen? ⟨w.heap.size + 1, 2, none⟩ = false ∧ W.frozen? ⟨w.heap.size + 1, 3, none⟩ = false ∧ W.frozen? ⟨w.heap.size + 1, 4, none⟩ = false ∧ W.frozen? ⟨w.heap.size + 1, 5, none⟩ = false ∧ W.frozen? ⟨w.heap.size + 1, 6, none⟩ = false ∧ W.frozen? ⟨w.heap.size + 1, 7, none⟩ = false ∧ W.cell? ⟨w.heap.size + 1 + 1, 0, none⟩ = some ((.int .i64 0)) ∧ W.cell? ⟨w.heap.size + 1 + 1, 1, none⟩ = some ((.int .i64 0)) ∧ W.cell? ⟨w.heap.size + 1 + 1, 2, none⟩ = some ((.int .i64 0)) ∧ W.cell? ⟨w.heap.size + 1 + 1, 3, none⟩ = some ((.int .i64 0)) ∧ W.cell? ⟨w.heap.size + 1 + 1, 4, none⟩ = some ((.int .u64 0)) ∧ W.cell? ⟨w.heap.size + 1 + 1, 5, none⟩ = some ((.int .u64 0)) ∧ W.cell? ⟨w.heap.size + 1 + 1, 6, none⟩ = some ((.int .u64 0)) ∧ W.cell? ⟨w.heap.size + 1 + 1, 7, none⟩ = some ((.int .u64 0)) ∧ W.frozen? ⟨w.heap.size + 1 + 1, 0, none⟩ = false ∧ W.frozen? ⟨w.heap.size + 1 + 1, 1, none⟩ = false ∧ W.frozen? ⟨w.heap.size + 1 + 1, 2, none⟩ = false ∧ W.frozen? ⟨w.heap.size + 1 + 1, 3, none⟩ = false ∧ W.frozen? ⟨w.heap.size + 1 + 1, 4, none⟩ = false ∧ W.frozen? ⟨w.heap.size + 1 + 1, 5, none⟩ = false ∧ W.frozen? ⟨w.heap.size + 1 + 1, 6, none⟩ = false ∧ W.frozen? ⟨w.heap.size + 1 + 1, 7, none⟩ = false :=
  ⟨by rw [blk_cell h.tb]; rfl, by rw [blk_cell h.tb]; rfl, by rw [blk_cell h.tb]; rfl, by rw [blk_cell h.tb]; rfl, by rw [blk_cell h.tb]; rfl, by rw [blk_cell h.tb]; rfl, by rw [blk_cell h.tb]; rfl, by rw [blk_cell h.wb]; rfl, by rw [blk_cell h.wb]; rfl, by rw [blk_cell h.wb]; rfl, by rw [blk_cell h.wb]; rfl, by rw [blk_cell h.wb]; rfl, by rw [blk_cell h.wb]; rfl, by rw [blk_cell h.wb]; rfl, by rw [blk_cell h.wb]; rfl, blk_free h.wb 0, blk_free h.wb 1, blk_free h.wb 2, blk_free h.wb 3, blk_free h.wb 4, blk_free h.wb 5, blk_free h.wb 6, blk_free h.wb 7, by rw [blk_cell h.rb]; rfl, by rw [blk_cell h.rb]; rfl, by rw [blk_cell h.rb]; rfl, by rw [blk_cell h.rb]; rfl, by rw [blk_cell h.rb]; rfl, by rw [blk_cell h.rb]; rfl, by rw [blk_cell h.rb]; rfl, by rw [blk_cell h.rb]; rfl, blk_free h.rb 0, blk_free h.rb 1, blk_free h.rb 2, blk_free h.rb 3, blk_free h.rb 4, blk_free h.rb 5, blk_free h.rb 6, blk_free h.rb 7⟩
/-- Eight cells stored. -/
theorem box_set8 {w : World} {b : Nat} {T : TypeId} {z0 z1 z2 z3 z4 z5 z6 z7 : Value} (h : w.heap[b]? = some (.cells #[z0, z1, z2, z3, z4, z5, z6, z7] T (0, 0))) (y0 y1 y2 y3 y4 y5 y6 y7 : Value) : ((((((((w.setCell ⟨b, 0, none⟩ y0).setCell ⟨b, 1, none⟩ y1).setCell ⟨b, 2, none⟩ y2).setCell ⟨b, 3, none⟩ y3).setCell ⟨b, 4, none⟩ y4).setCell ⟨b, 5, none⟩ y5).setCell ⟨b, 6, none⟩ y6).setCell ⟨b, 7, none⟩ y7).heap[b]? = some (.cells #[y0, y1, y2, y3, y4, y5, y6, y7] T (0, 0)) := by
  have h0 : (w.setCell ⟨b, 0, none⟩ y0).heap[b]? = some (.cells #[y0, z1, z2, z3, z4, z5, z6, z7] T (0, 0)) := blk_set (o := 0) h y0
  generalize w.setCell ⟨b, 0, none⟩ y0 = w0 at h0 ⊢
  have h1 : (w0.setCell ⟨b, 1, none⟩ y1).heap[b]? = some (.cells #[y0, y1, z2, z3, z4, z5, z6, z7] T (0, 0)) := blk_set (o := 1) h0 y1
  generalize w0.setCell ⟨b, 1, none⟩ y1 = w1 at h1 ⊢
  have h2 : (w1.setCell ⟨b, 2, none⟩ y2).heap[b]? = some (.cells #[y0, y1, y2, z3, z4, z5, z6, z7] T (0, 0)) := blk_set (o := 2) h1 y2
  generalize w1.setCell ⟨b, 2, none⟩ y2 = w2 at h2 ⊢
  have h3 : (w2.setCell ⟨b, 3, none⟩ y3).heap[b]? = some (.cells #[y0, y1, y2, y3, z4, z5, z6, z7] T (0, 0)) := blk_set (o := 3) h2 y3
  generalize w2.setCell ⟨b, 3, none⟩ y3 = w3 at h3 ⊢
  have h4 : (w3.setCell ⟨b, 4, none⟩ y4).heap[b]? = some (.cells #[y0, y1, y2, y3, y4, z5, z6, z7] T (0, 0)) := blk_set (o := 4) h3 y4
  generalize w3.setCell ⟨b, 4, none⟩ y4 = w4 at h4 ⊢
  have h5 : (w4.setCell ⟨b, 5, none⟩ y5).heap[b]? = some (.cells #[y0, y1, y2, y3, y4, y5, z6, z7] T (0, 0)) := blk_set (o := 5) h4 y5
  generalize w4.setCell ⟨b, 5, none⟩ y5 = w5 at h5 ⊢
  have h6 : (w5.setCell ⟨b, 6, none⟩ y6).heap[b]? = some (.cells #[y0, y1, y2, y3, y4, y5, y6, z7] T (0, 0)) := blk_set (o := 6) h5 y6
  generalize w5.setCell ⟨b, 6, none⟩ y6 = w6 at h6 ⊢
  exact blk_set (o := 7) h6 y7
theorem far8 {w : World} {k b : Nat} (hne : k ≠ b) (y0 y1 y2 y3 y4 y5 y6 y7 : Value) : ((((((((w.setCell ⟨b, 0, none⟩ y0).setCell ⟨b, 1, none⟩ y1).setCell ⟨b, 2, none⟩ y2).setCell ⟨b, 3, none⟩ y3).setCell ⟨b, 4, none⟩ y4).setCell ⟨b, 5, none⟩ y5).setCell ⟨b, 6, none⟩ y6).setCell ⟨b, 7, none⟩ y7).heap[k]? = w.heap[k]? := by
  rw [blk_far (a := ⟨b, 7, none⟩) hne, blk_far (a := ⟨b, 6, none⟩) hne, blk_far (a := ⟨b, 5, none⟩) hne, blk_far (a := ⟨b, 4, none⟩) hne, blk_far (a := ⟨b, 3, none⟩) hne, blk_far (a := ⟨b, 2, none⟩) hne, blk_far (a := ⟨b, 1, none⟩) hne, blk_far (a := ⟨b, 0, none⟩) hne]
theorem turn8 {S : Nat → Prop} {w W : World} {b : Nat} (h : Turn S w W) (hb : w.heap.size ≤ b) (y0 y1 y2 y3 y4 y5 y6 y7 : Value) : Turn S w ((((((((W.setCell ⟨b, 0, none⟩ y0).setCell ⟨b, 1, none⟩ y1).setCell ⟨b, 2, none⟩ y2).setCell ⟨b, 3, none⟩ y3).setCell ⟨b, 4, none⟩ y4).setCell ⟨b, 5, none⟩ y5).setCell ⟨b, 6, none⟩ y6).setCell ⟨b, 7, none⟩ y7) := by
  have hs : ∀ (X : World), Turn S w X → ∀ (o : Nat) (v : Value), Turn S w (X.setCell ⟨b, o, none⟩ v) := fun X hX o v => hX.setCell (p := ⟨b, o, none⟩) (fun q => absurd q (by show ¬ b < _; omega)) v
  exact hs _ (hs _ (hs _ (hs _ (hs _ (hs _ (hs _ (hs _ h 0 y0) 1 y1) 2 y2) 3 y3) 4 y4) 5 y5) 6 y6) 7 y7
/-- What comes back stands in its box: the rest is as it was. -/
theorem Ch.out8 {T : TypeId} {W : World} {b r n g : Nat} {L : Nat → Int} (h : Ch T W b r n L) (hb : b ≠ g) (hr : r ≠ g) (y0 y1 y2 y3 y4 y5 y6 y7 : Value) : Ch T ((((((((W.setCell ⟨g, 0, none⟩ y0).setCell ⟨g, 1, none⟩ y1).setCell ⟨g, 2, none⟩ y2).setCell ⟨g, 3, none⟩ y3).setCell ⟨g, 4, none⟩ y4).setCell ⟨g, 5, none⟩ y5).setCell ⟨g, 6, none⟩ y6).setCell ⟨g, 7, none⟩ y7) b r n L := by
  obtain ⟨cur, h1, h2, h3⟩ := h.row
  exact ⟨(far8 hb y0 y1 y2 y3 y4 y5 y6 y7).trans h.str, ⟨cur, (far8 hr y0 y1 y2 y3 y4 y5 y6 y7).trans h1, h2, h3⟩, h.ne, h.few, h.wf⟩
theorem cells8 {w : World} {b : Nat} {T : TypeId} {y0 y1 y2 y3 y4 y5 y6 y7 : Value} (h : w.heap[b]? = some (.cells #[y0, y1, y2, y3, y4, y5, y6, y7] T (0, 0))) : w.cell? ⟨b, 0, none⟩ = some y0 ∧ w.cell? ⟨b, 1, none⟩ = some y1 ∧ w.cell? ⟨b, 2, none⟩ = some y2 ∧ w.cell? ⟨b, 3, none⟩ = some y3 ∧ w.cell? ⟨b, 4, none⟩ = some y4 ∧ w.cell? ⟨b, 5, none⟩ = some y5 ∧ w.cell? ⟨b, 6, none⟩ = some y6 ∧ w.cell? ⟨b, 7, none⟩ = some y7 :=
  ⟨by rw [blk_cell h]; rfl, by rw [blk_cell h]; rfl, by rw [blk_cell h]; rfl, by rw [blk_cell h]; rfl, by rw [blk_cell h]; rfl, by rw [blk_cell h]; rfl, by rw [blk_cell h]; rfl, by rw [blk_cell h]; rfl⟩
end Go.Proofs.Ytfifgojbihdhcaa

/-
  The walks over a tick of a job's work.
-/
namespace Go.Proofs.Ytfifgojbihdhcaa
open Go.RowKit Go.Maps

set_option maxRecDepth 100000 in
set_option maxHeartbeats 4000000 in
theorem may_step (x : TV) (rel dn dm db rl : Int) (p : Nat → Bool) (w : World) : Calls Try.prog 30 #[.agg #[.int .i64 x.id, .int .i64 x.c, .int .i64 x.d, .int .i64 x.t, .int .i64 x.p, .slice x.a1 x.ch.length x.c1, .slice x.a2 x.us.length x.c2], .int .i64 rel, .agg #[.int .i64 dn, .int .i64 dm, .int .i64 db, .int .i64 rl, .int .u64 (wd p 0), .int .u64 (wd p 1), .int .u64 (wd p 2), .int .u64 (wd p 3)]] w fun e w' => e = .returned (.bool (decide (Fits x.id rel ⟨dn, dm, db, rl, p⟩))) ∧ Below w.heap.size w w' := by
  have M := Lib.hid (may_any x.id)
  obtain ⟨q, hq⟩ : ∃ q, decide (Fits x.id rel ⟨dn, dm, db, rl, p⟩) = q := ⟨_, rfl⟩
  rw [hq]
  have HQ := Lib.hid hq
  clear hq
  generalize wd p = y
  by_cases h0 : okOwn x.id
  · skip
    rw [decide_eq_true h0] at M
    by_cases h1 : 0 ≤ rel
    · skip
      have d1 : decide (0 ≤ rel) = true := decide_eq_true h1
      by_cases h2 : rel ≤ 1000
      · skip
        have d2 : decide (rel ≤ 1000) = true := decide_eq_true h2
        by_cases h3 : 0 ≤ dn
        · skip
          have d3 : decide (0 ≤ dn) = true := decide_eq_true h3
          by_cases h4 : dn < dm
          · skip
            have d4 : decide (dn < dm) = true := decide_eq_true h4
            by_cases h5 : 0 ≤ db
            · skip
              have d5 : decide (0 ≤ db) = true := decide_eq_true h5
              obtain rfl : q = true := by rw [← HQ.out]; exact decide_eq_true ⟨h0, h1, h2, h3, h4, h5⟩
              clear HQ h0
              go_enter Try.func30, Try.ntmps30
              go_wp2_with (go_at_call 29; refine (M.out _).mono ?_; rintro e w1 ⟨rfl, rfl⟩)
              go_ret
              exact ⟨rfl, (by repeat (first | exact Below.refl _ _ | (with_reducible assumption) | refine bw_alloc ?_ _ | refine bw_drew ?_))⟩
            · skip
              obtain rfl : q = false := by rw [← HQ.out]; exact decide_eq_false (fun z => h5 z.2.2.2.2.2)
              have d5 : decide (0 ≤ db) = false := decide_eq_false h5
              clear HQ h0
              go_enter Try.func30, Try.ntmps30
              go_wp2_with (go_at_call 29; refine (M.out _).mono ?_; rintro e w1 ⟨rfl, rfl⟩)
              go_ret
              exact ⟨rfl, (by repeat (first | exact Below.refl _ _ | (with_reducible assumption) | refine bw_alloc ?_ _ | refine bw_drew ?_))⟩
          · skip
            obtain rfl : q = false := by rw [← HQ.out]; exact decide_eq_false (fun z => h4 z.2.2.2.2.1)
            have d4 : decide (dn < dm) = false := decide_eq_false h4
            clear HQ h0
            go_enter Try.func30, Try.ntmps30
            go_wp2_with (go_at_call 29; refine (M.out _).mono ?_; rintro e w1 ⟨rfl, rfl⟩)
            go_ret
            exact ⟨rfl, (by repeat (first | exact Below.refl _ _ | (with_reducible assumption) | refine bw_alloc ?_ _ | refine bw_drew ?_))⟩
        · skip
          obtain rfl : q = false := by rw [← HQ.out]; exact decide_eq_false (fun z => h3 z.2.2.2.1)
          have d3 : decide (0 ≤ dn) = false := decide_eq_false h3
          clear HQ h0
          go_enter Try.func30, Try.ntmps30
          go_wp2_with (go_at_call 29; refine (M.out _).mono ?_; rintro e w1 ⟨rfl, rfl⟩)
          go_ret
          exact ⟨rfl, (by repeat (first | exact Below.refl _ _ | (with_reducible assumption) | refine bw_alloc ?_ _ | refine bw_drew ?_))⟩
      · skip
        obtain rfl : q = false := by rw [← HQ.out]; exact decide_eq_false (fun z => h2 z.2.2.1)
        have d2 : decide (rel ≤ 1000) = false := decide_eq_false h2
        clear HQ h0
        go_enter Try.func30, Try.ntmps30
        go_wp2_with (go_at_call 29; refine (M.out _).mono ?_; rintro e w1 ⟨rfl, rfl⟩)
        go_ret
        exact ⟨rfl, (by repeat (first | exact Below.refl _ _ | (with_reducible assumption) | refine bw_alloc ?_ _ | refine bw_drew ?_))⟩
    · skip
      obtain rfl : q = false := by rw [← HQ.out]; exact decide_eq_false (fun z => h1 z.2.1)
      have d1 : decide (0 ≤ rel) = false := decide_eq_false h1
      clear HQ h0
      go_enter Try.func30, Try.ntmps30
      go_wp2_with (go_at_call 29; refine (M.out _).mono ?_; rintro e w1 ⟨rfl, rfl⟩)
      go_ret
      exact ⟨rfl, (by repeat (first | exact Below.refl _ _ | (with_reducible assumption) | refine bw_alloc ?_ _ | refine bw_drew ?_))⟩
  · skip
    obtain rfl : q = false := by rw [← HQ.out]; exact decide_eq_false (fun z => h0 z.1)
    rw [decide_eq_false h0] at M
    clear HQ h0
    go_enter Try.func30, Try.ntmps30
    go_wp2_with (go_at_call 29; refine (M.out _).mono ?_; rintro e w1 ⟨rfl, rfl⟩)
    go_ret
    exact ⟨rfl, (by repeat (first | exact Below.refl _ _ | (with_reducible assumption) | refine bw_alloc ?_ _ | refine bw_drew ?_))⟩

/-- What a tick has ready to come back. -/
structure Outs (T : TypeId) (w : World) (b r n : Nat) (L : Nat → Int) (W : World) : Prop where
  low : Turn (fun k => k = r) w W
  rb : W.heap[w.heap.size + 1 + 1]? = some (.cells #[.int .i64 0, .int .i64 0, .int .i64 0, .int .i64 0, .int .u64 0, .int .u64 0, .int .u64 0, .int .u64 0] WT (0, 0))
  ch : Ch T W b r n L
  bl : b < w.heap.size
  rl : r < w.heap.size
theorem Outs.put {T : TypeId} {w W : World} {b r n : Nat} {L : Nat → Int} (h : Outs T w b r n L W) (o : Nat) (v : Value) : Outs T w b r n L (W.setCell ⟨w.heap.size + 1, o, none⟩ v) := by
  have h1 := h.bl
  have h2 := h.rl
  refine ⟨h.low.setCell (p := ⟨w.heap.size + 1, o, none⟩) (fun q => absurd q (by show ¬ w.heap.size + 1 < _; omega)) v, (blk_far (a := ⟨w.heap.size + 1, o, none⟩) (by show w.heap.size + 1 + 1 ≠ w.heap.size + 1; omega) v).trans h.rb, ?_, h1, h2⟩
  obtain ⟨cur, h3, h4, h5⟩ := h.ch.row
  exact ⟨(blk_far (a := ⟨w.heap.size + 1, o, none⟩) (by show b ≠ w.heap.size + 1; omega) v).trans h.ch.str, ⟨cur, (blk_far (a := ⟨w.heap.size + 1, o, none⟩) (by show r ≠ w.heap.size + 1; omega) v).trans h3, h4, h5⟩, h.ch.ne, h.ch.few, h.ch.wf⟩
/-- A set is used. -/
theorem used {T : TypeId} {w W : World} {x : TV} {a b c d : Int} {y : Nat → Nat} {g r n : Nat} {L : Nat → Int} (h : StepAt (fun k => k = r) w x a b c d y W) (hc : Ch T W g r n L) (hr : r < w.heap.size) {i : Nat} (hi : i < n) {o : Int} (ho : okOwn o) :
    StepAt (fun k => k = r) w x a b c d y (W.setCell ⟨r, i, none⟩ (.int .i64 o)).drew ∧ Ch T (W.setCell ⟨r, i, none⟩ (.int .i64 o)).drew g r n (putL L i o) :=
  ⟨(h.turn (Turn.setCell (S := fun k => k = r) (p := ⟨r, i, none⟩) (Turn.refl _ W) (fun _ => rfl) _) hr).below (bw_drew (Below.refl _ _)), (hc.put hi ho).below (bw_drew (Below.refl _ _))⟩
theorem Outs.ends {T : TypeId} {w W : World} {b r n : Nat} {L : Nat → Int} (h : Outs T w b r n L W) (y0 y1 y2 y3 y4 y5 y6 y7 : Value) :
    (((((((((W.setCell ⟨(w.heap.size + 1 + 1), 0, none⟩ y0).setCell ⟨(w.heap.size + 1 + 1), 1, none⟩ y1).setCell ⟨(w.heap.size + 1 + 1), 2, none⟩ y2).setCell ⟨(w.heap.size + 1 + 1), 3, none⟩ y3).setCell ⟨(w.heap.size + 1 + 1), 4, none⟩ y4).setCell ⟨(w.heap.size + 1 + 1), 5, none⟩ y5).setCell ⟨(w.heap.size + 1 + 1), 6, none⟩ y6).setCell ⟨(w.heap.size + 1 + 1), 7, none⟩ y7).cell? ⟨w.heap.size + 1 + 1, 0, none⟩ = some y0 ∧ ((((((((W.setCell ⟨(w.heap.size + 1 + 1), 0, none⟩ y0).setCell ⟨(w.heap.size + 1 + 1), 1, none⟩ y1).setCell ⟨(w.heap.size + 1 + 1), 2, none⟩ y2).setCell ⟨(w.heap.size + 1 + 1), 3, none⟩ y3).setCell ⟨(w.heap.size + 1 + 1), 4, none⟩ y4).setCell ⟨(w.heap.size + 1 + 1), 5, none⟩ y5).setCell ⟨(w.heap.size + 1 + 1), 6, none⟩ y6).setCell ⟨(w.heap.size + 1 + 1), 7, none⟩ y7).cell? ⟨w.heap.size + 1 + 1, 1, none⟩ = some y1 ∧ ((((((((W.setCell ⟨(w.heap.size + 1 + 1), 0, none⟩ y0).setCell ⟨(w.heap.size + 1 + 1), 1, none⟩ y1).setCell ⟨(w.heap.size + 1 + 1), 2, none⟩ y2).setCell ⟨(w.heap.size + 1 + 1), 3, none⟩ y3).setCell ⟨(w.heap.size + 1 + 1), 4, none⟩ y4).setCell ⟨(w.heap.size + 1 + 1), 5, none⟩ y5).setCell ⟨(w.heap.size + 1 + 1), 6, none⟩ y6).setCell ⟨(w.heap.size + 1 + 1), 7, none⟩ y7).cell? ⟨w.heap.size + 1 + 1, 2, none⟩ = some y2 ∧ ((((((((W.setCell ⟨(w.heap.size + 1 + 1), 0, none⟩ y0).setCell ⟨(w.heap.size + 1 + 1), 1, none⟩ y1).setCell ⟨(w.heap.size + 1 + 1), 2, none⟩ y2).setCell ⟨(w.heap.size + 1 + 1), 3, none⟩ y3).setCell ⟨(w.heap.size + 1 + 1), 4, none⟩ y4).setCell ⟨(w.heap.size + 1 + 1), 5, none⟩ y5).setCell ⟨(w.heap.size + 1 + 1), 6, none⟩ y6).setCell ⟨(w.heap.size + 1 + 1), 7, none⟩ y7).cell? ⟨w.heap.size + 1 + 1, 3, none⟩ = some y3 ∧ ((((((((W.setCell ⟨(w.heap.size + 1 + 1), 0, none⟩ y0).setCell ⟨(w.heap.size + 1 + 1), 1, none⟩ y1).setCell ⟨(w.heap.size + 1 + 1), 2, none⟩ y2).setCell ⟨(w.heap.size + 1 + 1), 3, none⟩ y3).setCell ⟨(w.heap.size + 1 + 1), 4, none⟩ y4).setCell ⟨(w.heap.size + 1 + 1), 5, none⟩ y5).setCell ⟨(w.heap.size + 1 + 1), 6, none⟩ y6).setCell ⟨(w.heap.size + 1 + 1), 7, none⟩ y7).cell? ⟨w.heap.size + 1 + 1, 4, none⟩ = some y4 ∧ ((((((((W.setCell ⟨(w.heap.size + 1 + 1), 0, none⟩ y0).setCell ⟨(w.heap.size + 1 + 1), 1, none⟩ y1).setCell ⟨(w.heap.size + 1 + 1), 2, none⟩ y2).setCell ⟨(w.heap.size + 1 + 1), 3, none⟩ y3).setCell ⟨(w.heap.size + 1 + 1), 4, none⟩ y4).setCell ⟨(w.heap.size + 1 + 1), 5, none⟩ y5).setCell ⟨(w.heap.size + 1 + 1), 6, none⟩ y6).setCell ⟨(w.heap.size + 1 + 1), 7, none⟩ y7).cell? ⟨w.heap.size + 1 + 1, 5, none⟩ = some y5 ∧ ((((((((W.setCell ⟨(w.heap.size + 1 + 1), 0, none⟩ y0).setCell ⟨(w.heap.size + 1 + 1), 1, none⟩ y1).setCell ⟨(w.heap.size + 1 + 1), 2, none⟩ y2).setCell ⟨(w.heap.size + 1 + 1), 3, none⟩ y3).setCell ⟨(w.heap.size + 1 + 1), 4, none⟩ y4).setCell ⟨(w.heap.size + 1 + 1), 5, none⟩ y5).setCell ⟨(w.heap.size + 1 + 1), 6, none⟩ y6).setCell ⟨(w.heap.size + 1 + 1), 7, none⟩ y7).cell? ⟨w.heap.size + 1 + 1, 6, none⟩ = some y6 ∧ ((((((((W.setCell ⟨(w.heap.size + 1 + 1), 0, none⟩ y0).setCell ⟨(w.heap.size + 1 + 1), 1, none⟩ y1).setCell ⟨(w.heap.size + 1 + 1), 2, none⟩ y2).setCell ⟨(w.heap.size + 1 + 1), 3, none⟩ y3).setCell ⟨(w.heap.size + 1 + 1), 4, none⟩ y4).setCell ⟨(w.heap.size + 1 + 1), 5, none⟩ y5).setCell ⟨(w.heap.size + 1 + 1), 6, none⟩ y6).setCell ⟨(w.heap.size + 1 + 1), 7, none⟩ y7).cell? ⟨w.heap.size + 1 + 1, 7, none⟩ = some y7) ∧ Ch T ((((((((W.setCell ⟨(w.heap.size + 1 + 1), 0, none⟩ y0).setCell ⟨(w.heap.size + 1 + 1), 1, none⟩ y1).setCell ⟨(w.heap.size + 1 + 1), 2, none⟩ y2).setCell ⟨(w.heap.size + 1 + 1), 3, none⟩ y3).setCell ⟨(w.heap.size + 1 + 1), 4, none⟩ y4).setCell ⟨(w.heap.size + 1 + 1), 5, none⟩ y5).setCell ⟨(w.heap.size + 1 + 1), 6, none⟩ y6).setCell ⟨(w.heap.size + 1 + 1), 7, none⟩ y7) b r n L ∧ Turn (fun k => k = r) w ((((((((W.setCell ⟨(w.heap.size + 1 + 1), 0, none⟩ y0).setCell ⟨(w.heap.size + 1 + 1), 1, none⟩ y1).setCell ⟨(w.heap.size + 1 + 1), 2, none⟩ y2).setCell ⟨(w.heap.size + 1 + 1), 3, none⟩ y3).setCell ⟨(w.heap.size + 1 + 1), 4, none⟩ y4).setCell ⟨(w.heap.size + 1 + 1), 5, none⟩ y5).setCell ⟨(w.heap.size + 1 + 1), 6, none⟩ y6).setCell ⟨(w.heap.size + 1 + 1), 7, none⟩ y7) := by
  have h1 := h.bl
  have h2 := h.rl
  exact ⟨cells8 (box_set8 h.rb y0 y1 y2 y3 y4 y5 y6 y7), h.ch.out8 (by omega) (by omega) y0 y1 y2 y3 y4 y5 y6 y7, turn8 h.low (by omega) y0 y1 y2 y3 y4 y5 y6 y7⟩

set_option maxRecDepth 100000 in
set_option maxHeartbeats 8000000 in
theorem work_any (x : TV) (rel dn dm db rl : Int) (p : Nat → Bool) (w : World) {b r n : Nat} {L : Nat → Int} (h : Ch CT w b r n L) (hx : x.ok w) (hf : Fits x.id rel ⟨dn, dm, db, rl, p⟩) (hm : dm ≤ 9223372036854775807) :
    Calls Try.prog 31 #[.pointer (some ⟨b, 0, none⟩), .agg #[.int .i64 x.id, .int .i64 x.c, .int .i64 x.d, .int .i64 x.t, .int .i64 x.p, .slice x.a1 x.ch.length x.c1, .slice x.a2 x.us.length x.c2], .int .i64 rel, .agg #[.int .i64 dn, .int .i64 dm, .int .i64 db, .int .i64 rl, .int .u64 (wd p 0), .int .u64 (wd p 1), .int .u64 (wd p 2), .int .u64 (wd p 3)]] w (StepBack CT b r n (workL n L x.id (accOf x dn).1 (accOf x dn).2) (workW n L x.id (accOf x dn).1 (accOf x dn).2 rel ⟨dn, dm, db, rl, p⟩) w) := by
  obtain ⟨hf0, hf1, hf2, hf3, hf4, hf5⟩ := hf
  dsimp only at hf3 hf4 hf5
  have AC := Lib.hid (fun W (hW : Below w.heap.size w W) => acc_any x dn W (hx.below hW))
  generalize (accOf x dn).2 = u at AC ⊢
  generalize (accOf x dn).1 = s at AC ⊢
  have hn := h.few
  have HC := Lib.hid (fun W (hW : Below w.heap.size w W) => chas_any (h.below hW) s)
  have BL := Lib.hid h.lt.1
  have RL := Lib.hid h.lt.2
  have CH := Lib.hid h
  have H0 := Lib.hid (stepAt_new (fun k => k = r) w x dn dm db rl (wd p))
  obtain ⟨t0, t1, t2, t3, t4, t5, t6, q0, q1, q2, q3, q4, q5, q6, q7, f0, f1, f2, f3, f4, f5, f6, f7, r0, r1, r2, r3, r4, r5, r6, r7, g0, g1, g2, g3, g4, g5, g6, g7⟩ := H0.out.facts
  have u1 : IntKind.i64.wrap (dn + 1) = dn + 1 := IntWalk.i64_in _ (by omega)
  have u2 : IntKind.i64.wrap (rel - 1) = rel - 1 := IntWalk.i64_in _ (by omega)
  obtain ⟨rl', hrl⟩ : ∃ rl', IntKind.i64.wrap (rl + 1) = rl' := ⟨_, rfl⟩
  have HRL := Lib.hid hrl
  clear hx hm hf1 hf2 hf3 hf4 hf5
  by_cases hu : u = true
  · subst hu
    by_cases hs : okSet n s
    · have e2 : workL n L x.id s true = putL L s x.id := by unfold workL; rw [if_pos ⟨rfl, hs⟩]
      have US := Lib.hid (fun W (hW : Below w.heap.size w W) => cuse_any (h.below hW) s x.id)
      unfold UseBack at US
      have e3 : useL n L s x.id = putL L s x.id := by unfold useL; rw [if_pos ⟨hs, hf0⟩]
      have e4 : useB n L s x.id = decide (L s.toNat = x.id) := by unfold useB; rw [if_pos ⟨hs, hf0⟩]
      rw [e3, e4] at US
      have HB := Lib.hid (fun W => has_any p s (by have := hs.2; omega) W)
      have WI := Lib.hid (fun W => with_any p s (by have := hs.2; omega) W)
      rw [decide_eq_true hs] at HC
      rw [e2]
      have HS := Lib.hid hs
      clear e2 e3 e4 h hf0 hs
      by_cases hk : L s.toNat = x.id
      · rw [decide_eq_true hk] at US
        rw [show workW n L x.id s true rel ⟨dn, dm, db, rl, p⟩ = (⟨dn + 1, dm, db, rl, bitUp p s⟩, false) by unfold workW; rw [if_pos ⟨rfl, HS.out⟩, if_neg (fun z => z.1 hk)]]
        unfold StepBack
        dsimp only
        unfold bitUp
        clear HB hk
        generalize wd (orP p (oneP s)) = z at *
        generalize wd p = y at *
        go_enter Try.func31, Try.ntmps31
        go_wp2_with (first
          | (go_at_call 40; (refine (AC.out _ (by repeat (first | exact Below.refl _ _ | (with_reducible assumption) | refine bw_alloc ?_ _ | refine bw_drew ?_))).mono ?_); rintro e w1 ⟨rfl, b1⟩; have H1 := Lib.hid (H0.out.below b1); obtain ⟨t0, t1, t2, t3, t4, t5, t6, q0, q1, q2, q3, q4, q5, q6, q7, f0, f1, f2, f3, f4, f5, f6, f7, r0, r1, r2, r3, r4, r5, r6, r7, g0, g1, g2, g3, g4, g5, g6, g7⟩ := H1.out.facts; have B1 := Lib.hid (below_up ((by repeat (first | exact Below.refl _ _ | (with_reducible assumption) | refine bw_alloc ?_ _ | refine bw_drew ?_)) : Below w.heap.size w _) b1); clear b1)
          | (go_at_call 28; (refine (HC.out _ B1.out).mono ?_); rintro e w2 ⟨rfl, rfl⟩)
          | (go_at_call 12; (refine (US.out _ B1.out).mono ?_); rintro e w3 ⟨rfl, c3, k3⟩; have H3 := Lib.hid (H1.out.turn k3 RL.out); have C3 := Lib.hid c3; obtain ⟨t0, t1, t2, t3, t4, t5, t6, q0, q1, q2, q3, q4, q5, q6, q7, f0, f1, f2, f3, f4, f5, f6, f7, r0, r1, r2, r3, r4, r5, r6, r7, g0, g1, g2, g3, g4, g5, g6, g7⟩ := H3.out.facts; clear c3 k3)
          | (go_at_call 41; (refine (HB.out _).mono ?_); rintro e w4 ⟨rfl, b4⟩; have H4 := Lib.hid (H3.out.below b4); have C4 := Lib.hid (C3.out.below b4); obtain ⟨t0, t1, t2, t3, t4, t5, t6, q0, q1, q2, q3, q4, q5, q6, q7, f0, f1, f2, f3, f4, f5, f6, f7, r0, r1, r2, r3, r4, r5, r6, r7, g0, g1, g2, g3, g4, g5, g6, g7⟩ := H4.out.facts; clear b4)
          | (go_at_call 35; (refine (WI.out _).mono ?_); rintro e w5 ⟨rfl, b5⟩; have H5 := Lib.hid (H3.out.below b5); have C5 := Lib.hid (C3.out.below b5); obtain ⟨t0, t1, t2, t3, t4, t5, t6, q0, q1, q2, q3, q4, q5, q6, q7, f0, f1, f2, f3, f4, f5, f6, f7, r0, r1, r2, r3, r4, r5, r6, r7, g0, g1, g2, g3, g4, g5, g6, g7⟩ := H5.out.facts; clear b5))
        obtain ⟨⟨s0, s1, s2, s3, s4, s5, s6, s7⟩, hC, hT⟩ := ((((((⟨H5.out.low, H5.out.rb, C5.out, BL.out, RL.out⟩ : Outs CT w b r n (putL L s x.id) w5).put 4 (.int .u64 (z 0))).put 5 (.int .u64 (z 1))).put 6 (.int .u64 (z 2))).put 7 (.int .u64 (z 3))).put 0 (.int .i64 (dn + 1))).ends (.int .i64 (dn + 1)) (.int .i64 dm) (.int .i64 db) (.int .i64 rl) (.int .u64 (z 0)) (.int .u64 (z 1)) (.int .u64 (z 2)) (.int .u64 (z 3))
        exact bodyPost_ret (v := .tuple #[.agg #[.int .i64 (dn + 1), .int .i64 dm, .int .i64 (db), .int .i64 rl, .int .u64 (z 0), .int .u64 (z 1), .int .u64 (z 2), .int .u64 (z 3)], .bool false]) (by simp [results, Try.results31, go_sem, s0, s1, s2, s3, s4, s5, s6, s7]) rfl ⟨rfl, hC, hT⟩
      · rw [decide_eq_false hk] at US
        have CASES : (rel ≤ 0 ∧ True) ∨ (0 < rel ∧ hasP p s = false) ∨ (0 < rel ∧ hasP p s = true) := by
          by_cases q : rel ≤ 0
          · exact .inl ⟨q, trivial⟩
          · cases e : hasP p s
            · exact .inr (.inl ⟨by omega, rfl⟩)
            · exact .inr (.inr ⟨by omega, rfl⟩)
        rcases CASES with ⟨hr, _⟩ | ⟨hr, hq⟩ | ⟨hr, hq⟩
        · rw [show workW n L x.id s true rel ⟨dn, dm, db, rl, p⟩ = (⟨dn + 1, dm, db, rl, bitUp p s⟩, false) by unfold workW; rw [if_pos ⟨rfl, HS.out⟩, if_neg (fun z => absurd z.2.1 (by omega))]]
          unfold StepBack
          dsimp only
          unfold bitUp
          have d1 : decide (0 < rel) = false := decide_eq_false (by omega)
          have d2 : ¬ 0 < rel := by omega
          clear HB hk
          generalize wd (orP p (oneP s)) = z at *
          generalize wd p = y at *
          go_enter Try.func31, Try.ntmps31
          go_wp2_with (first
            | (go_at_call 40; (refine (AC.out _ (by repeat (first | exact Below.refl _ _ | (with_reducible assumption) | refine bw_alloc ?_ _ | refine bw_drew ?_))).mono ?_); rintro e w1 ⟨rfl, b1⟩; have H1 := Lib.hid (H0.out.below b1); obtain ⟨t0, t1, t2, t3, t4, t5, t6, q0, q1, q2, q3, q4, q5, q6, q7, f0, f1, f2, f3, f4, f5, f6, f7, r0, r1, r2, r3, r4, r5, r6, r7, g0, g1, g2, g3, g4, g5, g6, g7⟩ := H1.out.facts; have B1 := Lib.hid (below_up ((by repeat (first | exact Below.refl _ _ | (with_reducible assumption) | refine bw_alloc ?_ _ | refine bw_drew ?_)) : Below w.heap.size w _) b1); clear b1)
            | (go_at_call 28; (refine (HC.out _ B1.out).mono ?_); rintro e w2 ⟨rfl, rfl⟩)
            | (go_at_call 12; (refine (US.out _ B1.out).mono ?_); rintro e w3 ⟨rfl, c3, k3⟩; have H3 := Lib.hid (H1.out.turn k3 RL.out); have C3 := Lib.hid c3; obtain ⟨t0, t1, t2, t3, t4, t5, t6, q0, q1, q2, q3, q4, q5, q6, q7, f0, f1, f2, f3, f4, f5, f6, f7, r0, r1, r2, r3, r4, r5, r6, r7, g0, g1, g2, g3, g4, g5, g6, g7⟩ := H3.out.facts; clear c3 k3)
            | (go_at_call 41; (refine (HB.out _).mono ?_); rintro e w4 ⟨rfl, b4⟩; have H4 := Lib.hid (H3.out.below b4); have C4 := Lib.hid (C3.out.below b4); obtain ⟨t0, t1, t2, t3, t4, t5, t6, q0, q1, q2, q3, q4, q5, q6, q7, f0, f1, f2, f3, f4, f5, f6, f7, r0, r1, r2, r3, r4, r5, r6, r7, g0, g1, g2, g3, g4, g5, g6, g7⟩ := H4.out.facts; clear b4)
            | (go_at_call 35; (refine (WI.out _).mono ?_); rintro e w5 ⟨rfl, b5⟩; have H5 := Lib.hid (H3.out.below b5); have C5 := Lib.hid (C3.out.below b5); obtain ⟨t0, t1, t2, t3, t4, t5, t6, q0, q1, q2, q3, q4, q5, q6, q7, f0, f1, f2, f3, f4, f5, f6, f7, r0, r1, r2, r3, r4, r5, r6, r7, g0, g1, g2, g3, g4, g5, g6, g7⟩ := H5.out.facts; clear b5))
          obtain ⟨⟨s0, s1, s2, s3, s4, s5, s6, s7⟩, hC, hT⟩ := ((((((⟨H5.out.low, H5.out.rb, C5.out, BL.out, RL.out⟩ : Outs CT w b r n (putL L s x.id) w5).put 4 (.int .u64 (z 0))).put 5 (.int .u64 (z 1))).put 6 (.int .u64 (z 2))).put 7 (.int .u64 (z 3))).put 0 (.int .i64 (dn + 1))).ends (.int .i64 (dn + 1)) (.int .i64 dm) (.int .i64 db) (.int .i64 rl) (.int .u64 (z 0)) (.int .u64 (z 1)) (.int .u64 (z 2)) (.int .u64 (z 3))
          exact bodyPost_ret (v := .tuple #[.agg #[.int .i64 (dn + 1), .int .i64 dm, .int .i64 (db), .int .i64 rl, .int .u64 (z 0), .int .u64 (z 1), .int .u64 (z 2), .int .u64 (z 3)], .bool false]) (by simp [results, Try.results31, go_sem, s0, s1, s2, s3, s4, s5, s6, s7]) rfl ⟨rfl, hC, hT⟩
        · rw [show workW n L x.id s true rel ⟨dn, dm, db, rl, p⟩ = (⟨dn + 1, dm, db, rl, bitUp p s⟩, false) by unfold workW; rw [if_pos ⟨rfl, HS.out⟩, if_neg (fun z => by rw [hq] at z; cases z.2.2)]]
          unfold StepBack
          dsimp only
          unfold bitUp
          rw [hq] at HB
          clear hk hq
          generalize wd (orP p (oneP s)) = z at *
          generalize wd p = y at *
          go_enter Try.func31, Try.ntmps31
          go_wp2_with (first
            | (go_at_call 40; (refine (AC.out _ (by repeat (first | exact Below.refl _ _ | (with_reducible assumption) | refine bw_alloc ?_ _ | refine bw_drew ?_))).mono ?_); rintro e w1 ⟨rfl, b1⟩; have H1 := Lib.hid (H0.out.below b1); obtain ⟨t0, t1, t2, t3, t4, t5, t6, q0, q1, q2, q3, q4, q5, q6, q7, f0, f1, f2, f3, f4, f5, f6, f7, r0, r1, r2, r3, r4, r5, r6, r7, g0, g1, g2, g3, g4, g5, g6, g7⟩ := H1.out.facts; have B1 := Lib.hid (below_up ((by repeat (first | exact Below.refl _ _ | (with_reducible assumption) | refine bw_alloc ?_ _ | refine bw_drew ?_)) : Below w.heap.size w _) b1); clear b1)
            | (go_at_call 28; (refine (HC.out _ B1.out).mono ?_); rintro e w2 ⟨rfl, rfl⟩)
            | (go_at_call 12; (refine (US.out _ B1.out).mono ?_); rintro e w3 ⟨rfl, c3, k3⟩; have H3 := Lib.hid (H1.out.turn k3 RL.out); have C3 := Lib.hid c3; obtain ⟨t0, t1, t2, t3, t4, t5, t6, q0, q1, q2, q3, q4, q5, q6, q7, f0, f1, f2, f3, f4, f5, f6, f7, r0, r1, r2, r3, r4, r5, r6, r7, g0, g1, g2, g3, g4, g5, g6, g7⟩ := H3.out.facts; clear c3 k3)
            | (go_at_call 41; (refine (HB.out _).mono ?_); rintro e w4 ⟨rfl, b4⟩; have H4 := Lib.hid (H3.out.below b4); have C4 := Lib.hid (C3.out.below b4); obtain ⟨t0, t1, t2, t3, t4, t5, t6, q0, q1, q2, q3, q4, q5, q6, q7, f0, f1, f2, f3, f4, f5, f6, f7, r0, r1, r2, r3, r4, r5, r6, r7, g0, g1, g2, g3, g4, g5, g6, g7⟩ := H4.out.facts; clear b4)
            | (go_at_call 35; (refine (WI.out _).mono ?_); rintro e w5 ⟨rfl, b5⟩; have H5 := Lib.hid (H4.out.below b5); have C5 := Lib.hid (C4.out.below b5); obtain ⟨t0, t1, t2, t3, t4, t5, t6, q0, q1, q2, q3, q4, q5, q6, q7, f0, f1, f2, f3, f4, f5, f6, f7, r0, r1, r2, r3, r4, r5, r6, r7, g0, g1, g2, g3, g4, g5, g6, g7⟩ := H5.out.facts; clear b5))
          obtain ⟨⟨s0, s1, s2, s3, s4, s5, s6, s7⟩, hC, hT⟩ := ((((((⟨H5.out.low, H5.out.rb, C5.out, BL.out, RL.out⟩ : Outs CT w b r n (putL L s x.id) w5).put 4 (.int .u64 (z 0))).put 5 (.int .u64 (z 1))).put 6 (.int .u64 (z 2))).put 7 (.int .u64 (z 3))).put 0 (.int .i64 (dn + 1))).ends (.int .i64 (dn + 1)) (.int .i64 dm) (.int .i64 db) (.int .i64 rl) (.int .u64 (z 0)) (.int .u64 (z 1)) (.int .u64 (z 2)) (.int .u64 (z 3))
          exact bodyPost_ret (v := .tuple #[.agg #[.int .i64 (dn + 1), .int .i64 dm, .int .i64 (db), .int .i64 rl, .int .u64 (z 0), .int .u64 (z 1), .int .u64 (z 2), .int .u64 (z 3)], .bool false]) (by simp [results, Try.results31, go_sem, s0, s1, s2, s3, s4, s5, s6, s7]) rfl ⟨rfl, hC, hT⟩
        · rw [show workW n L x.id s true rel ⟨dn, dm, db, rl, p⟩ = (⟨dn, dm, rel - 1, wUp rl, p⟩, true) by unfold workW; rw [if_pos ⟨rfl, HS.out⟩, if_pos ⟨hk, hr, hq⟩]]
          unfold StepBack
          dsimp only
          unfold wUp
          rw [hrl]
          rw [hq] at HB
          clear WI hk hq
          generalize wd p = y at *
          go_enter Try.func31, Try.ntmps31
          go_wp2_with (first
            | (go_at_call 40; (refine (AC.out _ (by repeat (first | exact Below.refl _ _ | (with_reducible assumption) | refine bw_alloc ?_ _ | refine bw_drew ?_))).mono ?_); rintro e w1 ⟨rfl, b1⟩; have H1 := Lib.hid (H0.out.below b1); obtain ⟨t0, t1, t2, t3, t4, t5, t6, q0, q1, q2, q3, q4, q5, q6, q7, f0, f1, f2, f3, f4, f5, f6, f7, r0, r1, r2, r3, r4, r5, r6, r7, g0, g1, g2, g3, g4, g5, g6, g7⟩ := H1.out.facts; have B1 := Lib.hid (below_up ((by repeat (first | exact Below.refl _ _ | (with_reducible assumption) | refine bw_alloc ?_ _ | refine bw_drew ?_)) : Below w.heap.size w _) b1); clear b1)
            | (go_at_call 28; (refine (HC.out _ B1.out).mono ?_); rintro e w2 ⟨rfl, rfl⟩)
            | (go_at_call 12; (refine (US.out _ B1.out).mono ?_); rintro e w3 ⟨rfl, c3, k3⟩; have H3 := Lib.hid (H1.out.turn k3 RL.out); have C3 := Lib.hid c3; obtain ⟨t0, t1, t2, t3, t4, t5, t6, q0, q1, q2, q3, q4, q5, q6, q7, f0, f1, f2, f3, f4, f5, f6, f7, r0, r1, r2, r3, r4, r5, r6, r7, g0, g1, g2, g3, g4, g5, g6, g7⟩ := H3.out.facts; clear c3 k3)
            | (go_at_call 41; (refine (HB.out _).mono ?_); rintro e w4 ⟨rfl, b4⟩; have H4 := Lib.hid (H3.out.below b4); have C4 := Lib.hid (C3.out.below b4); obtain ⟨t0, t1, t2, t3, t4, t5, t6, q0, q1, q2, q3, q4, q5, q6, q7, f0, f1, f2, f3, f4, f5, f6, f7, r0, r1, r2, r3, r4, r5, r6, r7, g0, g1, g2, g3, g4, g5, g6, g7⟩ := H4.out.facts; clear b4)
            | (go_at_call 35; (refine (WI.out _).mono ?_); rintro e w5 ⟨rfl, b5⟩; have H5 := Lib.hid (H4.out.below b5); have C5 := Lib.hid (C4.out.below b5); obtain ⟨t0, t1, t2, t3, t4, t5, t6, q0, q1, q2, q3, q4, q5, q6, q7, f0, f1, f2, f3, f4, f5, f6, f7, r0, r1, r2, r3, r4, r5, r6, r7, g0, g1, g2, g3, g4, g5, g6, g7⟩ := H5.out.facts; clear b5))
          obtain ⟨⟨s0, s1, s2, s3, s4, s5, s6, s7⟩, hC, hT⟩ := (((⟨H4.out.low, H4.out.rb, C4.out, BL.out, RL.out⟩ : Outs CT w b r n (putL L s x.id) w4).put 2 (.int .i64 (rel - 1))).put 3 (.int .i64 rl')).ends (.int .i64 dn) (.int .i64 dm) (.int .i64 (rel - 1)) (.int .i64 rl') (.int .u64 (y 0)) (.int .u64 (y 1)) (.int .u64 (y 2)) (.int .u64 (y 3))
          exact bodyPost_ret (v := .tuple #[.agg #[.int .i64 (dn), .int .i64 dm, .int .i64 (rel - 1), .int .i64 rl', .int .u64 (y 0), .int .u64 (y 1), .int .u64 (y 2), .int .u64 (y 3)], .bool true]) (by simp [results, Try.results31, go_sem, s0, s1, s2, s3, s4, s5, s6, s7]) rfl ⟨rfl, hC, hT⟩
    · rw [show workL n L x.id s true = L by unfold workL; rw [if_neg (fun z => hs z.2)]]
      rw [show workW n L x.id s true rel ⟨dn, dm, db, rl, p⟩ = (⟨dn + 1, dm, db, rl, p⟩, false) by unfold workW; rw [if_neg (fun z => hs z.2)]]
      unfold StepBack
      dsimp only
      rw [decide_eq_false hs] at HC
      clear h hf0 hs
      generalize wd p = y at *
      go_enter Try.func31, Try.ntmps31
      go_wp2_with (first
        | (go_at_call 40; (refine (AC.out _ (by repeat (first | exact Below.refl _ _ | (with_reducible assumption) | refine bw_alloc ?_ _ | refine bw_drew ?_))).mono ?_); rintro e w1 ⟨rfl, b1⟩; have H1 := Lib.hid (H0.out.below b1); obtain ⟨t0, t1, t2, t3, t4, t5, t6, q0, q1, q2, q3, q4, q5, q6, q7, f0, f1, f2, f3, f4, f5, f6, f7, r0, r1, r2, r3, r4, r5, r6, r7, g0, g1, g2, g3, g4, g5, g6, g7⟩ := H1.out.facts; have B1 := Lib.hid (below_up ((by repeat (first | exact Below.refl _ _ | (with_reducible assumption) | refine bw_alloc ?_ _ | refine bw_drew ?_)) : Below w.heap.size w _) b1); clear b1)
        | (go_at_call 28; (refine (HC.out _ B1.out).mono ?_); rintro e w2 ⟨rfl, rfl⟩))
      obtain ⟨⟨s0, s1, s2, s3, s4, s5, s6, s7⟩, hC, hT⟩ := ((⟨H1.out.low, H1.out.rb, CH.out.below B1.out, BL.out, RL.out⟩ : Outs CT w b r n L w2).put 0 (.int .i64 (dn + 1))).ends (.int .i64 (dn + 1)) (.int .i64 dm) (.int .i64 db) (.int .i64 rl) (.int .u64 (y 0)) (.int .u64 (y 1)) (.int .u64 (y 2)) (.int .u64 (y 3))
      exact bodyPost_ret (v := .tuple #[.agg #[.int .i64 (dn + 1), .int .i64 dm, .int .i64 (db), .int .i64 rl, .int .u64 (y 0), .int .u64 (y 1), .int .u64 (y 2), .int .u64 (y 3)], .bool false]) (by simp [results, Try.results31, go_sem, s0, s1, s2, s3, s4, s5, s6, s7]) rfl ⟨rfl, hC, hT⟩
  · obtain rfl : u = false := by cases u; rfl; exact absurd rfl hu
    rw [show workL n L x.id s false = L by unfold workL; rw [if_neg (fun z => by cases z.1)]]
    rw [show workW n L x.id s false rel ⟨dn, dm, db, rl, p⟩ = (⟨dn + 1, dm, db, rl, p⟩, false) by unfold workW; rw [if_neg (fun z => by cases z.1)]]
    unfold StepBack
    dsimp only
    clear h hf0 hu HC
    generalize wd p = y at *
    go_enter Try.func31, Try.ntmps31
    go_wp2_with (go_at_call 40; (refine (AC.out _ (by repeat (first | exact Below.refl _ _ | (with_reducible assumption) | refine bw_alloc ?_ _ | refine bw_drew ?_))).mono ?_); rintro e w1 ⟨rfl, b1⟩; have H1 := Lib.hid (H0.out.below b1); obtain ⟨t0, t1, t2, t3, t4, t5, t6, q0, q1, q2, q3, q4, q5, q6, q7, f0, f1, f2, f3, f4, f5, f6, f7, r0, r1, r2, r3, r4, r5, r6, r7, g0, g1, g2, g3, g4, g5, g6, g7⟩ := H1.out.facts; have B1 := Lib.hid (below_up ((by repeat (first | exact Below.refl _ _ | (with_reducible assumption) | refine bw_alloc ?_ _ | refine bw_drew ?_)) : Below w.heap.size w _) b1); clear b1)
    obtain ⟨⟨s0, s1, s2, s3, s4, s5, s6, s7⟩, hC, hT⟩ := ((⟨H1.out.low, H1.out.rb, CH.out.below B1.out, BL.out, RL.out⟩ : Outs CT w b r n L w1).put 0 (.int .i64 (dn + 1))).ends (.int .i64 (dn + 1)) (.int .i64 dm) (.int .i64 db) (.int .i64 rl) (.int .u64 (y 0)) (.int .u64 (y 1)) (.int .u64 (y 2)) (.int .u64 (y 3))
    exact bodyPost_ret (v := .tuple #[.agg #[.int .i64 (dn + 1), .int .i64 dm, .int .i64 (db), .int .i64 rl, .int .u64 (y 0), .int .u64 (y 1), .int .u64 (y 2), .int .u64 (y 3)], .bool false]) (by simp [results, Try.results31, go_sem, s0, s1, s2, s3, s4, s5, s6, s7]) rfl ⟨rfl, hC, hT⟩
end Go.Proofs.Ytfifgojbihdhcaa

/-
  The walk over the sets of a row that belong to one, told one by one.
-/
namespace Go.Proofs.Ytfifgojbihdhcaa
open Go.RowKit Go.Maps Go.Shelf
attribute [local go_sem] Oper.semAt_some

/-- What is kept: what is walked over, and some blocks of cells. -/
def KpS (S : Nat → Prop) (W W' : World) : Prop := KeepsWalks W W' ∧ ∀ k cs T fr, S k → W.heap[k]? = some (.cells cs T fr) → W'.heap[k]? = some (.cells cs T fr)
theorem kpS_t {S : Nat → Prop} {A B C : World} (h : KpS S A B) (k : KpS S B C) : KpS S A C := ⟨h.1.trans k.1, fun i cs T fr q z => k.2 i cs T fr q (h.2 i cs T fr q z)⟩
theorem kpS_b {S : Nat → Prop} {B : Nat} (W : World) (l : Nat) (o o' : Obj) (_ : B ≤ l) (h : W.heap[l]? = some o) (hc : o.isCells = false) (hw : o.isWalk = false) : KpS S W (W.putObj l o') := by
  refine ⟨KeepsWalks.putObj _ h hw, fun k cs T fr _ z => ?_⟩
  by_cases e : k = l
  · subst e
    rw [z] at h
    cases h
    cases hc
  · exact (World.putObj_heap_other e).trans z
/-- The sets of the first k that belong to o. -/
def ofsN (L : Nat → Int) (o : Int) (k : Nat) : List Int := ((List.range k).filter (fun i => decide (L i = o))).map (fun i : Nat => (i : Int))
theorem ofs_yes {L : Nat → Int} {o : Int} {k : Nat} (h : L k = o) : ofsN L o (k + 1) = ofsN L o k ++ [(k : Int)] := by unfold ofsN; rw [List.range_succ, List.filter_append]; simp [h]
theorem ofs_no {L : Nat → Int} {o : Int} {k : Nat} (h : ¬ L k = o) : ofsN L o (k + 1) = ofsN L o k := by unfold ofsN; rw [List.range_succ, List.filter_append]; simp [h]
theorem ofs_len (L : Nat → Int) (o : Int) (k : Nat) : (ofsN L o k).length ≤ k := by
  unfold ofsN; rw [List.length_map]; exact Nat.le_trans (List.length_filter_le _ _) (by simp)
/-- What the one that tells reads: its two boxes, the cache. -/
structure IterC (W : World) (Bc Bo b r n : Nat) (L : Nat → Int) (o : Int) : Prop where
  bc : W.heap[Bc]? = some (.cells #[.pointer (some ⟨b, 0, none⟩)] 31 (0, 0))
  bo : W.heap[Bo]? = some (.cells #[.int .i64 o] 3 (0, 0))
  ch : Ch CT W b r n L
def IterS (Bc Bo b r : Nat) (k : Nat) : Prop := k = Bc ∨ k = Bo ∨ k = b ∨ k = r
theorem IterC.kept {W W' : World} {Bc Bo b r n : Nat} {L : Nat → Int} {o : Int} (h : IterC W Bc Bo b r n L o) (hk : KpS (IterS Bc Bo b r) W W') : IterC W' Bc Bo b r n L o := by
  obtain ⟨cur, hb, h1, h2⟩ := h.ch.row
  exact ⟨hk.2 _ _ _ _ (.inl rfl) h.bc, hk.2 _ _ _ _ (.inr (.inl rfl)) h.bo, ⟨hk.2 _ _ _ _ (.inr (.inr (.inl rfl))) h.ch.str, ⟨cur, hk.2 _ _ _ _ (.inr (.inr (.inr rfl))) hb, h1, h2⟩, h.ch.ne, h.ch.few, h.ch.wf⟩⟩
theorem IterC.below {W W' : World} {Bc Bo b r n : Nat} {L : Nat → Int} {o : Int} (h : IterC W Bc Bo b r n L o) (hk : Below W.heap.size W W') : IterC W' Bc Bo b r n L o :=
  ⟨kept_obj hk h.bc, kept_obj hk h.bo, h.ch.below hk⟩
theorem grown_drew (W : World) : W.grownBy W.drew none := ⟨rfl, rfl, rfl, Nat.le_refl _, fun _ _ _ => rfl⟩
/-- One answer or the other one. -/
theorem told_or {e : Ending} {A B : Prop} (h : (e = .returned (.bool true) ∧ A) ∨ (e = .returned (.bool false) ∧ B)) : ∃ q, e = .returned (.bool q) ∧ Hid ((q = true → A) ∧ (q = false → B)) := by
  rcases h with ⟨h, a⟩ | ⟨h, b⟩
  · exact ⟨true, h, fun _ => a, fun q => by cases q⟩
  · exact ⟨false, h, fun q => by (cases q), fun _ => b⟩
theorem sets_fn : Fence.wide.fn 22 := trivial

set_option maxRecDepth 100000 in
set_option maxHeartbeats 4000000 in
theorem owned1_in (n : Nat) (hn : 1 ≤ n) (l Bc Bo b r m : Nat) (L : Nat → Int) (o : Int) (J Jx : List Int → World → Prop) (W : World) (hJ : AbidesFrom W.heap.size J)
    (hY : ∀ pre x W1, x ≤ 255 → J pre W1 → pre.length < 257 → YieldAt Fence.wide (n - 1) Try.prog l #[.int .i64 x] W1 fun e W' =>
      (e = .returned (.bool true) ∧ J (pre ++ [x]) W' ∧ KpS (IterS Bc Bo b r) W1 W') ∨ (e = .returned (.bool false) ∧ Jx (pre ++ [x]) W'))
    (hB : IterC W Bc Bo b r m L o) (h0 : J [] W) :
    CallsIn Fence.wide n Try.prog 42 #[.func (.yield l) #[] #[], .pointer (some ⟨Bc, 0, none⟩), .pointer (some ⟨Bo, 0, none⟩)] W fun e W' => (∃ v, e = .returned v) ∧
      ((∃ ys, ys = ofsN L o m ∧ J ys W') ∨ (∃ pre, True ∧ Jx pre W')) := by
  have HY := Lib.hid hY
  have HJ := Lib.hid hJ
  have HB0 := Lib.hid hB
  have H0 : Hid (J (ofsN L o 0) W) := h0
  have C := Lib.hid (sets_any hB.ch)
  have k0 : W.cell? ⟨Bc, 0, none⟩ = some (.pointer (some ⟨b, 0, none⟩)) := by rw [blk_cell hB.bc]; rfl
  have hm := hB.ch.few
  clear hY hJ hB h0
  refine callsIn_of_wp Try.func42 rfl trivial ?_ rfl
  simp only [Try.ntmps42, List.size_toArray, List.length_cons, List.length_nil, Nat.reduceAdd, Nat.reduceSub, Array.replicate_succ, Array.replicate_zero, List.push_toArray, List.append_toArray, List.nil_append, List.cons_append]
  gi_wp2_with ((with_reducible refine And.intro (a := Fence.wide.fn 22) sets_fn ?_); gi_at_call 22; (refine (callsIn_wide.2 C.out).mono ?_); rintro e w' ⟨rfl, rfl⟩)
  clear C
  gi_loopw [4, 7] (fun v u wr => ∃ k : Nat, k ≤ m ∧ u = .int .i64 k ∧ Hid (J (ofsN L o k) wr) ∧ Hid (IterC wr Bc Bo b r m L o)) (fun _ u _ => (m - intOf u).toNat)
  case atStart => exact ⟨0, by omega, rfl, H0, HB0⟩
  case round =>
    obtain ⟨k, hk, rfl, HJk, HI⟩ := hrel
    clear k0
    have k0 : wr.cell? ⟨Bc, 0, none⟩ = some (.pointer (some ⟨b, 0, none⟩)) := by rw [blk_cell HI.out.bc]; rfl
    have k1 : wr.cell? ⟨Bo, 0, none⟩ = some (.int .i64 o) := by rw [blk_cell HI.out.bo]; rfl
    have k2 := HI.out.ch.slice
    by_cases hlt : k < m
    · have k3 := HI.out.ch.row.cell hlt
      have hkt : decide ((k : Int) < m) = true := decide_eq_true (by omega)
      have hmix : Try.prog.follows .mixedOrders = true := by kernel_rfl
      by_cases ho : L k = o
      · have hd : (L k == o) = true := by simp [ho]
        obtain ⟨fn, tmps, assign, body, hy, hR⟩ := HY.out (ofsN L o k) (k : Int) wr.drew (by omega) (HJ.out _ _ _ none HJk.out (grown_drew wr) (fun _ q => by cases q)) (by have := ofs_len L o k; omega)
        have HR := Lib.hid hR
        have HE : Hid (ofsN L o (k + 1) = ofsN L o k ++ [(k : Int)]) := ofs_yes ho
        have HI2 : Hid (IterC wr.drew Bc Bo b r m L o) := HI.out.below (bw_drew (Below.refl _ _))
        clear ho HJk hR
        generalize L k = x at *
        gi_wp2
        gi_region_with_o ((refine HR.out.mono ?_); rintro e W3 h3; obtain ⟨q, rfl, H3⟩ := told_or h3; clear h3)
        all_goals
          cases q
          · have HX := Lib.hid (H3.out.2 rfl)
            clear H3
            gi_wp2
            refine bodyPost_ret (results_none rfl _ _ _) rfl ?_
            exact ⟨⟨_, rfl⟩, .inr ⟨_, trivial, HX.out⟩⟩
          · have HX := Lib.hid (H3.out.1 rfl)
            clear H3
            gi_wp2
            go_roundw
            case rel => exact ⟨k + 1, by omega, by go_num, by rw [HE.out]; exact HX.out.1, HI2.out.kept HX.out.2⟩
            case measure => simp [intOf]; omega
      · have hd : (L k == o) = false := by simp [ho]
        have HN : Hid (∀ q, J (ofsN L o (k + 1)) (wr.drewN q) ∧ IterC (wr.drewN q) Bc Bo b r m L o) := fun q => ⟨by rw [ofs_no ho]; exact HJ.out _ _ _ none HJk.out ⟨rfl, rfl, rfl, Nat.le_refl _, fun _ _ _ => rfl⟩ (fun _ q => by cases q), HI.out.below ⟨rfl, rfl, rfl, Nat.le_refl _, fun _ _ => rfl⟩⟩
        clear ho HJk
        generalize L k = x at *
        gi_wp2
        refine wpIn_wide.2 ?_
        go_quiet (fail)
        gi_wp2
        go_roundw
        case rel => exact ⟨k + 1, by omega, by go_num, (HN.out _).1, (HN.out _).2⟩
        case measure => simp [intOf]; omega
    · obtain rfl : k = m := by omega
      gi_wp2
      go_end0
      exact ⟨⟨_, rfl⟩, .inl ⟨_, rfl, HJk.out⟩⟩
/-- A set's number. -/
abbrev SetNo := { x : Int // x ≤ 255 }
theorem stops_of {n m : Nat} {lb : Array Value} {Kp : World → World → Prop} {S : List Int → Prop} {N : Nat} {gf : Nat} {w : World}
    (h : ∀ (l : Nat) (J Jx : List Int → World → Prop) (W : World), Below w.heap.size w W → AbidesFrom W.heap.size J →
      (∀ pre x W1, x ≤ 255 → J pre W1 → pre.length < N → YieldAt Fence.wide (n - 1) Try.prog l #[.int .i64 x] W1 fun e W' => (e = .returned (.bool true) ∧ J (pre ++ [x]) W' ∧ Kp W1 W') ∨ (e = .returned (.bool false) ∧ Jx (pre ++ [x]) W')) →
      J [] W → CallsIn Fence.wide n Try.prog gf (#[.func (.yield l) #[] #[]] ++ lb) W fun e W' => (∃ v, e = .returned v) ∧ ((∃ ys, S ys ∧ J ys W') ∨ (∃ pre, True ∧ Jx pre W'))) :
    SeqStopsK Fence.wide n Try.prog gf lb (fun x : SetNo => #[.int .i64 x.1]) Kp (fun ys => S (ys.map Subtype.val)) (fun _ => True) N w := fun l J Jx W hW hJ _ hY h0 => by
  refine (h l (fun pre W => ∃ ys : List SetNo, ys.map Subtype.val = pre ∧ J ys W) (fun pre W => ∃ ys : List SetNo, ys.map Subtype.val = pre ∧ Jx ys W) W hW (fun s X Y row ⟨ys, e, hs⟩ hg hr => ⟨ys, e, hJ ys X Y row hs hg hr⟩) ?_ ⟨[], rfl, h0⟩).mono ?_
  · rintro pre x W1 hx ⟨ys, rfl, hs⟩ hlt
    refine (hY ys ⟨x, hx⟩ W1 hs (by simpa using hlt)).mono ?_
    rintro e W' (⟨he, hj, hk⟩ | ⟨he, hj⟩)
    · exact .inl ⟨he, ⟨ys ++ [⟨x, hx⟩], by simp, hj⟩, hk⟩
    · exact .inr ⟨he, ⟨ys ++ [⟨x, hx⟩], by simp, hj⟩⟩
  · rintro e W' ⟨he, ⟨_, hS, ys, rfl, hj⟩ | ⟨_, _, ys, rfl, hj⟩⟩
    · exact ⟨he, .inl ⟨ys, hS, hj⟩⟩
    · exact ⟨he, .inr ⟨ys, trivial, hj⟩⟩
theorem owned1_stops (n : Nat) (hn : 1 ≤ n) (Bc Bo b r m : Nat) (L : Nat → Int) (o : Int) (w : World) (hB : IterC w Bc Bo b r m L o) :
    SeqStopsK Fence.wide n Try.prog 42 #[.pointer (some ⟨Bc, 0, none⟩), .pointer (some ⟨Bo, 0, none⟩)] (fun x : SetNo => #[.int .i64 x.1]) (KpS (IterS Bc Bo b r)) (fun ys => ys.map Subtype.val = ofsN L o m) (fun _ => True) 257 w :=
  stops_of (m := 0) (S := fun ys => ys = ofsN L o m) fun l J Jx W hW hJ hY h0 => owned1_in n hn l Bc Bo b r m L o J Jx W hJ hY (hB.below hW) h0
set_option maxRecDepth 100000 in
set_option maxHeartbeats 2000000 in
/-- Of no cache none are told. -/
theorem owned1_nil (n : Nat) (hn : 1 ≤ n) (Bc Bo : Nat) (o : Int) (w : World) (bc : w.heap[Bc]? = some (.cells #[.pointer none] 31 (0, 0))) :
    SeqStopsK Fence.wide n Try.prog 42 #[.pointer (some ⟨Bc, 0, none⟩), .pointer (some ⟨Bo, 0, none⟩)] (fun x : SetNo => #[.int .i64 x.1]) (KpS (fun k => k = Bc ∨ k = Bo ∨ False)) (fun ys => ys.map Subtype.val = ofsN (fun _ => 0) o 0) (fun _ => True) 257 w :=
  stops_of (m := 0) (S := fun ys => ys = ofsN (fun _ => 0) o 0) fun l J Jx W hW hJ hY h0 => by
  have k0 : W.cell? ⟨Bc, 0, none⟩ = some (.pointer none) := by rw [blk_cell (kept_obj hW bc)]; rfl
  have H0 : Hid (J [] W) := h0
  have C := Lib.hid (sets_nil W)
  clear hJ hY bc h0 hW
  refine callsIn_of_wp Try.func42 rfl trivial ?_ rfl
  simp only [Try.ntmps42, List.size_toArray, List.length_cons, List.length_nil, Nat.reduceAdd, Nat.reduceSub, Array.replicate_succ, Array.replicate_zero, List.push_toArray, List.append_toArray, List.nil_append, List.cons_append]
  gi_wp2_with ((with_reducible refine And.intro (a := Fence.wide.fn 22) sets_fn ?_); gi_at_call 22; (refine (callsIn_wide.2 C.out).mono ?_); rintro e w' ⟨rfl, rfl⟩)
  clear C
  gi_loopw [4, 7] (fun v u wr => u = .int .i64 0 ∧ Hid (J [] wr)) (fun _ u _ => (0 - intOf u).toNat)
  case atStart => exact ⟨rfl, H0⟩
  case round =>
    obtain ⟨rfl, HJk⟩ := hrel
    clear k0
    gi_wp2
    go_end0
    exact ⟨⟨_, rfl⟩, .inl ⟨_, rfl, HJk.out⟩⟩
set_option maxRecDepth 100000 in
theorem owned_val (ad : Option Addr) (o : Int) (n : Nat) (w : World) :
    CallsIn Fence.wide n Try.prog 34 #[.pointer ad, .int .i64 o] w fun e w' => e = .returned (.func (.func 42) #[] #[.pointer (some ⟨w.heap.size, 0, none⟩), .pointer (some ⟨w.heap.size + 1, 0, none⟩)]) ∧ w' = (w.alloc (.cells #[.pointer ad] 31)).alloc (.cells #[.int .i64 o] 3) := by
  have hmf : ∀ (fn : Fn) (first cap : Array Value) (w : World), (Instr.makeFunc fn first cap).run Try.prog w = .ok (.func fn first cap) w := fun _ _ _ _ => rfl
  refine callsIn_of_wp Try.func34 rfl trivial ?_ rfl
  simp only [Try.ntmps34, List.size_toArray, List.length_cons, List.length_nil, Nat.reduceAdd, Nat.reduceSub, Array.replicate_succ, Array.replicate_zero, List.push_toArray, List.append_toArray, List.nil_append, List.cons_append]
  gi_wp2
  go_ret
  exact ⟨rfl, rfl⟩
end Go.Proofs.Ytfifgojbihdhcaa

/-
  The walk over all sets that belong to one.
-/
namespace Go.Proofs.Ytfifgojbihdhcaa
open Go.RowKit Go.Maps Go.Shelf
attribute [local go_sem] Oper.semAt_some

/-- The set of a row of numbers. -/
def setP (l : List Int) (i : Nat) : Bool := decide ((i : Int) ∈ l)
theorem setP_nil (k : Nat) : wd (setP []) k = 0 := by
  have : wd (setP []) k = wd noneP k := natOf_congr fun j _ => by simp [setP, noneP]
  rw [this, wd_none]
theorem setP_put (l : List Int) (x : Int) (k : Nat) : wd (orP (setP l) (oneP x)) k = wd (setP (l ++ [x])) k := natOf_congr fun j _ => by
  simp only [setP, orP, oneP, List.mem_append, List.mem_singleton, Bool.decide_or]
theorem setP_all {n : Nat} {L : Nat → Int} {o : Int} (ho : okOwn o) (hn : n ≤ 256) (k : Nat) : wd (setP (ofsN L o n)) k = wd (ofP n L o) k := natOf_congr fun j _ => by
  unfold setP ofP
  rw [decide_eq_true ho, Bool.true_and, ← Bool.decide_and, decide_eq_decide]
  unfold ofsN
  simp only [List.mem_map, List.mem_filter, List.mem_range, decide_eq_true_eq]
  constructor
  · rintro ⟨i, ⟨h1, h2⟩, h3⟩
    obtain rfl : i = 64 * k + j := by omega
    exact ⟨h1, h2⟩
  · rintro ⟨h1, h2⟩
    exact ⟨_, ⟨h1, h2⟩, rfl⟩
theorem of_none {n : Nat} {L : Nat → Int} {o : Int} (ho : ¬ okOwn o) (k : Nat) : wd (ofP n L o) k = 0 := by
  have : wd (ofP n L o) k = wd noneP k := natOf_congr fun j _ => by simp [ofP, noneP, ho]
  rw [this, wd_none]
theorem ofs_bound (L : Nat → Int) (o : Int) (n : Nat) (x : Int) (h : x ∈ ofsN L o n) : x < n := by
  simp only [ofsN, List.mem_map, List.mem_filter, List.mem_range] at h
  obtain ⟨i, ⟨h1, _⟩, rfl⟩ := h
  omega
theorem Blk4.four {w : World} {b x0 x1 x2 x3 : Nat} (h : Blk4 w b x0 x1 x2 x3) : Four w b x0 x1 x2 x3 := by
  obtain ⟨h0, h1, h2, h3⟩ := h.cells
  exact ⟨h0, h1, h2, h3, blk_free h 0, blk_free h 1, blk_free h 2, blk_free h 3⟩
theorem Blk4.below {w w' : World} {b x0 x1 x2 x3 : Nat} (h : Blk4 w b x0 x1 x2 x3) (hb : Below w.heap.size w w') : Blk4 w' b x0 x1 x2 x3 := kept_obj hb h
theorem Blk4.set {w : World} {b x0 x1 x2 x3 : Nat} (h : Blk4 w b x0 x1 x2 x3) (y0 y1 y2 y3 : Nat) : Blk4 ((((w.setCell ⟨b, 0, none⟩ (.int .u64 y0)).setCell ⟨b, 1, none⟩ (.int .u64 y1)).setCell ⟨b, 2, none⟩ (.int .u64 y2)).setCell ⟨b, 3, none⟩ (.int .u64 y3)) b y0 y1 y2 y3 := by
  have h1 : (w.setCell ⟨b, 0, none⟩ (.int .u64 y0)).heap[b]? = some (.cells #[.int .u64 y0, .int .u64 x1, .int .u64 x2, .int .u64 x3] 37 (0, 0)) := (blk_set h _).trans rfl
  have h2 : ((w.setCell ⟨b, 0, none⟩ (.int .u64 y0)).setCell ⟨b, 1, none⟩ (.int .u64 y1)).heap[b]? = some (.cells #[.int .u64 y0, .int .u64 y1, .int .u64 x2, .int .u64 x3] 37 (0, 0)) := (blk_set h1 _).trans rfl
  have h3 : (((w.setCell ⟨b, 0, none⟩ (.int .u64 y0)).setCell ⟨b, 1, none⟩ (.int .u64 y1)).setCell ⟨b, 2, none⟩ (.int .u64 y2)).heap[b]? = some (.cells #[.int .u64 y0, .int .u64 y1, .int .u64 y2, .int .u64 x3] 37 (0, 0)) := (blk_set h2 _).trans rfl
  exact (blk_set h3 _).trans rfl
theorem set4_far {w : World} {b k : Nat} (hne : k ≠ b) (y0 y1 y2 y3 : Value) : ((((w.setCell ⟨b, 0, none⟩ y0).setCell ⟨b, 1, none⟩ y1).setCell ⟨b, 2, none⟩ y2).setCell ⟨b, 3, none⟩ y3).heap[k]? = w.heap[k]? := by
  rw [blk_far (a := ⟨b, 3, none⟩) hne, blk_far (a := ⟨b, 2, none⟩) hne, blk_far (a := ⟨b, 1, none⟩) hne, blk_far (a := ⟨b, 0, none⟩) hne]
/-- The two boxes of a set that grows: the one that comes back, the set itself. -/
structure TwoSets (w : World) (p : List Int → Nat → Nat) (pre : List Int) (W : World) : Prop where
  res : Blk4 W w.heap.size 0 0 0 0
  all : Blk4 W (w.heap.size + 1) (p pre 0) (p pre 1) (p pre 2) (p pre 3)
  low : Below w.heap.size w W
theorem TwoSets.own {w : World} {p : List Int → Nat → Nat} {B : Nat} (hB : w.heap.size ≤ B) : OwnFrom B (TwoSets w p) := fun s X Y row hs hg hrow => by
  have e : ∀ b x0 x1 x2 x3, Blk4 X b x0 x1 x2 x3 → Blk4 Y b x0 x1 x2 x3 := fun b x0 x1 x2 x3 hb => by
    refine (hg.block b hb.lt (fun e => ?_)).trans hb
    obtain ⟨_, o, ho, hc⟩ := hrow b e.symm
    rw [show X.heap[b]? = _ from hb] at ho
    cases ho
    cases hc
  exact ⟨e _ _ _ _ _ hs.res, e _ _ _ _ _ hs.all, hs.low.grown hg hs.low.size (fun k hk => Nat.le_trans hB (hrow k hk).1)⟩
theorem TwoSets.alloc {w W : World} {p : List Int → Nat → Nat} {pre : List Int} (h : TwoSets w p pre W) (o : Obj) : TwoSets w p pre (W.alloc o) :=
  ⟨h.res.below ((Below.refl _ _).alloc (Nat.le_refl _) o), h.all.below ((Below.refl _ _).alloc (Nat.le_refl _) o), h.low.alloc h.low.size o⟩
theorem two_boxes (W : World) {N : Nat} (hN : W.heap.size = N) (c1 c2 : Obj) : ((W.alloc c1).alloc c2).heap[N]? = some c1 ∧ ((W.alloc c1).alloc c2).heap[N + 1]? = some c2 := by
  subst hN
  refine ⟨kept_obj ((Below.refl _ _).alloc (Nat.le_refl _) _) (heap_alloc_new W _), ?_⟩
  have := heap_alloc_new (W.alloc c1) c2
  rwa [World.size_alloc] at this
/-- A round of it. -/
theorem TwoSets.put {w W w3 : World} {p : List Int → Nat → Nat} {pre : List Int} {x : Int} (h : TwoSets w p pre W) (hb : Below W.heap.size W w3) {S : Nat → Prop} (hS : ∀ k, S k → k ≠ w.heap.size + 1) {y : Nat → Nat} (hy : ∀ k, y k = p (pre ++ [x]) k) {B : Nat} :
    KeepsFrom B W ((((w3.setCell ⟨w.heap.size + 1, 0, none⟩ (.int .u64 (y 0))).setCell ⟨w.heap.size + 1, 1, none⟩ (.int .u64 (y 1))).setCell ⟨w.heap.size + 1, 2, none⟩ (.int .u64 (y 2))).setCell ⟨w.heap.size + 1, 3, none⟩ (.int .u64 (y 3))) ∧
    KpS S W ((((w3.setCell ⟨w.heap.size + 1, 0, none⟩ (.int .u64 (y 0))).setCell ⟨w.heap.size + 1, 1, none⟩ (.int .u64 (y 1))).setCell ⟨w.heap.size + 1, 2, none⟩ (.int .u64 (y 2))).setCell ⟨w.heap.size + 1, 3, none⟩ (.int .u64 (y 3))) ∧
    TwoSets w p (pre ++ [x]) ((((w3.setCell ⟨w.heap.size + 1, 0, none⟩ (.int .u64 (y 0))).setCell ⟨w.heap.size + 1, 1, none⟩ (.int .u64 (y 1))).setCell ⟨w.heap.size + 1, 2, none⟩ (.int .u64 (y 2))).setCell ⟨w.heap.size + 1, 3, none⟩ (.int .u64 (y 3))) := by
  have hsz : ∀ y0 y1 y2 y3 : Value, ((((w3.setCell ⟨w.heap.size + 1, 0, none⟩ y0).setCell ⟨w.heap.size + 1, 1, none⟩ y1).setCell ⟨w.heap.size + 1, 2, none⟩ y2).setCell ⟨w.heap.size + 1, 3, none⟩ y3).heap.size = w3.heap.size := fun _ _ _ _ => by simp
  have hk : ∀ (k : Nat) (o : Obj), W.heap[k]? = some o → k ≠ w.heap.size + 1 → ((((w3.setCell ⟨w.heap.size + 1, 0, none⟩ (.int .u64 (y 0))).setCell ⟨w.heap.size + 1, 1, none⟩ (.int .u64 (y 1))).setCell ⟨w.heap.size + 1, 2, none⟩ (.int .u64 (y 2))).setCell ⟨w.heap.size + 1, 3, none⟩ (.int .u64 (y 3))).heap[k]? = some o := fun k o ho hne => by
    rw [set4_far hne]; exact kept_obj hb ho
  have hne : ∀ (k : Nat) (o : Obj), W.heap[k]? = some o → o.isCells = false → k ≠ w.heap.size + 1 := by
    rintro k o ho hc rfl
    rw [show W.heap[w.heap.size + 1]? = _ from h.all] at ho
    cases ho
    cases hc
  refine ⟨⟨by rw [hsz]; exact hb.size, fun k o _ ho hc => hk k o ho (hne k o ho hc)⟩, ⟨⟨by rw [hsz]; exact hb.size, fun k o ho hw => hk k o ho (hne k o ho (Obj.not_cells_of_walk hw))⟩, fun k cs T fr hs hc => hk k _ hc (hS k hs)⟩, ⟨?_, ?_, ?_⟩⟩
  · exact hk _ _ h.res (by omega)
  · have := (h.all.below hb).set (y 0) (y 1) (y 2) (y 3)
    rw [← hy 0, ← hy 1, ← hy 2, ← hy 3]
    exact this
  · have hs := h.low.size
    exact ((((below_up h.low hb).setCell (p := ⟨w.heap.size + 1, 0, none⟩) (Nat.le_succ _) _).setCell (p := ⟨w.heap.size + 1, 1, none⟩) (Nat.le_succ _) _).setCell (p := ⟨w.heap.size + 1, 2, none⟩) (Nat.le_succ _) _).setCell (p := ⟨w.heap.size + 1, 3, none⟩) (Nat.le_succ _) _

/-- What is told of one. -/
def OfBack (p : Nat → Bool) (w : World) (e : Ending) (w' : World) : Prop := e = .returned (.agg #[.int .u64 (wd p 0), .int .u64 (wd p 1), .int .u64 (wd p 2), .int .u64 (wd p 3)]) ∧ Below w.heap.size w w'

set_option maxRecDepth 100000 in
set_option maxHeartbeats 4000000 in
theorem of_no (v : Value) (n : Nat) (L : Nat → Int) (o : Int) (ho : ¬ okOwn o) (w : World) : Calls Try.prog 20 #[v, .int .i64 o] w (OfBack (ofP n L o) w) := by
  unfold OfBack
  rw [of_none ho, of_none ho, of_none ho, of_none ho]
  have M := Lib.hid (may_any o)
  rw [decide_eq_false ho] at M
  have FA := Lib.hid ((Four.new w 0 0 0 0 37).alloc (.cells #[.int .u64 0, .int .u64 0, .int .u64 0, .int .u64 0] 37))
  have HB := Lib.hid (((Below.refl w.heap.size w).alloc (Nat.le_refl _) (.cells #[.int .u64 0, .int .u64 0, .int .u64 0, .int .u64 0] 37)).alloc (by simp) (.cells #[.int .u64 0, .int .u64 0, .int .u64 0, .int .u64 0] 37))
  obtain ⟨a0, a1, a2, a3, c0, c1, c2, c3⟩ := FA.out
  go_enter Try.func20, Try.ntmps20
  go_wp2_with (go_at_call 29; refine (M.out _).mono ?_; rintro e w1 ⟨rfl, rfl⟩)
  refine bodyPost_ret (v := .agg #[.int .u64 0, .int .u64 0, .int .u64 0, .int .u64 0]) ?_ rfl ⟨rfl, ?_⟩
  · have e0 := World.cell?_alloc_new w #[.int .u64 0, .int .u64 0, .int .u64 0, .int .u64 0] 37
    have hl : w.heap.size < (w.alloc (.cells #[.int .u64 0, .int .u64 0, .int .u64 0, .int .u64 0] 37)).heap.size := by simp
    have s0 := World.cell?_alloc_lt (w.alloc (.cells #[.int .u64 0, .int .u64 0, .int .u64 0, .int .u64 0] 37)) (.cells #[.int .u64 0, .int .u64 0, .int .u64 0, .int .u64 0] 37) ⟨w.heap.size, 0, none⟩ hl
    have s1 := World.cell?_alloc_lt (w.alloc (.cells #[.int .u64 0, .int .u64 0, .int .u64 0, .int .u64 0] 37)) (.cells #[.int .u64 0, .int .u64 0, .int .u64 0, .int .u64 0] 37) ⟨w.heap.size, 1, none⟩ hl
    have s2 := World.cell?_alloc_lt (w.alloc (.cells #[.int .u64 0, .int .u64 0, .int .u64 0, .int .u64 0] 37)) (.cells #[.int .u64 0, .int .u64 0, .int .u64 0, .int .u64 0] 37) ⟨w.heap.size, 2, none⟩ hl
    have s3 := World.cell?_alloc_lt (w.alloc (.cells #[.int .u64 0, .int .u64 0, .int .u64 0, .int .u64 0] 37)) (.cells #[.int .u64 0, .int .u64 0, .int .u64 0, .int .u64 0] 37) ⟨w.heap.size, 3, none⟩ hl
    rw [e0] at s0 s1 s2 s3
    clear hl e0 a0 a1 a2 a3 c0 c1 c2 c3
    simp [results, Try.results20, go_sem, s0, s1, s2, s3]
  · exact HB.out

set_option maxRecDepth 100000 in
set_option maxHeartbeats 8000000 in
theorem of_core (ad : Option Addr) (n : Nat) (hn : n ≤ 256) (L : Nat → Int) (o : Int) (ho : okOwn o) (w : World) (T : Nat → Prop) (hT : ∀ k, T k → k < w.heap.size)
    (NU : Hid (∀ (n : Nat) (w : World), CallsIn Fence.wide n Try.prog 34 #[.pointer ad, .int .i64 o] w fun e w' => e = .returned (.func (.func 42) #[] #[.pointer (some ⟨w.heap.size, 0, none⟩), .pointer (some ⟨w.heap.size + 1, 0, none⟩)]) ∧ w' = (w.alloc (.cells #[.pointer ad] 31)).alloc (.cells #[.int .i64 o] 3)))
    (IT : Hid (∀ m, 1 ≤ m → ∀ (Bc Bo : Nat) W, Below w.heap.size w W → W.heap[Bc]? = some (.cells #[.pointer ad] 31 (0, 0)) → W.heap[Bo]? = some (.cells #[.int .i64 o] 3 (0, 0)) → SeqStopsK Fence.wide m Try.prog 42 #[.pointer (some ⟨Bc, 0, none⟩), .pointer (some ⟨Bo, 0, none⟩)] (fun x : SetNo => #[.int .i64 x.1]) (KpS (fun k => k = Bc ∨ k = Bo ∨ T k)) (fun ys => ys.map Subtype.val = ofsN L o n) (fun _ => True) 257 W)) :
    Calls Try.prog 20 #[.pointer ad, .int .i64 o] w (OfBack (ofP n L o) w) := by
  have M := Lib.hid (may_any o)
  rw [decide_eq_true ho] at M
  have HP := Lib.hid (fun k => @setP_all n L o ho hn k)
  have H0 := Lib.hid setP_nil
  have HN := Lib.hid setP_put
  have W1 := Lib.hid (fun (l : List Int) (x : Int) (hx : x ≤ 9223372036854775807) w => with_any (setP l) x hx w)
  obtain ⟨p, hp⟩ : ∃ p : List Int → Nat → Nat, ∀ l k, wd (setP l) k = p l k := ⟨_, fun _ _ => rfl⟩
  have hp2 : ∀ l x k, wd (orP (setP l) (oneP x)) k = p (l ++ [x]) k := fun l x k => by rw [setP_put, hp]
  simp only [hp, hp2] at HP H0 W1
  clear HN hp hp2
  have R0 : Blk4 ((w.alloc (.cells #[.int .u64 0, .int .u64 0, .int .u64 0, .int .u64 0] 37)).alloc (.cells #[.int .u64 0, .int .u64 0, .int .u64 0, .int .u64 0] 37)) w.heap.size 0 0 0 0 :=
    kept_obj ((Below.refl _ _).alloc (Nat.le_refl _) _) (heap_alloc_new w _)
  have R1 : Blk4 ((w.alloc (.cells #[.int .u64 0, .int .u64 0, .int .u64 0, .int .u64 0] 37)).alloc (.cells #[.int .u64 0, .int .u64 0, .int .u64 0, .int .u64 0] 37)) (w.heap.size + 1) 0 0 0 0 := by
    have := heap_alloc_new (w.alloc (.cells #[.int .u64 0, .int .u64 0, .int .u64 0, .int .u64 0] 37)) (.cells #[.int .u64 0, .int .u64 0, .int .u64 0, .int .u64 0] 37)
    rwa [World.size_alloc] at this
  have HT : Hid (TwoSets w p [] ((w.alloc (.cells #[.int .u64 0, .int .u64 0, .int .u64 0, .int .u64 0] 37)).alloc (.cells #[.int .u64 0, .int .u64 0, .int .u64 0, .int .u64 0] 37))) :=
    ⟨R0, by rw [H0.out, H0.out, H0.out, H0.out]; exact R1, (by repeat (first | exact Below.refl _ _ | (with_reducible assumption) | refine bw_alloc ?_ _ | refine bw_drew ?_))⟩
  have BX := Lib.hid (two_boxes ((w.alloc (.cells #[.int .u64 0, .int .u64 0, .int .u64 0, .int .u64 0] 37)).alloc (.cells #[.int .u64 0, .int .u64 0, .int .u64 0, .int .u64 0] 37)) (by rw [World.size_alloc, World.size_alloc] : _ = w.heap.size + 1 + 1) (.cells #[.pointer ad] 31) (.cells #[.int .i64 o] 3))
  clear R0 R1
  refine (callsIn_wide (n := 3)).1 ?_
  refine callsIn_of_wp_marks Try.func20 rfl trivial ?_ rfl
  simp only [Try.ntmps20, List.size_toArray, List.length_cons, List.length_nil, Nat.reduceAdd, Nat.reduceSub, Array.replicate_succ, Array.replicate_zero, List.push_toArray, List.append_toArray, List.nil_append, List.cons_append]
  gi_wp2_with (first
    | (refine ⟨trivial, ?_⟩; gi_at_call 29; (refine (callsIn_wide.2 (M.out _)).mono ?_); rintro e w1 ⟨rfl, rfl⟩)
    | (refine ⟨trivial, ?_⟩; gi_at_call 34; (refine (NU.out _ _).mono ?_); rintro e w' ⟨rfl, rfl⟩))
  refine wpIn_rangeFunc_ownG rfl (by omega) (gf := 42) (lb := #[.pointer (some ⟨w.heap.size + 1 + 1, 0, none⟩), .pointer (some ⟨w.heap.size + 1 + 1 + 1, 0, none⟩)]) rfl trivial (enters_of Try.func42 (by kernel_rfl) rfl)
    (IT.out _ (by omega) (w.heap.size + 1 + 1) (w.heap.size + 1 + 1 + 1) _ ((HT.out.alloc _).alloc _).low BX.out.1 BX.out.2) kpS_t kpS_b (Below.refl _ _) (fun _ => rfl)
    (fun (pre : List SetNo) W => TwoSets w p (pre.map Subtype.val) W) (fun _ _ _ => False) (fun s X Y row hs hg hr => TwoSets.own (by simp; omega) (s.map Subtype.val) X Y row hs hg hr) (fun _ _ _ _ _ hs _ _ => hs) ((HT.out.alloc _).alloc _)
    (fun x => { tmps := #[.pointer ad, .int .i64 o, undef, undef, .pointer (some ⟨w.heap.size, 0, none⟩), .pointer (some ⟨w.heap.size + 1, 0, none⟩), .int .i64 x.1, .int .i64 o, .bool true, .bool false, undef, .pointer ad, .int .i64 o, .func (.func 42) #[] #[.pointer (some ⟨w.heap.size + 1 + 1, 0, none⟩), .pointer (some ⟨w.heap.size + 1 + 1 + 1, 0, none⟩)], .int .i64 x.1, undef, undef, undef, undef], defers := [] }) ?assign ?body ?done ?stop
  case assign =>
    intro l x W K hK
    gi_wp2
    exact hK
  case body =>
    rintro l pre x W hI hlt
    obtain ⟨x, hx⟩ := x
    have C := Lib.hid (W1.out (pre.map Subtype.val) x (by omega))
    have HM : Hid ((pre ++ [(⟨x, hx⟩ : SetNo)]).map Subtype.val = pre.map Subtype.val ++ [x]) := by show _ = _; simp
    dsimp only at hI ⊢
    have HI := Lib.hid hI
    obtain ⟨a0, a1, a2, a3, _, _, _, _⟩ := hI.all.four
    clear hI HT NU IT M
    gi_wp2_with (refine ⟨trivial, ?_⟩; gi_at_call 35; (refine (CallsIn.inRound l (callsIn_wide.2 (C.out _))).mono ?_); rintro e w3 ⟨rfl, b3⟩; have HB3 := Lib.hid b3; obtain ⟨d0, d1, d2, d3, g0, g1, g2, g3⟩ := (HI.out.all.below b3).four; clear b3)
    obtain ⟨q1, q2, q3⟩ := HI.out.put HB3.out (S := fun k => k = w.heap.size + 1 + 1 ∨ k = w.heap.size + 1 + 1 + 1 ∨ T k) (fun k hk => by
      rcases hk with rfl | rfl | hk
      · omega
      · omega
      · have := hT k hk; omega) (B := ((((w.alloc (.cells #[.int .u64 0, .int .u64 0, .int .u64 0, .int .u64 0] 37)).alloc (.cells #[.int .u64 0, .int .u64 0, .int .u64 0, .int .u64 0] 37)).alloc (.cells #[.pointer ad] 31)).alloc (.cells #[.int .i64 o] 3)).heap.size) (fun _ => rfl)
    exact ⟨q1, q2, by show TwoSets w p ((pre ++ [(⟨x, hx⟩ : SetNo)]).map Subtype.val) _; rw [HM.out]; exact q3⟩
  case done =>
    rintro D ys W hD hys hI hK
    rw [hys] at hI
    have HI := Lib.hid hI
    obtain ⟨z0, z1, z2, z3, v0, v1, v2, v3⟩ := hI.res.four
    obtain ⟨a0, a1, a2, a3, _, _, _, _⟩ := hI.all.four
    clear hI hys NU IT M
    gi_wp2
    have hS := HI.out.res.set (p (ofsN L o n) 0) (p (ofsN L o n) 1) (p (ofsN L o n) 2) (p (ofsN L o n) 3)
    have hne : D ≠ w.heap.size := by simp at hD; omega
    have hK4 := hK
    rw [← set4_far hne (.int .u64 (p (ofsN L o n) 0)) (.int .u64 (p (ofsN L o n) 1)) (.int .u64 (p (ofsN L o n) 2)) (.int .u64 (p (ofsN L o n) 3))] at hK4
    have hBl := below_set4 (d := w.heap.size) HI.out.low (Nat.le_refl _) (p (ofsN L o n) 0) (p (ofsN L o n) 1) (p (ofsN L o n) 2) (p (ofsN L o n) 3)
    refine ⟨by simp, .inl ⟨_, _, rfl, run_takeDeferred hK4, ?_⟩⟩
    have hS2 := fun ob => (show Blk4 (World.putObj _ D ob) w.heap.size _ _ _ _ from (World.putObj_heap_other (Ne.symm hne)).trans hS)
    have s0 := fun ob => (hS2 ob).cells.1
    have s1 := fun ob => (hS2 ob).cells.2.1
    have s2 := fun ob => (hS2 ob).cells.2.2.1
    have s3 := fun ob => (hS2 ob).cells.2.2.2
    refine ⟨.agg #[.int .u64 (p (ofsN L o n) 0), .int .u64 (p (ofsN L o n) 1), .int .u64 (p (ofsN L o n) 2), .int .u64 (p (ofsN L o n) 3)], ?_, ?_⟩
    · simp [results, Try.results20, go_sem, s0, s1, s2, s3]
    · unfold OfBack
      rw [← HP.out, ← HP.out, ← HP.out, ← HP.out]
      exact ⟨rfl, hBl.trans (belowK_b (w := w) (Nat.le_refl _) _ D _ _ (by simp at hD; omega) hK4 rfl rfl)⟩
  case stop =>
    rintro D c pre W _ _ h _
    exact h.elim
theorem cof_any {w : World} {b r n : Nat} {L : Nat → Int} (h : Ch CT w b r n L) (o : Int) : Calls Try.prog 20 #[.pointer (some ⟨b, 0, none⟩), .int .i64 o] w (OfBack (ofP n L o) w) := by
  by_cases ho : okOwn o
  · refine of_core (some ⟨b, 0, none⟩) n h.few L o ho w (fun k => k = b ∨ k = r) (fun k q => by have := h.lt; omega) (Lib.hid fun m W => owned_val _ o m W) (Lib.hid fun m hm Bc Bo W hW h1 h2 => ?_)
    exact owned1_stops m hm Bc Bo b r n L o W ⟨h1, h2, h.below hW⟩
  · exact of_no _ n L o ho w
theorem cof_nil (o : Int) (w : World) : Calls Try.prog 20 #[.pointer none, .int .i64 o] w (OfBack noneP w) := by
  have key : Calls Try.prog 20 #[.pointer none, .int .i64 o] w (OfBack (ofP 0 (fun _ => 0) o) w) := by
    by_cases ho : okOwn o
    · exact of_core none 0 (by omega) (fun _ => 0) o ho w (fun _ => False) (fun k q => q.elim) (Lib.hid fun m W => owned_val _ o m W) (Lib.hid fun m hm Bc Bo W hW h1 h2 => owned1_nil m hm Bc Bo o W h1)
    · exact of_no _ 0 _ o ho w
  have e : ofP 0 (fun _ => 0) o = noneP := by funext i; simp [ofP, noneP]
  rwa [e] at key
end Go.Proofs.Ytfifgojbihdhcaa

/-
  The walks over the document's own cache: a new one, a use, an owner, a flush, the sets of one.
-/
namespace Go.Proofs.Ytfifgojbihdhcaa
open Go.RowKit Go.Maps

set_option maxHeartbeats 1000000 in
theorem rnew_any (n : Nat) (hn : n ≤ 256) (w : World) : Calls Try.prog 11 #[.int .i64 n] w (CacheBack RT n w) := by
  have hmk := make_row n hn
  go_enter Try.func11, Try.ntmps11
  go_wp2
  go_ret
  exact back_of hn w

set_option maxHeartbeats 2000000 in
theorem ruse_any {w : World} {b r n : Nat} {L : Nat → Int} (h : Ch RT w b r n L) (s o : Int) : Calls Try.prog 13 #[.pointer (some ⟨b, 0, none⟩), .int .i64 s, .int .i64 o] w (UseBack RT b r n L s o w) := by
  have H := Lib.hid h
  have c0 := h.slice
  by_cases h0 : 0 ≤ s
  · by_cases h1 : s < n
    · by_cases h2 : 1 ≤ o
      · by_cases h3 : o ≤ 99
        · obtain ⟨i, rfl⟩ : ∃ i : Nat, s = (i : Int) := ⟨s.toNat, by omega⟩
          have hi : i < n := by omega
          have HO : Hid (okOwn o) := ⟨h2, h3⟩
          have c1 := h.row.cell hi
          have f1 := h.row.free i
          obtain ⟨q, hqe⟩ : ∃ q, (L i == o) = q := ⟨_, rfl⟩
          have HQ := Lib.hid hqe
          have d0 : ¬ o < 1 := by omega
          have d1 : decide (99 < o) = false := decide_eq_false (by omega)
          clear h
          generalize L i = x at c1 hqe
          go_enter Try.func13, Try.ntmps13
          go_wp2
          go_ret
          exact use_puts H.out hi HO.out HQ.out (Below.refl _ _)
        · have d0 : ¬ o < 1 := by omega
          have d1 : decide (99 < o) = true := decide_eq_true (by omega)
          clear h
          go_enter Try.func13, Try.ntmps13
          go_wp2
          go_ret
          exact use_stays H.out (fun z => by have := z.2.2; omega)
      · have d0 : o < 1 := by omega
        clear h
        go_enter Try.func13, Try.ntmps13
        go_wp2
        go_ret
        exact use_stays H.out (fun z => by have := z.2.1; omega)
    · have d0 : ¬ s < 0 := by omega
      have d1 : (n : Int) ≤ s := by omega
      clear h
      go_enter Try.func13, Try.ntmps13
      go_wp2
      go_ret
      exact use_stays H.out (fun z => by have := z.1.2; omega)
  · have d0 : s < 0 := by omega
    clear h
    go_enter Try.func13, Try.ntmps13
    go_wp2
    go_ret
    exact use_stays H.out (fun z => by have := z.1.1; omega)

set_option maxHeartbeats 1000000 in
theorem rowner_any {w : World} {b r n : Nat} {L : Nat → Int} (h : Ch RT w b r n L) (s : Int) : Calls Try.prog 19 #[.pointer (some ⟨b, 0, none⟩), .int .i64 s] w fun e w' => e = .returned (.int .i64 (ownL n L s)) ∧ w' = w := by
  have c0 := h.slice
  unfold ownL
  by_cases h0 : 0 ≤ s
  · by_cases h1 : s < n
    · obtain ⟨i, rfl⟩ : ∃ i : Nat, s = (i : Int) := ⟨s.toNat, by omega⟩
      have hi : i < n := by omega
      rw [if_pos (show okSet n (i : Int) from ⟨h0, h1⟩), Int.toNat_natCast]
      have c1 := h.row.cell hi
      clear h
      generalize L i = x at c1 ⊢
      go_enter Try.func19, Try.ntmps19
      go_wp2
      go_ret
      exact ⟨rfl, rfl⟩
    · rw [if_neg (fun z : okSet n s => h1 z.2)]
      have d0 : ¬ s < 0 := by omega
      have d1 : (n : Int) ≤ s := by omega
      clear h
      go_enter Try.func19, Try.ntmps19
      go_wp2
      go_ret
      exact ⟨rfl, rfl⟩
  · rw [if_neg (fun z : okSet n s => h0 z.1)]
    have d0 : s < 0 := by omega
    clear h
    go_enter Try.func19, Try.ntmps19
    go_wp2
    go_ret
    exact ⟨rfl, rfl⟩

theorem flush_of {w : World} {b r n : Nat} {L : Nat → Int} (h : Ch RT w b r n L) : Ch RT ((w.setCell ⟨b, 0, none⟩ (.slice (some ⟨w.heap.size, 0, none⟩) n n)).alloc (.cells (madeCells #[.int .i64 0] n) 3)) b w.heap.size n (fun _ => 0) ∧ Turn (fun k => k = b) w ((w.setCell ⟨b, 0, none⟩ (.slice (some ⟨w.heap.size, 0, none⟩) n n)).alloc (.cells (madeCells #[.int .i64 0] n) 3)) := by
  have hl := h.lt.1
  have hs : (w.setCell ⟨b, 0, none⟩ (.slice (some ⟨w.heap.size, 0, none⟩) n n)).heap.size = w.heap.size := by simp
  refine ⟨⟨?_, ?_, by omega, h.few, fun _ => by unfold I64; omega⟩, ?_⟩
  · exact kept_obj ((Below.refl _ _).alloc (Nat.le_refl _) _) ((blk_set h.str _).trans rfl)
  · have := row_new (w.setCell ⟨b, 0, none⟩ (.slice (some ⟨w.heap.size, 0, none⟩) n n)) n
    rwa [hs] at this
  · exact (Turn.setCell (S := fun k => k = b) (p := ⟨b, 0, none⟩) (Turn.refl _ w) (fun _ => rfl) _).alloc _
set_option maxHeartbeats 1000000 in
theorem rflush_any {w : World} {b r n : Nat} {L : Nat → Int} (h : Ch RT w b r n L) : Calls Try.prog 15 #[.pointer (some ⟨b, 0, none⟩)] w fun e w' => e = .returned (.tuple #[]) ∧ Ch RT w' b w.heap.size n (fun _ => 0) ∧ Turn (fun k => k = b) w w' := by
  have hmk := make_row n h.few
  have c0 := h.slice
  have f0 := h.free
  have hl := h.lt.1
  have H := Lib.hid h
  clear h
  go_enter Try.func15, Try.ntmps15
  go_wp2
  go_end0
  exact ⟨rfl, flush_of H.out⟩

set_option maxRecDepth 100000 in
set_option maxHeartbeats 4000000 in
theorem rof_any {w : World} {b r n : Nat} {L : Nat → Int} (h : Ch RT w b r n L) (o : Int) : Calls Try.prog 21 #[.pointer (some ⟨b, 0, none⟩), .int .i64 o] w (OfBack (ofP n L o) w) := by
  have HN0 : Hid (¬ okOwn o → ∀ k, wd (ofP n L o) k = 0) := fun q k => of_none q k
  have HP := Lib.hid (fun (ho : okOwn o) k => @setP_all n L o ho h.few k)
  have H0 := Lib.hid setP_nil
  have W1 := Lib.hid (fun (l : List Int) (x : Int) w => rwith_any (setP l) x w)
  obtain ⟨p, hp⟩ : ∃ p : List Int → Nat → Nat, ∀ l k, wd (setP l) k = p l k := ⟨_, fun _ _ => rfl⟩
  have hp2 : ∀ l x k, wd (orP (setP l) (oneP x)) k = p (l ++ [x]) k := fun l x k => by rw [setP_put, hp]
  simp only [hp, hp2] at HP H0 W1
  clear hp hp2
  have R0 : Blk4 ((w.alloc (.cells #[.int .u64 0, .int .u64 0, .int .u64 0, .int .u64 0] 37)).alloc (.cells #[.int .u64 0, .int .u64 0, .int .u64 0, .int .u64 0] 37)) w.heap.size 0 0 0 0 :=
    kept_obj ((Below.refl _ _).alloc (Nat.le_refl _) _) (heap_alloc_new w _)
  have R1 : Blk4 ((w.alloc (.cells #[.int .u64 0, .int .u64 0, .int .u64 0, .int .u64 0] 37)).alloc (.cells #[.int .u64 0, .int .u64 0, .int .u64 0, .int .u64 0] 37)) (w.heap.size + 1) 0 0 0 0 := by
    have := heap_alloc_new (w.alloc (.cells #[.int .u64 0, .int .u64 0, .int .u64 0, .int .u64 0] 37)) (.cells #[.int .u64 0, .int .u64 0, .int .u64 0, .int .u64 0] 37)
    rwa [World.size_alloc] at this
  have HT : Hid (TwoSets w p (ofsN L o 0) ((w.alloc (.cells #[.int .u64 0, .int .u64 0, .int .u64 0, .int .u64 0] 37)).alloc (.cells #[.int .u64 0, .int .u64 0, .int .u64 0, .int .u64 0] 37))) :=
    ⟨R0, by show Blk4 _ _ (p [] 0) (p [] 1) (p [] 2) (p [] 3); rw [H0.out, H0.out, H0.out, H0.out]; exact R1, (by repeat (first | exact Below.refl _ _ | (with_reducible assumption) | refine bw_alloc ?_ _ | refine bw_drew ?_))⟩
  clear R0 R1
  have CH := Lib.hid h
  have c0 := h.slice
  have hn := h.few
  clear h
  have HE : Hid (∀ pre W, TwoSets w p pre W → ((okOwn o ∧ pre = ofsN L o n) ∨ (¬ okOwn o ∧ pre = [])) → OfBack (ofP n L o) w (.returned (.agg #[.int .u64 (p pre 0), .int .u64 (p pre 1), .int .u64 (p pre 2), .int .u64 (p pre 3)])) ((((W.setCell ⟨w.heap.size, 0, none⟩ (.int .u64 (p pre 0))).setCell ⟨w.heap.size, 1, none⟩ (.int .u64 (p pre 1))).setCell ⟨w.heap.size, 2, none⟩ (.int .u64 (p pre 2))).setCell ⟨w.heap.size, 3, none⟩ (.int .u64 (p pre 3)))) := by
    rintro pre W hW hq
    unfold OfBack
    refine ⟨?_, below_set4 (d := w.heap.size) hW.low (Nat.le_refl _) _ _ _ _⟩
    rcases hq with ⟨ho, rfl⟩ | ⟨ho, rfl⟩
    · rw [HP.out ho, HP.out ho, HP.out ho, HP.out ho]
    · rw [H0.out, H0.out, H0.out, H0.out, HN0.out ho, HN0.out ho, HN0.out ho, HN0.out ho]
  go_enter Try.func21, Try.ntmps21
  go_upto_region 2 with fail
  refine gen_world (TwoSets w p (ofsN L o 0)) HT.out ?_
  intro W1' hw1
  have H1 := Lib.hid hw1
  clear hw1 HT
  go_wp2
  go_loopw [6] (fun u wr => ∃ k : Nat, k ≤ n ∧ u = .int .i64 k ∧ (k = 0 ∨ Hid (okOwn o)) ∧ Hid (TwoSets w p (ofsN L o k) wr)) (fun u _ => (n - intOf u).toNat)
  case atStart => exact ⟨0, by omega, rfl, .inl rfl, H1⟩
  case round =>
    obtain ⟨k, hk, rfl, hor, HI⟩ := hrel
    clear c0 H1
    have HOR := Lib.hid hor
    clear hor
    have c0 := (CH.out.below HI.out.low).slice
    by_cases hlt : k < n
    · have hlt1 : (k : Int) < n := by omega
      have c1 := (CH.out.below HI.out.low).row.cell hlt
      by_cases h2 : 1 ≤ o
      · by_cases h3 : o ≤ 99
        · have HO : Hid (okOwn o) := ⟨h2, h3⟩
          have d3 : decide (o ≤ 99) = true := decide_eq_true h3
          by_cases ho : L k = o
          · have hd : (L k == o) = true := by simp [ho]
            have C := Lib.hid (W1.out (ofsN L o k) (k : Int))
            have HEq : Hid (ofsN L o (k + 1) = ofsN L o k ++ [(k : Int)]) := ofs_yes ho
            obtain ⟨a0, a1, a2, a3, _, _, _, _⟩ := HI.out.all.four
            clear ho HOR
            generalize L k = y at *
            go_wp2_with (go_at_call 33; (refine (C.out _).mono ?_); rintro e w3 ⟨rfl, b3⟩; have HB3 := Lib.hid b3; obtain ⟨d0, d1, d2, d3, g0, g1, g2, g3⟩ := (HI.out.all.below b3).four; clear b3)
            go_roundw
            case rel => exact ⟨k + 1, by omega, by go_num, .inr HO, by rw [HEq.out]; exact (HI.out.put HB3.out (S := fun _ => False) (fun _ z => z.elim) (B := 0) (fun _ => rfl)).2.2⟩
            case measure => simp [intOf]; omega
          · have hd : (L k == o) = false := by simp [ho]
            have HEq : Hid (ofsN L o (k + 1) = ofsN L o k) := ofs_no ho
            clear ho HOR
            generalize L k = y at *
            go_wp2
            go_roundw
            case rel => exact ⟨k + 1, by omega, by go_num, .inr HO, by rw [HEq.out]; exact HI.out⟩
            case measure => simp [intOf]; omega
        · have d3 : decide (o ≤ 99) = false := decide_eq_false h3
          have HNO : Hid (¬ okOwn o) := fun z => h3 z.2
          have HQ : Hid ((okOwn o ∧ ofsN L o k = ofsN L o n) ∨ (¬ okOwn o ∧ ofsN L o k = [])) := by
            refine .inr ⟨HNO.out, ?_⟩
            rcases HOR.out with rfl | z
            · rfl
            · exact absurd z.out HNO.out
          clear HOR
          obtain ⟨z0, z1, z2, z3, v0, v1, v2, v3⟩ := HI.out.res.four
          obtain ⟨a0, a1, a2, a3, _, _, _, _⟩ := HI.out.all.four
          obtain ⟨s0, s1, s2, s3⟩ := set4_results HI.out.res.four (p (ofsN L o k) 0) (p (ofsN L o k) 1) (p (ofsN L o k) 2) (p (ofsN L o k) 3)
          have SS := Lib.hid (And.intro s0 (And.intro s1 (And.intro s2 s3)))
          clear s0 s1 s2 s3
          go_wp2
          obtain ⟨s0, s1, s2, s3⟩ := SS.out
          exact bodyPost_ret (v := .agg #[.int .u64 (p (ofsN L o k) 0), .int .u64 (p (ofsN L o k) 1), .int .u64 (p (ofsN L o k) 2), .int .u64 (p (ofsN L o k) 3)]) (by simp [results, Try.results21, go_sem, s0, s1, s2, s3]) rfl (HE.out _ _ HI.out HQ.out)
      · have HNO : Hid (¬ okOwn o) := fun z => h2 z.1
        have HQ : Hid ((okOwn o ∧ ofsN L o k = ofsN L o n) ∨ (¬ okOwn o ∧ ofsN L o k = [])) := by
          refine .inr ⟨HNO.out, ?_⟩
          rcases HOR.out with rfl | z
          · rfl
          · exact absurd z.out HNO.out
        clear HOR
        obtain ⟨z0, z1, z2, z3, v0, v1, v2, v3⟩ := HI.out.res.four
        obtain ⟨a0, a1, a2, a3, _, _, _, _⟩ := HI.out.all.four
        obtain ⟨s0, s1, s2, s3⟩ := set4_results HI.out.res.four (p (ofsN L o k) 0) (p (ofsN L o k) 1) (p (ofsN L o k) 2) (p (ofsN L o k) 3)
        have SS := Lib.hid (And.intro s0 (And.intro s1 (And.intro s2 s3)))
        clear s0 s1 s2 s3
        go_wp2
        obtain ⟨s0, s1, s2, s3⟩ := SS.out
        exact bodyPost_ret (v := .agg #[.int .u64 (p (ofsN L o k) 0), .int .u64 (p (ofsN L o k) 1), .int .u64 (p (ofsN L o k) 2), .int .u64 (p (ofsN L o k) 3)]) (by simp [results, Try.results21, go_sem, s0, s1, s2, s3]) rfl (HE.out _ _ HI.out HQ.out)
    · have hkn : k = n := by omega
      have HQ : Hid ((okOwn o ∧ ofsN L o k = ofsN L o n) ∨ (¬ okOwn o ∧ ofsN L o k = [])) := by
        by_cases z : okOwn o
        · exact .inl ⟨z, by rw [hkn]⟩
        · refine .inr ⟨z, ?_⟩
          rcases HOR.out with rfl | z2
          · rfl
          · exact absurd z2.out z
      have hlt1 : ¬ (k : Int) < n := by omega
      clear HOR hkn
      obtain ⟨z0, z1, z2, z3, v0, v1, v2, v3⟩ := HI.out.res.four
      obtain ⟨a0, a1, a2, a3, _, _, _, _⟩ := HI.out.all.four
      obtain ⟨s0, s1, s2, s3⟩ := set4_results HI.out.res.four (p (ofsN L o k) 0) (p (ofsN L o k) 1) (p (ofsN L o k) 2) (p (ofsN L o k) 3)
      have SS := Lib.hid (And.intro s0 (And.intro s1 (And.intro s2 s3)))
      clear s0 s1 s2 s3
      go_wp2
      obtain ⟨s0, s1, s2, s3⟩ := SS.out
      exact bodyPost_ret (v := .agg #[.int .u64 (p (ofsN L o k) 0), .int .u64 (p (ofsN L o k) 1), .int .u64 (p (ofsN L o k) 2), .int .u64 (p (ofsN L o k) 3)]) (by simp [results, Try.results21, go_sem, s0, s1, s2, s3]) rfl (HE.out _ _ HI.out HQ.out)
end Go.Proofs.Ytfifgojbihdhcaa

/-
  The walk over the document's own tick.
-/
namespace Go.Proofs.Ytfifgojbihdhcaa
open Go.RowKit Go.Maps

set_option maxRecDepth 100000 in
set_option maxHeartbeats 16000000 in
theorem rstep_any (x : TV) (rel dn dm db rl : Int) (p : Nat → Bool) (w : World) {b r n : Nat} {L : Nat → Int} (h : Ch RT w b r n L) (hx : x.ok w) (hm : dm ≤ 9223372036854775807) (hd : db ≤ 9223372036854775807) :
    Calls Try.prog 17 #[.pointer (some ⟨b, 0, none⟩), .agg #[.int .i64 x.id, .int .i64 x.c, .int .i64 x.d, .int .i64 x.t, .int .i64 x.p, .slice x.a1 x.ch.length x.c1, .slice x.a2 x.us.length x.c2], .int .i64 rel, .agg #[.int .i64 dn, .int .i64 dm, .int .i64 db, .int .i64 rl, .int .u64 (wd p 0), .int .u64 (wd p 1), .int .u64 (wd p 2), .int .u64 (wd p 3)]] w (StepBack RT b r n (stepL n L x.id (accOf x dn).1 (accOf x dn).2 rel ⟨dn, dm, db, rl, p⟩) (stepW n L x.id (accOf x dn).1 (accOf x dn).2 rel ⟨dn, dm, db, rl, p⟩) w) := by
  have BL := Lib.hid h.lt.1
  have RL := Lib.hid h.lt.2
  have CH := Lib.hid h
  have H0 := Lib.hid (stepAt_new (fun k => k = r) w x dn dm db rl (wd p))
  have AC := Lib.hid (fun W (hW : Below w.heap.size w W) => racc_any x dn W (hx.below hW))
  obtain ⟨rl', hrl⟩ : ∃ rl', IntKind.i64.wrap (rl + 1) = rl' := ⟨_, rfl⟩
  have HRL := Lib.hid hrl
  by_cases hf : Fits x.id rel ⟨dn, dm, db, rl, p⟩
  · obtain ⟨hf0, hf1, hf2, hf3, hf4, hf5⟩ := hf
    dsimp only at hf3 hf4 hf5
    have HF : Hid (Fits x.id rel ⟨dn, dm, db, rl, p⟩) := ⟨hf0, hf1, hf2, hf3, hf4, hf5⟩
    have u1 : IntKind.i64.wrap (dn + 1) = dn + 1 := IntWalk.i64_in _ (by omega)
    have u2 : IntKind.i64.wrap (rel - 1) = rel - 1 := IntWalk.i64_in _ (by omega)
    have u3 : IntKind.i64.wrap (db - 1) = db - 1 := IntWalk.i64_in _ (by omega)
    have e1 := hf0.1
    have e2 := hf0.2
    have n0 : ¬ dn < 0 := by omega
    have n1 : ¬ dm ≤ dn := by omega
    have n2 : ¬ db < 0 := by omega
    have n3 : ¬ rel < 0 := by omega
    have n4 : ¬ 1000 < rel := by omega
    have n5 : ¬ x.id < 1 := by omega
    have n6 : decide (99 < x.id) = false := decide_eq_false (by omega)
    by_cases hp : 0 < db
    · rw [show stepL n L x.id (accOf x dn).1 (accOf x dn).2 rel ⟨dn, dm, db, rl, p⟩ = L by unfold stepL; rw [if_neg (fun z => z.2 hp)]]
      rw [show stepW n L x.id (accOf x dn).1 (accOf x dn).2 rel ⟨dn, dm, db, rl, p⟩ = (⟨dn, dm, db - 1, wUp rl, p⟩, true) by unfold stepW; rw [if_pos HF.out, if_pos hp]]
      unfold StepBack
      dsimp only
      unfold wUp
      rw [hrl]
      clear hf0 hf1 hf2 hf3 hf4 hf5 h hx hm hd AC e1 e2 HF
      generalize wd p = y at *
      go_enter Try.func17, Try.ntmps17
      go_upto_region 1 with fail
      refine gen_world (fun W => StepAt (fun k => k = r) w x dn dm db rl y W ∧ Below w.heap.size w W) ⟨H0.out, (by repeat (first | exact Below.refl _ _ | (with_reducible assumption) | refine bw_alloc ?_ _ | refine bw_drew ?_))⟩ ?_
      intro W0 ⟨hw0, hwb⟩
      have H1 := Lib.hid hw0
      have B0 := Lib.hid hwb
      
      clear hw0 hwb H0
      obtain ⟨t0, t1, t2, t3, t4, t5, t6, q0, q1, q2, q3, q4, q5, q6, q7, f0, f1, f2, f3, f4, f5, f6, f7, r0, r1, r2, r3, r4, r5, r6, r7, g0, g1, g2, g3, g4, g5, g6, g7⟩ := H1.out.facts
      go_wp2
      obtain ⟨⟨s0, s1, s2, s3, s4, s5, s6, s7⟩, hC, hT⟩ := (((⟨H1.out.low, H1.out.rb, CH.out.below B0.out, BL.out, RL.out⟩ : Outs RT w b r n L W0).put 2 (.int .i64 (db - 1))).put 3 (.int .i64 rl')).ends (.int .i64 dn) (.int .i64 dm) (.int .i64 (db - 1)) (.int .i64 rl') (.int .u64 (y 0)) (.int .u64 (y 1)) (.int .u64 (y 2)) (.int .u64 (y 3))
      exact bodyPost_ret (v := .tuple #[.agg #[.int .i64 (dn), .int .i64 dm, .int .i64 (db - 1), .int .i64 rl', .int .u64 (y 0), .int .u64 (y 1), .int .u64 (y 2), .int .u64 (y 3)], .bool true]) (by simp [results, Try.results17, go_sem, s0, s1, s2, s3, s4, s5, s6, s7]) rfl ⟨rfl, hC, hT⟩

    · rw [show stepL n L x.id (accOf x dn).1 (accOf x dn).2 rel ⟨dn, dm, db, rl, p⟩ = workL n L x.id (accOf x dn).1 (accOf x dn).2 by unfold stepL; rw [if_pos ⟨HF.out, hp⟩]]
      rw [show stepW n L x.id (accOf x dn).1 (accOf x dn).2 rel ⟨dn, dm, db, rl, p⟩ = workW n L x.id (accOf x dn).1 (accOf x dn).2 rel ⟨dn, dm, db, rl, p⟩ by unfold stepW; rw [if_pos HF.out, if_neg hp]]
      generalize (accOf x dn).2 = u at AC ⊢
      generalize (accOf x dn).1 = s at AC ⊢
      have HB := Lib.hid (fun W => rhas_any p s W)
      have WI := Lib.hid (fun W => rwith_any p s W)
      clear hf1 hf2 hf3 hf4 hf5 hx hm hd e1 e2 HF
      by_cases h0 : 0 ≤ s
      · by_cases h1 : s < n
        · obtain ⟨i, rfl⟩ : ∃ i : Nat, s = (i : Int) := ⟨s.toNat, by omega⟩
          have hi : i < n := by omega
          have HS : Hid (okSet n (i : Int)) := ⟨h0, h1⟩
          have d0 : ¬ (i : Int) < 0 := by omega
          have d1 : ¬ (n : Int) ≤ (i : Int) := by omega
          have HO := Lib.hid hf0
          cases u with
          | false =>
            rw [show workL n L x.id (i : Int) false = L by unfold workL; rw [if_neg (fun z => by cases z.1)]]
            rw [show workW n L x.id (i : Int) false rel ⟨dn, dm, db, rl, p⟩ = (⟨dn + 1, dm, db, rl, p⟩, false) by unfold workW; rw [if_neg (fun z => by cases z.1)]]
            unfold StepBack
            dsimp only
            clear hf0 WI h
            generalize hasP p i = q at *
            generalize wd p = y at *
            go_enter Try.func17, Try.ntmps17
            go_upto_region 1 with fail
            refine gen_world (fun W => StepAt (fun k => k = r) w x dn dm db rl y W ∧ Below w.heap.size w W) ⟨H0.out, (by repeat (first | exact Below.refl _ _ | (with_reducible assumption) | refine bw_alloc ?_ _ | refine bw_drew ?_))⟩ ?_
            intro W0 ⟨hw0, hwb⟩
            have H1 := Lib.hid hw0
            have B0 := Lib.hid hwb
            clear hw0 hwb H0
            obtain ⟨t0, t1, t2, t3, t4, t5, t6, q0, q1, q2, q3, q4, q5, q6, q7, f0, f1, f2, f3, f4, f5, f6, f7, r0, r1, r2, r3, r4, r5, r6, r7, g0, g1, g2, g3, g4, g5, g6, g7⟩ := H1.out.facts
            go_upto_region 11 with (first
              | (go_at_call 32; (refine (AC.out _ B0.out).mono ?_); rintro e w1 ⟨rfl, b1⟩; have H2 := Lib.hid (H1.out.below b1); obtain ⟨t0, t1, t2, t3, t4, t5, t6, q0, q1, q2, q3, q4, q5, q6, q7, f0, f1, f2, f3, f4, f5, f6, f7, r0, r1, r2, r3, r4, r5, r6, r7, g0, g1, g2, g3, g4, g5, g6, g7⟩ := H2.out.facts; have B1 := Lib.hid (below_up B0.out b1); have k0 := (CH.out.below B1.out).slice; clear b1)
              | (go_at_call 25; (refine (HB.out _).mono ?_); rintro e w2 ⟨rfl, b2⟩; have H3 := Lib.hid (H2.out.below b2); obtain ⟨t0, t1, t2, t3, t4, t5, t6, q0, q1, q2, q3, q4, q5, q6, q7, f0, f1, f2, f3, f4, f5, f6, f7, r0, r1, r2, r3, r4, r5, r6, r7, g0, g1, g2, g3, g4, g5, g6, g7⟩ := H3.out.facts; have B2 := Lib.hid (below_up B1.out b2); clear b2))
            go_quiet (fail)
            go_upto_region 16 with fail
            refine gen_world (fun W => StepAt (fun k => k = r) w x dn dm db rl y W ∧ Below w.heap.size w W) ⟨H3.out.below ⟨rfl, rfl, rfl, Nat.le_refl _, fun _ _ => rfl⟩, below_up B2.out ⟨rfl, rfl, rfl, Nat.le_refl _, fun _ _ => rfl⟩⟩ ?_
            intro W5 ⟨hw5, hb5⟩
            have H5 := Lib.hid hw5
            have B5 := Lib.hid hb5
            clear hw5 hb5
            obtain ⟨t0, t1, t2, t3, t4, t5, t6, q0, q1, q2, q3, q4, q5, q6, q7, f0, f1, f2, f3, f4, f5, f6, f7, r0, r1, r2, r3, r4, r5, r6, r7, g0, g1, g2, g3, g4, g5, g6, g7⟩ := H5.out.facts
            go_wp2
            obtain ⟨⟨s0, s1, s2, s3, s4, s5, s6, s7⟩, hC, hT⟩ := ((⟨H5.out.low, H5.out.rb, CH.out.below B5.out, BL.out, RL.out⟩ : Outs RT w b r n L W5).put 0 (.int .i64 (dn + 1))).ends (.int .i64 (dn + 1)) (.int .i64 dm) (.int .i64 db) (.int .i64 rl) (.int .u64 (y 0)) (.int .u64 (y 1)) (.int .u64 (y 2)) (.int .u64 (y 3))
            exact bodyPost_ret (v := .tuple #[.agg #[.int .i64 (dn + 1), .int .i64 dm, .int .i64 (db), .int .i64 rl, .int .u64 (y 0), .int .u64 (y 1), .int .u64 (y 2), .int .u64 (y 3)], .bool false]) (by simp [results, Try.results17, go_sem, s0, s1, s2, s3, s4, s5, s6, s7]) rfl ⟨rfl, hC, hT⟩
          | true =>
            obtain ⟨v, hv⟩ : ∃ v, L i = v := ⟨_, rfl⟩
            cases hq : hasP p i with
            | false =>
              rw [show workL n L x.id (i : Int) true = putL L i x.id by unfold workL; rw [if_pos ⟨rfl, HS.out⟩]]
              rw [show workW n L x.id (i : Int) true rel ⟨dn, dm, db, rl, p⟩ = (⟨dn + 1, dm, db, rl, bitUp p i⟩, false) by unfold workW; rw [if_pos ⟨rfl, HS.out⟩, if_neg (fun z => by rw [hq] at z; cases z.2.2)]]
              unfold StepBack
              dsimp only
              unfold bitUp
              rw [hq] at HB
              clear hq
              clear h
              generalize wd (orP p (oneP (i : Int))) = z at *
              generalize wd p = y at *
              go_enter Try.func17, Try.ntmps17
              go_upto_region 1 with fail
              refine gen_world (fun W => StepAt (fun k => k = r) w x dn dm db rl y W ∧ Below w.heap.size w W) ⟨H0.out, (by repeat (first | exact Below.refl _ _ | (with_reducible assumption) | refine bw_alloc ?_ _ | refine bw_drew ?_))⟩ ?_
              intro W0 ⟨hw0, hwb⟩
              have H1 := Lib.hid hw0
              have B0 := Lib.hid hwb
              clear hw0 hwb H0
              obtain ⟨t0, t1, t2, t3, t4, t5, t6, q0, q1, q2, q3, q4, q5, q6, q7, f0, f1, f2, f3, f4, f5, f6, f7, r0, r1, r2, r3, r4, r5, r6, r7, g0, g1, g2, g3, g4, g5, g6, g7⟩ := H1.out.facts
              go_upto_region 11 with (first
                | (go_at_call 32; (refine (AC.out _ B0.out).mono ?_); rintro e w1 ⟨rfl, b1⟩; have H2 := Lib.hid (H1.out.below b1); obtain ⟨t0, t1, t2, t3, t4, t5, t6, q0, q1, q2, q3, q4, q5, q6, q7, f0, f1, f2, f3, f4, f5, f6, f7, r0, r1, r2, r3, r4, r5, r6, r7, g0, g1, g2, g3, g4, g5, g6, g7⟩ := H2.out.facts; have B1 := Lib.hid (below_up B0.out b1); have k0 := (CH.out.below B1.out).slice; clear b1)
                | (go_at_call 25; (refine (HB.out _).mono ?_); rintro e w2 ⟨rfl, b2⟩; have H3 := Lib.hid (H2.out.below b2); obtain ⟨t0, t1, t2, t3, t4, t5, t6, q0, q1, q2, q3, q4, q5, q6, q7, f0, f1, f2, f3, f4, f5, f6, f7, r0, r1, r2, r3, r4, r5, r6, r7, g0, g1, g2, g3, g4, g5, g6, g7⟩ := H3.out.facts; have B2 := Lib.hid (below_up B1.out b2); have cc := CH.out.below B2.out; have k1 := cc.slice; have k2 := cc.row.cell hi; rw [hv] at k2; clear cc; clear b2))
              go_quiet (fail)
              go_upto_region 16 with fail
              refine gen_world (fun W => StepAt (fun k => k = r) w x dn dm db rl y W ∧ Below w.heap.size w W) ⟨H3.out.below ⟨rfl, rfl, rfl, Nat.le_refl _, fun _ _ => rfl⟩, below_up B2.out ⟨rfl, rfl, rfl, Nat.le_refl _, fun _ _ => rfl⟩⟩ ?_
              intro W5 ⟨hw5, hb5⟩
              have H5 := Lib.hid hw5
              have B5 := Lib.hid hb5
              clear hw5 hb5
              obtain ⟨t0, t1, t2, t3, t4, t5, t6, q0, q1, q2, q3, q4, q5, q6, q7, f0, f1, f2, f3, f4, f5, f6, f7, r0, r1, r2, r3, r4, r5, r6, r7, g0, g1, g2, g3, g4, g5, g6, g7⟩ := H5.out.facts
              go_upto_region 17 with fail
              refine gen_world (fun W => StepAt (fun k => k = r) w x (dn + 1) dm db rl y W ∧ Below w.heap.size w W) ⟨H5.out.set0 _, B5.out.setCell (p := ⟨w.heap.size + 1, 0, none⟩) (Nat.le_succ _) _⟩ ?_
              intro W6 ⟨hw6, hb6⟩
              have H6 := Lib.hid hw6
              have C6 := Lib.hid (CH.out.below hb6)
              have B6 := Lib.hid hb6
              clear hw6 hb6
              obtain ⟨t0, t1, t2, t3, t4, t5, t6, q0, q1, q2, q3, q4, q5, q6, q7, f0, f1, f2, f3, f4, f5, f6, f7, r0, r1, r2, r3, r4, r5, r6, r7, g0, g1, g2, g3, g4, g5, g6, g7⟩ := H6.out.facts
              have k3 := C6.out.slice
              have k4 := C6.out.row.cell hi
              have k5 := C6.out.row.free i
              go_upto_region 18 with fail
              go_still_tail 8, (by kernel_rfl)
              go_upto_region 19 with fail
              refine gen_world (fun W => StepAt (fun k => k = r) w x (dn + 1) dm db rl y W ∧ Ch RT W b r n (putL L i x.id)) (used H6.out C6.out RL.out hi HO.out) ?_
              intro W7 ⟨hw7, hc7⟩
              have H7 := Lib.hid hw7
              have C7 := Lib.hid hc7
              clear hw7 hc7
              obtain ⟨t0, t1, t2, t3, t4, t5, t6, q0, q1, q2, q3, q4, q5, q6, q7, f0, f1, f2, f3, f4, f5, f6, f7, r0, r1, r2, r3, r4, r5, r6, r7, g0, g1, g2, g3, g4, g5, g6, g7⟩ := H7.out.facts
              go_wp2_with (go_at_call 33; (refine (WI.out _).mono ?_); rintro e w8 ⟨rfl, b8⟩; have H8 := Lib.hid (H7.out.below b8); have C8 := Lib.hid (C7.out.below b8); obtain ⟨t0, t1, t2, t3, t4, t5, t6, q0, q1, q2, q3, q4, q5, q6, q7, f0, f1, f2, f3, f4, f5, f6, f7, r0, r1, r2, r3, r4, r5, r6, r7, g0, g1, g2, g3, g4, g5, g6, g7⟩ := H8.out.facts; clear b8)
              obtain ⟨⟨s0, s1, s2, s3, s4, s5, s6, s7⟩, hC, hT⟩ := (((((⟨H8.out.low, H8.out.rb, C8.out, BL.out, RL.out⟩ : Outs RT w b r n (putL L i x.id) w8).put 4 (.int .u64 (z 0))).put 5 (.int .u64 (z 1))).put 6 (.int .u64 (z 2))).put 7 (.int .u64 (z 3))).ends (.int .i64 (dn + 1)) (.int .i64 dm) (.int .i64 db) (.int .i64 rl) (.int .u64 (z 0)) (.int .u64 (z 1)) (.int .u64 (z 2)) (.int .u64 (z 3))
              exact bodyPost_ret (v := .tuple #[.agg #[.int .i64 (dn + 1), .int .i64 dm, .int .i64 (db), .int .i64 rl, .int .u64 (z 0), .int .u64 (z 1), .int .u64 (z 2), .int .u64 (z 3)], .bool false]) (by simp [results, Try.results17, go_sem, s0, s1, s2, s3, s4, s5, s6, s7]) rfl ⟨rfl, hC, hT⟩
            | true =>
              by_cases hvi : v = x.id
              · skip
                rw [show workL n L x.id (i : Int) true = putL L i x.id by unfold workL; rw [if_pos ⟨rfl, HS.out⟩]]
                rw [show workW n L x.id (i : Int) true rel ⟨dn, dm, db, rl, p⟩ = (⟨dn + 1, dm, db, rl, bitUp p i⟩, false) by unfold workW; rw [if_pos ⟨rfl, HS.out⟩, if_neg (fun z => z.1 (by rw [Int.toNat_natCast, hv, hvi]))]]
                unfold StepBack
                dsimp only
                unfold bitUp
                rw [hq] at HB
                have q1 : (v == x.id) = true := by rw [hvi]; simp
                have q2 : (v != x.id) = false := by rw [hvi]; simp
                clear hq
                clear h
                generalize wd (orP p (oneP (i : Int))) = z at *
                generalize wd p = y at *
                go_enter Try.func17, Try.ntmps17
                go_upto_region 1 with fail
                refine gen_world (fun W => StepAt (fun k => k = r) w x dn dm db rl y W ∧ Below w.heap.size w W) ⟨H0.out, (by repeat (first | exact Below.refl _ _ | (with_reducible assumption) | refine bw_alloc ?_ _ | refine bw_drew ?_))⟩ ?_
                intro W0 ⟨hw0, hwb⟩
                have H1 := Lib.hid hw0
                have B0 := Lib.hid hwb
                clear hw0 hwb H0
                obtain ⟨t0, t1, t2, t3, t4, t5, t6, q0, q1, q2, q3, q4, q5, q6, q7, f0, f1, f2, f3, f4, f5, f6, f7, r0, r1, r2, r3, r4, r5, r6, r7, g0, g1, g2, g3, g4, g5, g6, g7⟩ := H1.out.facts
                go_upto_region 11 with (first
                  | (go_at_call 32; (refine (AC.out _ B0.out).mono ?_); rintro e w1 ⟨rfl, b1⟩; have H2 := Lib.hid (H1.out.below b1); obtain ⟨t0, t1, t2, t3, t4, t5, t6, q0, q1, q2, q3, q4, q5, q6, q7, f0, f1, f2, f3, f4, f5, f6, f7, r0, r1, r2, r3, r4, r5, r6, r7, g0, g1, g2, g3, g4, g5, g6, g7⟩ := H2.out.facts; have B1 := Lib.hid (below_up B0.out b1); have k0 := (CH.out.below B1.out).slice; clear b1)
                  | (go_at_call 25; (refine (HB.out _).mono ?_); rintro e w2 ⟨rfl, b2⟩; have H3 := Lib.hid (H2.out.below b2); obtain ⟨t0, t1, t2, t3, t4, t5, t6, q0, q1, q2, q3, q4, q5, q6, q7, f0, f1, f2, f3, f4, f5, f6, f7, r0, r1, r2, r3, r4, r5, r6, r7, g0, g1, g2, g3, g4, g5, g6, g7⟩ := H3.out.facts; have B2 := Lib.hid (below_up B1.out b2); have cc := CH.out.below B2.out; have k1 := cc.slice; have k2 := cc.row.cell hi; rw [hv] at k2; clear cc; clear b2))
                go_quiet (fail)
                go_upto_region 16 with fail
                refine gen_world (fun W => StepAt (fun k => k = r) w x dn dm db rl y W ∧ Below w.heap.size w W) ⟨H3.out.below ⟨rfl, rfl, rfl, Nat.le_refl _, fun _ _ => rfl⟩, below_up B2.out ⟨rfl, rfl, rfl, Nat.le_refl _, fun _ _ => rfl⟩⟩ ?_
                intro W5 ⟨hw5, hb5⟩
                have H5 := Lib.hid hw5
                have B5 := Lib.hid hb5
                clear hw5 hb5
                obtain ⟨t0, t1, t2, t3, t4, t5, t6, q0, q1, q2, q3, q4, q5, q6, q7, f0, f1, f2, f3, f4, f5, f6, f7, r0, r1, r2, r3, r4, r5, r6, r7, g0, g1, g2, g3, g4, g5, g6, g7⟩ := H5.out.facts
                go_upto_region 17 with fail
                refine gen_world (fun W => StepAt (fun k => k = r) w x (dn + 1) dm db rl y W ∧ Below w.heap.size w W) ⟨H5.out.set0 _, B5.out.setCell (p := ⟨w.heap.size + 1, 0, none⟩) (Nat.le_succ _) _⟩ ?_
                intro W6 ⟨hw6, hb6⟩
                have H6 := Lib.hid hw6
                have C6 := Lib.hid (CH.out.below hb6)
                have B6 := Lib.hid hb6
                clear hw6 hb6
                obtain ⟨t0, t1, t2, t3, t4, t5, t6, q0, q1, q2, q3, q4, q5, q6, q7, f0, f1, f2, f3, f4, f5, f6, f7, r0, r1, r2, r3, r4, r5, r6, r7, g0, g1, g2, g3, g4, g5, g6, g7⟩ := H6.out.facts
                have k3 := C6.out.slice
                have k4 := C6.out.row.cell hi
                have k5 := C6.out.row.free i
                go_upto_region 18 with fail
                go_still_tail 8, (by kernel_rfl)
                go_upto_region 19 with fail
                refine gen_world (fun W => StepAt (fun k => k = r) w x (dn + 1) dm db rl y W ∧ Ch RT W b r n (putL L i x.id)) (used H6.out C6.out RL.out hi HO.out) ?_
                intro W7 ⟨hw7, hc7⟩
                have H7 := Lib.hid hw7
                have C7 := Lib.hid hc7
                clear hw7 hc7
                obtain ⟨t0, t1, t2, t3, t4, t5, t6, q0, q1, q2, q3, q4, q5, q6, q7, f0, f1, f2, f3, f4, f5, f6, f7, r0, r1, r2, r3, r4, r5, r6, r7, g0, g1, g2, g3, g4, g5, g6, g7⟩ := H7.out.facts
                go_wp2_with (go_at_call 33; (refine (WI.out _).mono ?_); rintro e w8 ⟨rfl, b8⟩; have H8 := Lib.hid (H7.out.below b8); have C8 := Lib.hid (C7.out.below b8); obtain ⟨t0, t1, t2, t3, t4, t5, t6, q0, q1, q2, q3, q4, q5, q6, q7, f0, f1, f2, f3, f4, f5, f6, f7, r0, r1, r2, r3, r4, r5, r6, r7, g0, g1, g2, g3, g4, g5, g6, g7⟩ := H8.out.facts; clear b8)
                obtain ⟨⟨s0, s1, s2, s3, s4, s5, s6, s7⟩, hC, hT⟩ := (((((⟨H8.out.low, H8.out.rb, C8.out, BL.out, RL.out⟩ : Outs RT w b r n (putL L i x.id) w8).put 4 (.int .u64 (z 0))).put 5 (.int .u64 (z 1))).put 6 (.int .u64 (z 2))).put 7 (.int .u64 (z 3))).ends (.int .i64 (dn + 1)) (.int .i64 dm) (.int .i64 db) (.int .i64 rl) (.int .u64 (z 0)) (.int .u64 (z 1)) (.int .u64 (z 2)) (.int .u64 (z 3))
                exact bodyPost_ret (v := .tuple #[.agg #[.int .i64 (dn + 1), .int .i64 dm, .int .i64 (db), .int .i64 rl, .int .u64 (z 0), .int .u64 (z 1), .int .u64 (z 2), .int .u64 (z 3)], .bool false]) (by simp [results, Try.results17, go_sem, s0, s1, s2, s3, s4, s5, s6, s7]) rfl ⟨rfl, hC, hT⟩
              · by_cases hr : rel ≤ 0
                · skip
                  rw [show workL n L x.id (i : Int) true = putL L i x.id by unfold workL; rw [if_pos ⟨rfl, HS.out⟩]]
                  rw [show workW n L x.id (i : Int) true rel ⟨dn, dm, db, rl, p⟩ = (⟨dn + 1, dm, db, rl, bitUp p i⟩, false) by unfold workW; rw [if_pos ⟨rfl, HS.out⟩, if_neg (fun z => absurd z.2.1 (by omega))]]
                  unfold StepBack
                  dsimp only
                  unfold bitUp
                  rw [hq] at HB
                  have q1 : (v == x.id) = false := by rw [beq_eq_false_iff_ne]; exact hvi
                  have q2 : (v != x.id) = true := by rw [bne_iff_ne]; exact hvi
                  have q3 : ¬ 0 < rel := by omega
                  have q4 : decide (0 < rel) = false := decide_eq_false q3
                  clear hq
                  clear h
                  generalize wd (orP p (oneP (i : Int))) = z at *
                  generalize wd p = y at *
                  go_enter Try.func17, Try.ntmps17
                  go_upto_region 1 with fail
                  refine gen_world (fun W => StepAt (fun k => k = r) w x dn dm db rl y W ∧ Below w.heap.size w W) ⟨H0.out, (by repeat (first | exact Below.refl _ _ | (with_reducible assumption) | refine bw_alloc ?_ _ | refine bw_drew ?_))⟩ ?_
                  intro W0 ⟨hw0, hwb⟩
                  have H1 := Lib.hid hw0
                  have B0 := Lib.hid hwb
                  clear hw0 hwb H0
                  obtain ⟨t0, t1, t2, t3, t4, t5, t6, q0, q1, q2, q3, q4, q5, q6, q7, f0, f1, f2, f3, f4, f5, f6, f7, r0, r1, r2, r3, r4, r5, r6, r7, g0, g1, g2, g3, g4, g5, g6, g7⟩ := H1.out.facts
                  go_upto_region 11 with (first
                    | (go_at_call 32; (refine (AC.out _ B0.out).mono ?_); rintro e w1 ⟨rfl, b1⟩; have H2 := Lib.hid (H1.out.below b1); obtain ⟨t0, t1, t2, t3, t4, t5, t6, q0, q1, q2, q3, q4, q5, q6, q7, f0, f1, f2, f3, f4, f5, f6, f7, r0, r1, r2, r3, r4, r5, r6, r7, g0, g1, g2, g3, g4, g5, g6, g7⟩ := H2.out.facts; have B1 := Lib.hid (below_up B0.out b1); have k0 := (CH.out.below B1.out).slice; clear b1)
                    | (go_at_call 25; (refine (HB.out _).mono ?_); rintro e w2 ⟨rfl, b2⟩; have H3 := Lib.hid (H2.out.below b2); obtain ⟨t0, t1, t2, t3, t4, t5, t6, q0, q1, q2, q3, q4, q5, q6, q7, f0, f1, f2, f3, f4, f5, f6, f7, r0, r1, r2, r3, r4, r5, r6, r7, g0, g1, g2, g3, g4, g5, g6, g7⟩ := H3.out.facts; have B2 := Lib.hid (below_up B1.out b2); have cc := CH.out.below B2.out; have k1 := cc.slice; have k2 := cc.row.cell hi; rw [hv] at k2; clear cc; clear b2))
                  go_quiet (fail)
                  go_upto_region 16 with fail
                  refine gen_world (fun W => StepAt (fun k => k = r) w x dn dm db rl y W ∧ Below w.heap.size w W) ⟨H3.out.below ⟨rfl, rfl, rfl, Nat.le_refl _, fun _ _ => rfl⟩, below_up B2.out ⟨rfl, rfl, rfl, Nat.le_refl _, fun _ _ => rfl⟩⟩ ?_
                  intro W5 ⟨hw5, hb5⟩
                  have H5 := Lib.hid hw5
                  have B5 := Lib.hid hb5
                  clear hw5 hb5
                  obtain ⟨t0, t1, t2, t3, t4, t5, t6, q0, q1, q2, q3, q4, q5, q6, q7, f0, f1, f2, f3, f4, f5, f6, f7, r0, r1, r2, r3, r4, r5, r6, r7, g0, g1, g2, g3, g4, g5, g6, g7⟩ := H5.out.facts
                  go_upto_region 17 with fail
                  refine gen_world (fun W => StepAt (fun k => k = r) w x (dn + 1) dm db rl y W ∧ Below w.heap.size w W) ⟨H5.out.set0 _, B5.out.setCell (p := ⟨w.heap.size + 1, 0, none⟩) (Nat.le_succ _) _⟩ ?_
                  intro W6 ⟨hw6, hb6⟩
                  have H6 := Lib.hid hw6
                  have C6 := Lib.hid (CH.out.below hb6)
                  have B6 := Lib.hid hb6
                  clear hw6 hb6
                  obtain ⟨t0, t1, t2, t3, t4, t5, t6, q0, q1, q2, q3, q4, q5, q6, q7, f0, f1, f2, f3, f4, f5, f6, f7, r0, r1, r2, r3, r4, r5, r6, r7, g0, g1, g2, g3, g4, g5, g6, g7⟩ := H6.out.facts
                  have k3 := C6.out.slice
                  have k4 := C6.out.row.cell hi
                  have k5 := C6.out.row.free i
                  go_upto_region 18 with fail
                  go_still_tail 8, (by kernel_rfl)
                  go_upto_region 19 with fail
                  refine gen_world (fun W => StepAt (fun k => k = r) w x (dn + 1) dm db rl y W ∧ Ch RT W b r n (putL L i x.id)) (used H6.out C6.out RL.out hi HO.out) ?_
                  intro W7 ⟨hw7, hc7⟩
                  have H7 := Lib.hid hw7
                  have C7 := Lib.hid hc7
                  clear hw7 hc7
                  obtain ⟨t0, t1, t2, t3, t4, t5, t6, q0, q1, q2, q3, q4, q5, q6, q7, f0, f1, f2, f3, f4, f5, f6, f7, r0, r1, r2, r3, r4, r5, r6, r7, g0, g1, g2, g3, g4, g5, g6, g7⟩ := H7.out.facts
                  go_wp2_with (go_at_call 33; (refine (WI.out _).mono ?_); rintro e w8 ⟨rfl, b8⟩; have H8 := Lib.hid (H7.out.below b8); have C8 := Lib.hid (C7.out.below b8); obtain ⟨t0, t1, t2, t3, t4, t5, t6, q0, q1, q2, q3, q4, q5, q6, q7, f0, f1, f2, f3, f4, f5, f6, f7, r0, r1, r2, r3, r4, r5, r6, r7, g0, g1, g2, g3, g4, g5, g6, g7⟩ := H8.out.facts; clear b8)
                  obtain ⟨⟨s0, s1, s2, s3, s4, s5, s6, s7⟩, hC, hT⟩ := (((((⟨H8.out.low, H8.out.rb, C8.out, BL.out, RL.out⟩ : Outs RT w b r n (putL L i x.id) w8).put 4 (.int .u64 (z 0))).put 5 (.int .u64 (z 1))).put 6 (.int .u64 (z 2))).put 7 (.int .u64 (z 3))).ends (.int .i64 (dn + 1)) (.int .i64 dm) (.int .i64 db) (.int .i64 rl) (.int .u64 (z 0)) (.int .u64 (z 1)) (.int .u64 (z 2)) (.int .u64 (z 3))
                  exact bodyPost_ret (v := .tuple #[.agg #[.int .i64 (dn + 1), .int .i64 dm, .int .i64 (db), .int .i64 rl, .int .u64 (z 0), .int .u64 (z 1), .int .u64 (z 2), .int .u64 (z 3)], .bool false]) (by simp [results, Try.results17, go_sem, s0, s1, s2, s3, s4, s5, s6, s7]) rfl ⟨rfl, hC, hT⟩
                · skip
                  rw [show workL n L x.id (i : Int) true = putL L i x.id by unfold workL; rw [if_pos ⟨rfl, HS.out⟩]]
                  rw [show workW n L x.id (i : Int) true rel ⟨dn, dm, db, rl, p⟩ = (⟨dn, dm, rel - 1, wUp rl, p⟩, true) by unfold workW; rw [if_pos ⟨rfl, HS.out⟩, if_pos ⟨by rw [Int.toNat_natCast, hv]; exact hvi, by omega, hq⟩]]
                  unfold StepBack
                  dsimp only
                  unfold wUp
                  rw [hrl]
                  rw [hq] at HB
                  have q1 : (v == x.id) = false := by rw [beq_eq_false_iff_ne]; exact hvi
                  have q2 : (v != x.id) = true := by rw [bne_iff_ne]; exact hvi
                  have q3 : 0 < rel := by omega
                  have q4 : decide (0 < rel) = true := decide_eq_true q3
                  clear h WI hq
                  generalize wd p = y at *
                  go_enter Try.func17, Try.ntmps17
                  go_upto_region 1 with fail
                  refine gen_world (fun W => StepAt (fun k => k = r) w x dn dm db rl y W ∧ Below w.heap.size w W) ⟨H0.out, (by repeat (first | exact Below.refl _ _ | (with_reducible assumption) | refine bw_alloc ?_ _ | refine bw_drew ?_))⟩ ?_
                  intro W0 ⟨hw0, hwb⟩
                  have H1 := Lib.hid hw0
                  have B0 := Lib.hid hwb
                  clear hw0 hwb H0
                  obtain ⟨t0, t1, t2, t3, t4, t5, t6, q0, q1, q2, q3, q4, q5, q6, q7, f0, f1, f2, f3, f4, f5, f6, f7, r0, r1, r2, r3, r4, r5, r6, r7, g0, g1, g2, g3, g4, g5, g6, g7⟩ := H1.out.facts
                  go_upto_region 11 with (first
                    | (go_at_call 32; (refine (AC.out _ B0.out).mono ?_); rintro e w1 ⟨rfl, b1⟩; have H2 := Lib.hid (H1.out.below b1); obtain ⟨t0, t1, t2, t3, t4, t5, t6, q0, q1, q2, q3, q4, q5, q6, q7, f0, f1, f2, f3, f4, f5, f6, f7, r0, r1, r2, r3, r4, r5, r6, r7, g0, g1, g2, g3, g4, g5, g6, g7⟩ := H2.out.facts; have B1 := Lib.hid (below_up B0.out b1); have k0 := (CH.out.below B1.out).slice; clear b1)
                    | (go_at_call 25; (refine (HB.out _).mono ?_); rintro e w2 ⟨rfl, b2⟩; have H3 := Lib.hid (H2.out.below b2); obtain ⟨t0, t1, t2, t3, t4, t5, t6, q0, q1, q2, q3, q4, q5, q6, q7, f0, f1, f2, f3, f4, f5, f6, f7, r0, r1, r2, r3, r4, r5, r6, r7, g0, g1, g2, g3, g4, g5, g6, g7⟩ := H3.out.facts; have B2 := Lib.hid (below_up B1.out b2); have cc := CH.out.below B2.out; have k1 := cc.slice; have k2 := cc.row.cell hi; rw [hv] at k2; clear cc; clear b2))
                  go_quiet (fail)
                  go_upto_region 12 with fail
                  refine gen_world (fun W => StepAt (fun k => k = r) w x dn dm db rl y W ∧ Below w.heap.size w W) ⟨H3.out.below ⟨rfl, rfl, rfl, Nat.le_refl _, fun _ _ => rfl⟩, below_up B2.out ⟨rfl, rfl, rfl, Nat.le_refl _, fun _ _ => rfl⟩⟩ ?_
                  intro W5 ⟨hw5, hb5⟩
                  have H5 := Lib.hid hw5
                  have B5 := Lib.hid hb5
                  clear hw5 hb5
                  obtain ⟨t0, t1, t2, t3, t4, t5, t6, q0, q1, q2, q3, q4, q5, q6, q7, f0, f1, f2, f3, f4, f5, f6, f7, r0, r1, r2, r3, r4, r5, r6, r7, g0, g1, g2, g3, g4, g5, g6, g7⟩ := H5.out.facts
                  have C6 := Lib.hid (CH.out.below B5.out)
                  have k3 := C6.out.slice
                  have k4 := C6.out.row.cell hi
                  have k5 := C6.out.row.free i
                  go_still_tail 8, (by kernel_rfl)
                  go_upto_region 13 with fail
                  refine gen_world (fun W => StepAt (fun k => k = r) w x dn dm db rl y W ∧ Ch RT W b r n (putL L i x.id)) (used H5.out C6.out RL.out hi HO.out) ?_
                  intro W7 ⟨hw7, hc7⟩
                  have H7 := Lib.hid hw7
                  have C7 := Lib.hid hc7
                  clear hw7 hc7
                  obtain ⟨t0, t1, t2, t3, t4, t5, t6, q0, q1, q2, q3, q4, q5, q6, q7, f0, f1, f2, f3, f4, f5, f6, f7, r0, r1, r2, r3, r4, r5, r6, r7, g0, g1, g2, g3, g4, g5, g6, g7⟩ := H7.out.facts
                  go_wp2
                  obtain ⟨⟨s0, s1, s2, s3, s4, s5, s6, s7⟩, hC, hT⟩ := (((⟨H7.out.low, H7.out.rb, C7.out, BL.out, RL.out⟩ : Outs RT w b r n (putL L i x.id) W7).put 2 (.int .i64 (rel - 1))).put 3 (.int .i64 rl')).ends (.int .i64 dn) (.int .i64 dm) (.int .i64 (rel - 1)) (.int .i64 rl') (.int .u64 (y 0)) (.int .u64 (y 1)) (.int .u64 (y 2)) (.int .u64 (y 3))
                  exact bodyPost_ret (v := .tuple #[.agg #[.int .i64 (dn), .int .i64 dm, .int .i64 (rel - 1), .int .i64 rl', .int .u64 (y 0), .int .u64 (y 1), .int .u64 (y 2), .int .u64 (y 3)], .bool true]) (by simp [results, Try.results17, go_sem, s0, s1, s2, s3, s4, s5, s6, s7]) rfl ⟨rfl, hC, hT⟩
        · skip
          have d0 : ¬ s < 0 := by omega
          have d1 : (n : Int) ≤ s := by omega
          rw [show workL n L x.id s u = L by unfold workL; rw [if_neg (fun z => h1 z.2.2)]]
          rw [show workW n L x.id s u rel ⟨dn, dm, db, rl, p⟩ = (⟨dn + 1, dm, db, rl, p⟩, false) by unfold workW; rw [if_neg (fun z => h1 z.2.2)]]
          unfold StepBack
          dsimp only
          clear hf0 WI h
          generalize hasP p s = q at *
          generalize wd p = y at *
          go_enter Try.func17, Try.ntmps17
          go_upto_region 1 with fail
          refine gen_world (fun W => StepAt (fun k => k = r) w x dn dm db rl y W ∧ Below w.heap.size w W) ⟨H0.out, (by repeat (first | exact Below.refl _ _ | (with_reducible assumption) | refine bw_alloc ?_ _ | refine bw_drew ?_))⟩ ?_
          intro W0 ⟨hw0, hwb⟩
          have H1 := Lib.hid hw0
          have B0 := Lib.hid hwb
          clear hw0 hwb H0
          obtain ⟨t0, t1, t2, t3, t4, t5, t6, q0, q1, q2, q3, q4, q5, q6, q7, f0, f1, f2, f3, f4, f5, f6, f7, r0, r1, r2, r3, r4, r5, r6, r7, g0, g1, g2, g3, g4, g5, g6, g7⟩ := H1.out.facts
          go_upto_region 11 with (first
            | (go_at_call 32; (refine (AC.out _ B0.out).mono ?_); rintro e w1 ⟨rfl, b1⟩; have H2 := Lib.hid (H1.out.below b1); obtain ⟨t0, t1, t2, t3, t4, t5, t6, q0, q1, q2, q3, q4, q5, q6, q7, f0, f1, f2, f3, f4, f5, f6, f7, r0, r1, r2, r3, r4, r5, r6, r7, g0, g1, g2, g3, g4, g5, g6, g7⟩ := H2.out.facts; have B1 := Lib.hid (below_up B0.out b1); have k0 := (CH.out.below B1.out).slice; clear b1)
            | (go_at_call 25; (refine (HB.out _).mono ?_); rintro e w2 ⟨rfl, b2⟩; have H3 := Lib.hid (H2.out.below b2); obtain ⟨t0, t1, t2, t3, t4, t5, t6, q0, q1, q2, q3, q4, q5, q6, q7, f0, f1, f2, f3, f4, f5, f6, f7, r0, r1, r2, r3, r4, r5, r6, r7, g0, g1, g2, g3, g4, g5, g6, g7⟩ := H3.out.facts; have B2 := Lib.hid (below_up B1.out b2); clear b2))
          go_quiet (fail)
          go_upto_region 16 with fail
          refine gen_world (fun W => StepAt (fun k => k = r) w x dn dm db rl y W ∧ Below w.heap.size w W) ⟨H3.out.below ⟨rfl, rfl, rfl, Nat.le_refl _, fun _ _ => rfl⟩, below_up B2.out ⟨rfl, rfl, rfl, Nat.le_refl _, fun _ _ => rfl⟩⟩ ?_
          intro W5 ⟨hw5, hb5⟩
          have H5 := Lib.hid hw5
          have B5 := Lib.hid hb5
          clear hw5 hb5
          obtain ⟨t0, t1, t2, t3, t4, t5, t6, q0, q1, q2, q3, q4, q5, q6, q7, f0, f1, f2, f3, f4, f5, f6, f7, r0, r1, r2, r3, r4, r5, r6, r7, g0, g1, g2, g3, g4, g5, g6, g7⟩ := H5.out.facts
          go_wp2
          obtain ⟨⟨s0, s1, s2, s3, s4, s5, s6, s7⟩, hC, hT⟩ := ((⟨H5.out.low, H5.out.rb, CH.out.below B5.out, BL.out, RL.out⟩ : Outs RT w b r n L W5).put 0 (.int .i64 (dn + 1))).ends (.int .i64 (dn + 1)) (.int .i64 dm) (.int .i64 db) (.int .i64 rl) (.int .u64 (y 0)) (.int .u64 (y 1)) (.int .u64 (y 2)) (.int .u64 (y 3))
          exact bodyPost_ret (v := .tuple #[.agg #[.int .i64 (dn + 1), .int .i64 dm, .int .i64 (db), .int .i64 rl, .int .u64 (y 0), .int .u64 (y 1), .int .u64 (y 2), .int .u64 (y 3)], .bool false]) (by simp [results, Try.results17, go_sem, s0, s1, s2, s3, s4, s5, s6, s7]) rfl ⟨rfl, hC, hT⟩
      · skip
        have d0 : s < 0 := by omega
        rw [show workL n L x.id s u = L by unfold workL; rw [if_neg (fun z => h0 z.2.1)]]
        rw [show workW n L x.id s u rel ⟨dn, dm, db, rl, p⟩ = (⟨dn + 1, dm, db, rl, p⟩, false) by unfold workW; rw [if_neg (fun z => h0 z.2.1)]]
        unfold StepBack
        dsimp only
        have c0 := h.slice
        clear hf0 WI h
        generalize hasP p s = q at *
        generalize wd p = y at *
        go_enter Try.func17, Try.ntmps17
        go_upto_region 1 with fail
        refine gen_world (fun W => StepAt (fun k => k = r) w x dn dm db rl y W ∧ Below w.heap.size w W) ⟨H0.out, (by repeat (first | exact Below.refl _ _ | (with_reducible assumption) | refine bw_alloc ?_ _ | refine bw_drew ?_))⟩ ?_
        intro W0 ⟨hw0, hwb⟩
        have H1 := Lib.hid hw0
        have B0 := Lib.hid hwb
        clear hw0 hwb H0
        obtain ⟨t0, t1, t2, t3, t4, t5, t6, q0, q1, q2, q3, q4, q5, q6, q7, f0, f1, f2, f3, f4, f5, f6, f7, r0, r1, r2, r3, r4, r5, r6, r7, g0, g1, g2, g3, g4, g5, g6, g7⟩ := H1.out.facts
        go_upto_region 11 with (first
          | (go_at_call 32; (refine (AC.out _ B0.out).mono ?_); rintro e w1 ⟨rfl, b1⟩; have H2 := Lib.hid (H1.out.below b1); obtain ⟨t0, t1, t2, t3, t4, t5, t6, q0, q1, q2, q3, q4, q5, q6, q7, f0, f1, f2, f3, f4, f5, f6, f7, r0, r1, r2, r3, r4, r5, r6, r7, g0, g1, g2, g3, g4, g5, g6, g7⟩ := H2.out.facts; have B1 := Lib.hid (below_up B0.out b1); have k0 := (CH.out.below B1.out).slice; clear b1)
          | (go_at_call 25; (refine (HB.out _).mono ?_); rintro e w2 ⟨rfl, b2⟩; have H3 := Lib.hid (H2.out.below b2); obtain ⟨t0, t1, t2, t3, t4, t5, t6, q0, q1, q2, q3, q4, q5, q6, q7, f0, f1, f2, f3, f4, f5, f6, f7, r0, r1, r2, r3, r4, r5, r6, r7, g0, g1, g2, g3, g4, g5, g6, g7⟩ := H3.out.facts; have B2 := Lib.hid (below_up B1.out b2); clear b2))
        go_quiet (fail)
        go_upto_region 16 with fail
        refine gen_world (fun W => StepAt (fun k => k = r) w x dn dm db rl y W ∧ Below w.heap.size w W) ⟨H3.out.below ⟨rfl, rfl, rfl, Nat.le_refl _, fun _ _ => rfl⟩, below_up B2.out ⟨rfl, rfl, rfl, Nat.le_refl _, fun _ _ => rfl⟩⟩ ?_
        intro W5 ⟨hw5, hb5⟩
        have H5 := Lib.hid hw5
        have B5 := Lib.hid hb5
        clear hw5 hb5
        obtain ⟨t0, t1, t2, t3, t4, t5, t6, q0, q1, q2, q3, q4, q5, q6, q7, f0, f1, f2, f3, f4, f5, f6, f7, r0, r1, r2, r3, r4, r5, r6, r7, g0, g1, g2, g3, g4, g5, g6, g7⟩ := H5.out.facts
        go_wp2
        obtain ⟨⟨s0, s1, s2, s3, s4, s5, s6, s7⟩, hC, hT⟩ := ((⟨H5.out.low, H5.out.rb, CH.out.below B5.out, BL.out, RL.out⟩ : Outs RT w b r n L W5).put 0 (.int .i64 (dn + 1))).ends (.int .i64 (dn + 1)) (.int .i64 dm) (.int .i64 db) (.int .i64 rl) (.int .u64 (y 0)) (.int .u64 (y 1)) (.int .u64 (y 2)) (.int .u64 (y 3))
        exact bodyPost_ret (v := .tuple #[.agg #[.int .i64 (dn + 1), .int .i64 dm, .int .i64 (db), .int .i64 rl, .int .u64 (y 0), .int .u64 (y 1), .int .u64 (y 2), .int .u64 (y 3)], .bool false]) (by simp [results, Try.results17, go_sem, s0, s1, s2, s3, s4, s5, s6, s7]) rfl ⟨rfl, hC, hT⟩
  · rw [show stepL n L x.id (accOf x dn).1 (accOf x dn).2 rel ⟨dn, dm, db, rl, p⟩ = L by unfold stepL; rw [if_neg (fun z => hf z.1)]]
    rw [show stepW n L x.id (accOf x dn).1 (accOf x dn).2 rel ⟨dn, dm, db, rl, p⟩ = (⟨dn, dm, db, rl, p⟩, false) by unfold stepW; rw [if_neg hf]]
    unfold StepBack
    dsimp only
    have HF := Lib.hid hf
    clear hf h hx AC
    by_cases n0 : dn < 0
    · clear HF
      generalize wd p = y at *
      go_enter Try.func17, Try.ntmps17
      go_upto_region 1 with fail
      refine gen_world (fun W => StepAt (fun k => k = r) w x dn dm db rl y W ∧ Below w.heap.size w W) ⟨H0.out, (by repeat (first | exact Below.refl _ _ | (with_reducible assumption) | refine bw_alloc ?_ _ | refine bw_drew ?_))⟩ ?_
      intro W0 ⟨hw0, hwb⟩
      have H1 := Lib.hid hw0
      have B0 := Lib.hid hwb
      clear hw0 hwb H0
      obtain ⟨t0, t1, t2, t3, t4, t5, t6, q0, q1, q2, q3, q4, q5, q6, q7, f0, f1, f2, f3, f4, f5, f6, f7, r0, r1, r2, r3, r4, r5, r6, r7, g0, g1, g2, g3, g4, g5, g6, g7⟩ := H1.out.facts
      go_wp2
      obtain ⟨⟨s0, s1, s2, s3, s4, s5, s6, s7⟩, hC, hT⟩ := ((⟨H1.out.low, H1.out.rb, CH.out.below B0.out, BL.out, RL.out⟩ : Outs RT w b r n L W0)).ends (.int .i64 dn) (.int .i64 dm) (.int .i64 db) (.int .i64 rl) (.int .u64 (y 0)) (.int .u64 (y 1)) (.int .u64 (y 2)) (.int .u64 (y 3))
      exact bodyPost_ret (v := .tuple #[.agg #[.int .i64 (dn), .int .i64 dm, .int .i64 (db), .int .i64 rl, .int .u64 (y 0), .int .u64 (y 1), .int .u64 (y 2), .int .u64 (y 3)], .bool false]) (by simp [results, Try.results17, go_sem, s0, s1, s2, s3, s4, s5, s6, s7]) rfl ⟨rfl, hC, hT⟩
    · skip
      by_cases n1 : dm ≤ dn
      · clear HF
        generalize wd p = y at *
        go_enter Try.func17, Try.ntmps17
        go_upto_region 1 with fail
        refine gen_world (fun W => StepAt (fun k => k = r) w x dn dm db rl y W ∧ Below w.heap.size w W) ⟨H0.out, (by repeat (first | exact Below.refl _ _ | (with_reducible assumption) | refine bw_alloc ?_ _ | refine bw_drew ?_))⟩ ?_
        intro W0 ⟨hw0, hwb⟩
        have H1 := Lib.hid hw0
        have B0 := Lib.hid hwb
        clear hw0 hwb H0
        obtain ⟨t0, t1, t2, t3, t4, t5, t6, q0, q1, q2, q3, q4, q5, q6, q7, f0, f1, f2, f3, f4, f5, f6, f7, r0, r1, r2, r3, r4, r5, r6, r7, g0, g1, g2, g3, g4, g5, g6, g7⟩ := H1.out.facts
        go_wp2
        obtain ⟨⟨s0, s1, s2, s3, s4, s5, s6, s7⟩, hC, hT⟩ := ((⟨H1.out.low, H1.out.rb, CH.out.below B0.out, BL.out, RL.out⟩ : Outs RT w b r n L W0)).ends (.int .i64 dn) (.int .i64 dm) (.int .i64 db) (.int .i64 rl) (.int .u64 (y 0)) (.int .u64 (y 1)) (.int .u64 (y 2)) (.int .u64 (y 3))
        exact bodyPost_ret (v := .tuple #[.agg #[.int .i64 (dn), .int .i64 dm, .int .i64 (db), .int .i64 rl, .int .u64 (y 0), .int .u64 (y 1), .int .u64 (y 2), .int .u64 (y 3)], .bool false]) (by simp [results, Try.results17, go_sem, s0, s1, s2, s3, s4, s5, s6, s7]) rfl ⟨rfl, hC, hT⟩
      · skip
        by_cases n2 : db < 0
        · clear HF
          generalize wd p = y at *
          go_enter Try.func17, Try.ntmps17
          go_upto_region 1 with fail
          refine gen_world (fun W => StepAt (fun k => k = r) w x dn dm db rl y W ∧ Below w.heap.size w W) ⟨H0.out, (by repeat (first | exact Below.refl _ _ | (with_reducible assumption) | refine bw_alloc ?_ _ | refine bw_drew ?_))⟩ ?_
          intro W0 ⟨hw0, hwb⟩
          have H1 := Lib.hid hw0
          have B0 := Lib.hid hwb
          clear hw0 hwb H0
          obtain ⟨t0, t1, t2, t3, t4, t5, t6, q0, q1, q2, q3, q4, q5, q6, q7, f0, f1, f2, f3, f4, f5, f6, f7, r0, r1, r2, r3, r4, r5, r6, r7, g0, g1, g2, g3, g4, g5, g6, g7⟩ := H1.out.facts
          go_wp2
          obtain ⟨⟨s0, s1, s2, s3, s4, s5, s6, s7⟩, hC, hT⟩ := ((⟨H1.out.low, H1.out.rb, CH.out.below B0.out, BL.out, RL.out⟩ : Outs RT w b r n L W0)).ends (.int .i64 dn) (.int .i64 dm) (.int .i64 db) (.int .i64 rl) (.int .u64 (y 0)) (.int .u64 (y 1)) (.int .u64 (y 2)) (.int .u64 (y 3))
          exact bodyPost_ret (v := .tuple #[.agg #[.int .i64 (dn), .int .i64 dm, .int .i64 (db), .int .i64 rl, .int .u64 (y 0), .int .u64 (y 1), .int .u64 (y 2), .int .u64 (y 3)], .bool false]) (by simp [results, Try.results17, go_sem, s0, s1, s2, s3, s4, s5, s6, s7]) rfl ⟨rfl, hC, hT⟩
        · skip
          by_cases n3 : rel < 0
          · clear HF
            generalize wd p = y at *
            go_enter Try.func17, Try.ntmps17
            go_upto_region 1 with fail
            refine gen_world (fun W => StepAt (fun k => k = r) w x dn dm db rl y W ∧ Below w.heap.size w W) ⟨H0.out, (by repeat (first | exact Below.refl _ _ | (with_reducible assumption) | refine bw_alloc ?_ _ | refine bw_drew ?_))⟩ ?_
            intro W0 ⟨hw0, hwb⟩
            have H1 := Lib.hid hw0
            have B0 := Lib.hid hwb
            clear hw0 hwb H0
            obtain ⟨t0, t1, t2, t3, t4, t5, t6, q0, q1, q2, q3, q4, q5, q6, q7, f0, f1, f2, f3, f4, f5, f6, f7, r0, r1, r2, r3, r4, r5, r6, r7, g0, g1, g2, g3, g4, g5, g6, g7⟩ := H1.out.facts
            go_wp2
            obtain ⟨⟨s0, s1, s2, s3, s4, s5, s6, s7⟩, hC, hT⟩ := ((⟨H1.out.low, H1.out.rb, CH.out.below B0.out, BL.out, RL.out⟩ : Outs RT w b r n L W0)).ends (.int .i64 dn) (.int .i64 dm) (.int .i64 db) (.int .i64 rl) (.int .u64 (y 0)) (.int .u64 (y 1)) (.int .u64 (y 2)) (.int .u64 (y 3))
            exact bodyPost_ret (v := .tuple #[.agg #[.int .i64 (dn), .int .i64 dm, .int .i64 (db), .int .i64 rl, .int .u64 (y 0), .int .u64 (y 1), .int .u64 (y 2), .int .u64 (y 3)], .bool false]) (by simp [results, Try.results17, go_sem, s0, s1, s2, s3, s4, s5, s6, s7]) rfl ⟨rfl, hC, hT⟩
          · skip
            by_cases n4 : 1000 < rel
            · clear HF
              generalize wd p = y at *
              go_enter Try.func17, Try.ntmps17
              go_upto_region 1 with fail
              refine gen_world (fun W => StepAt (fun k => k = r) w x dn dm db rl y W ∧ Below w.heap.size w W) ⟨H0.out, (by repeat (first | exact Below.refl _ _ | (with_reducible assumption) | refine bw_alloc ?_ _ | refine bw_drew ?_))⟩ ?_
              intro W0 ⟨hw0, hwb⟩
              have H1 := Lib.hid hw0
              have B0 := Lib.hid hwb
              clear hw0 hwb H0
              obtain ⟨t0, t1, t2, t3, t4, t5, t6, q0, q1, q2, q3, q4, q5, q6, q7, f0, f1, f2, f3, f4, f5, f6, f7, r0, r1, r2, r3, r4, r5, r6, r7, g0, g1, g2, g3, g4, g5, g6, g7⟩ := H1.out.facts
              go_wp2
              obtain ⟨⟨s0, s1, s2, s3, s4, s5, s6, s7⟩, hC, hT⟩ := ((⟨H1.out.low, H1.out.rb, CH.out.below B0.out, BL.out, RL.out⟩ : Outs RT w b r n L W0)).ends (.int .i64 dn) (.int .i64 dm) (.int .i64 db) (.int .i64 rl) (.int .u64 (y 0)) (.int .u64 (y 1)) (.int .u64 (y 2)) (.int .u64 (y 3))
              exact bodyPost_ret (v := .tuple #[.agg #[.int .i64 (dn), .int .i64 dm, .int .i64 (db), .int .i64 rl, .int .u64 (y 0), .int .u64 (y 1), .int .u64 (y 2), .int .u64 (y 3)], .bool false]) (by simp [results, Try.results17, go_sem, s0, s1, s2, s3, s4, s5, s6, s7]) rfl ⟨rfl, hC, hT⟩
            · skip
              by_cases n5 : x.id < 1
              · clear HF
                generalize wd p = y at *
                go_enter Try.func17, Try.ntmps17
                go_upto_region 1 with fail
                refine gen_world (fun W => StepAt (fun k => k = r) w x dn dm db rl y W ∧ Below w.heap.size w W) ⟨H0.out, (by repeat (first | exact Below.refl _ _ | (with_reducible assumption) | refine bw_alloc ?_ _ | refine bw_drew ?_))⟩ ?_
                intro W0 ⟨hw0, hwb⟩
                have H1 := Lib.hid hw0
                have B0 := Lib.hid hwb
                clear hw0 hwb H0
                obtain ⟨t0, t1, t2, t3, t4, t5, t6, q0, q1, q2, q3, q4, q5, q6, q7, f0, f1, f2, f3, f4, f5, f6, f7, r0, r1, r2, r3, r4, r5, r6, r7, g0, g1, g2, g3, g4, g5, g6, g7⟩ := H1.out.facts
                go_wp2
                obtain ⟨⟨s0, s1, s2, s3, s4, s5, s6, s7⟩, hC, hT⟩ := ((⟨H1.out.low, H1.out.rb, CH.out.below B0.out, BL.out, RL.out⟩ : Outs RT w b r n L W0)).ends (.int .i64 dn) (.int .i64 dm) (.int .i64 db) (.int .i64 rl) (.int .u64 (y 0)) (.int .u64 (y 1)) (.int .u64 (y 2)) (.int .u64 (y 3))
                exact bodyPost_ret (v := .tuple #[.agg #[.int .i64 (dn), .int .i64 dm, .int .i64 (db), .int .i64 rl, .int .u64 (y 0), .int .u64 (y 1), .int .u64 (y 2), .int .u64 (y 3)], .bool false]) (by simp [results, Try.results17, go_sem, s0, s1, s2, s3, s4, s5, s6, s7]) rfl ⟨rfl, hC, hT⟩
              · skip
                have n6 : decide (99 < x.id) = true := decide_eq_true (Decidable.byContradiction fun z => HF.out ⟨⟨by omega, by omega⟩, by omega, by omega, by show 0 ≤ dn; omega, by show dn < dm; omega, by show 0 ≤ db; omega⟩)
                clear HF
                generalize wd p = y at *
                go_enter Try.func17, Try.ntmps17
                go_upto_region 1 with fail
                refine gen_world (fun W => StepAt (fun k => k = r) w x dn dm db rl y W ∧ Below w.heap.size w W) ⟨H0.out, (by repeat (first | exact Below.refl _ _ | (with_reducible assumption) | refine bw_alloc ?_ _ | refine bw_drew ?_))⟩ ?_
                intro W0 ⟨hw0, hwb⟩
                have H1 := Lib.hid hw0
                have B0 := Lib.hid hwb
                clear hw0 hwb H0
                obtain ⟨t0, t1, t2, t3, t4, t5, t6, q0, q1, q2, q3, q4, q5, q6, q7, f0, f1, f2, f3, f4, f5, f6, f7, r0, r1, r2, r3, r4, r5, r6, r7, g0, g1, g2, g3, g4, g5, g6, g7⟩ := H1.out.facts
                go_wp2
                obtain ⟨⟨s0, s1, s2, s3, s4, s5, s6, s7⟩, hC, hT⟩ := ((⟨H1.out.low, H1.out.rb, CH.out.below B0.out, BL.out, RL.out⟩ : Outs RT w b r n L W0)).ends (.int .i64 dn) (.int .i64 dm) (.int .i64 db) (.int .i64 rl) (.int .u64 (y 0)) (.int .u64 (y 1)) (.int .u64 (y 2)) (.int .u64 (y 3))
                exact bodyPost_ret (v := .tuple #[.agg #[.int .i64 (dn), .int .i64 dm, .int .i64 (db), .int .i64 rl, .int .u64 (y 0), .int .u64 (y 1), .int .u64 (y 2), .int .u64 (y 3)], .bool false]) (by simp [results, Try.results17, go_sem, s0, s1, s2, s3, s4, s5, s6, s7]) rfl ⟨rfl, hC, hT⟩
end Go.Proofs.Ytfifgojbihdhcaa

/-
  Works, rows of pairs and rows of steps that came in, opened.
-/
namespace Go.Proofs.Ytfifgojbihdhcaa
open Go.ChangeShapes Go.WideShapes Go.ChangeAt Go.RowKit

section
variable {H : Type} {enc : TypeId × Value → H} {W : World} {base : Nat} {spare : Nat → Bool} {held : Bool}

theorem nat_of_wf {n : Int} (h : (Lit.int .u64 n).wf = true) : ∃ m : Nat, n = (m : Int) ∧ m < 18446744073709551616 := by
  simp [Lit.wf, IntKind.min, IntKind.max, IntKind.signed, IntKind.bits] at h
  exact ⟨n.toNat, by omega, by omega⟩
/-- The four words of a set. -/
theorem open_bits {fuel : Nat} {v0 v1 v2 v3 : Value} {y : DataW H × List MemPlace} (h : DataW.trod enc Try.prog W base spare held fuel 37 [v0, v1, v2, v3] = some y) :
    ∃ x : Nat → Nat, (v0 = .int .u64 (x 0) ∧ v1 = .int .u64 (x 1) ∧ v2 = .int .u64 (x 2) ∧ v3 = .int .u64 (x 3)) ∧ ∀ k, x k < 18446744073709551616 := by
  have k1 : Try.prog.cellsOf 35 = 1 := by kernel_rfl
  obtain ⟨ys, m, _, _, hlen, hyl, hall⟩ := DataW.trod_array Try.underlying37 h
  rw [k1] at hall
  match ys, hyl with
  | [y0, y1, y2, y3], _ =>
    have t0 : DataW.trod enc Try.prog W base spare held m 35 [v0] = some y0 := by have q := hall 0 (by omega); simpa using q
    have t1 : DataW.trod enc Try.prog W base spare held m 35 [v1] = some y1 := by have q := hall 1 (by omega); simpa using q
    have t2 : DataW.trod enc Try.prog W base spare held m 35 [v2] = some y2 := by have q := hall 2 (by omega); simpa using q
    have t3 : DataW.trod enc Try.prog W base spare held m 35 [v3] = some y3 := by have q := hall 3 (by omega); simpa using q
    obtain ⟨n0, e0, _, w0⟩ := DataW.trod_int Try.underlying35 t0
    obtain ⟨n1, e1, _, w1⟩ := DataW.trod_int Try.underlying35 t1
    obtain ⟨n2, e2, _, w2⟩ := DataW.trod_int Try.underlying35 t2
    obtain ⟨n3, e3, _, w3⟩ := DataW.trod_int Try.underlying35 t3
    simp at e0 e1 e2 e3
    subst e0 e1 e2 e3
    obtain ⟨m0, rfl, l0⟩ := nat_of_wf w0
    obtain ⟨m1, rfl, l1⟩ := nat_of_wf w1
    obtain ⟨m2, rfl, l2⟩ := nat_of_wf w2
    obtain ⟨m3, rfl, l3⟩ := nat_of_wf w3
    exact ⟨fun k => match k with | 0 => m0 | 1 => m1 | 2 => m2 | _ => m3, ⟨rfl, rfl, rfl, rfl⟩, fun k => by
      match k with
      | 0 => exact l0
      | 1 => exact l1
      | 2 => exact l2
      | _ + 3 => exact l3⟩
/-- The cells of a work. -/
theorem open_wcells {fuel : Nat} {cs : List Value} {y : DataW H × List MemPlace} (h : DataW.trod enc Try.prog W base spare held fuel WT cs = some y) :
    ∃ (a b c d : Int) (x : Nat → Nat), cs = [.int .i64 a, .int .i64 b, .int .i64 c, .int .i64 d, .int .u64 (x 0), .int .u64 (x 1), .int .u64 (x 2), .int .u64 (x 3)] ∧ (I64 a ∧ I64 b ∧ I64 c ∧ I64 d) ∧ ∀ k, x k < 18446744073709551616 := by
  obtain ⟨xs, n, _, _, hl, hlen, hf⟩ := DataW.trod_struct Try.underlying39 h
  have hl8 : cs.length = 8 := hl.trans (by kernel_rfl)
  have hx5 : xs.length = 5 := hlen
  have k1 : Try.prog.cellsOf 2 = 1 := by kernel_rfl
  have k2 : Try.prog.cellsOf 37 = 4 := by kernel_rfl
  match cs, hl8, xs, hx5 with
  | [v0, v1, v2, v3, v4, v5, v6, v7], _, [y0, y1, y2, y3, y4], _ =>
    have t0 : DataW.trod enc Try.prog W base spare held n 2 [v0] = some y0 := by have q := hf 0 _ rfl; simpa [k1, k2] using q
    have t1 : DataW.trod enc Try.prog W base spare held n 2 [v1] = some y1 := by have q := hf 1 _ rfl; simpa [k1, k2] using q
    have t2 : DataW.trod enc Try.prog W base spare held n 2 [v2] = some y2 := by have q := hf 2 _ rfl; simpa [k1, k2] using q
    have t3 : DataW.trod enc Try.prog W base spare held n 2 [v3] = some y3 := by have q := hf 3 _ rfl; simpa [k1, k2] using q
    have t4 : DataW.trod enc Try.prog W base spare held n 37 [v4, v5, v6, v7] = some y4 := by have q := hf 4 _ rfl; simpa [k1, k2] using q
    obtain ⟨n0, e0, _, w0⟩ := DataW.trod_int Try.underlying2 t0
    obtain ⟨n1, e1, _, w1⟩ := DataW.trod_int Try.underlying2 t1
    obtain ⟨n2, e2, _, w2⟩ := DataW.trod_int Try.underlying2 t2
    obtain ⟨n3, e3, _, w3⟩ := DataW.trod_int Try.underlying2 t3
    obtain ⟨x, ⟨e4, e5, e6, e7⟩, hx⟩ := open_bits t4
    simp at e0 e1 e2 e3
    subst e0 e1 e2 e3 e4 e5 e6 e7
    exact ⟨n0, n1, n2, n3, x, rfl, ⟨i64_of_wf w0, i64_of_wf w1, i64_of_wf w2, i64_of_wf w3⟩, hx⟩
/-- A work by value. -/
theorem open_work {r : Reach} {b0 : Nat} {v : Value} {d : DataW H} {p : List MemPlace} (hv : Value.okWide Try.prog W r b0 WT v) (h : DataW.Trod enc Try.prog W base spare held WT v d p) :
    ∃ (a b c d : Int) (x : Nat → Nat), v = .agg #[.int .i64 a, .int .i64 b, .int .i64 c, .int .i64 d, .int .u64 (x 0), .int .u64 (x 1), .int .u64 (x 2), .int .u64 (x 3)] ∧ (I64 a ∧ I64 b ∧ I64 c ∧ I64 d) ∧ ∀ k, x k < 18446744073709551616 := by
  obtain ⟨cs, rfl, _⟩ := okWide_struct Try.underlying39 hv
  obtain ⟨fuel, hf⟩ := h
  obtain ⟨a, b, c, d, x, hx, h1, h2⟩ := open_wcells hf
  refine ⟨a, b, c, d, x, ?_, h1, h2⟩
  simp only [Value.cells] at hx
  congr 1
  apply Array.ext'
  exact hx
/-- Words are a set's. -/
theorem words_set (x : Nat → Nat) (hx : ∀ k, x k < 18446744073709551616) : ∃ p : Nat → Bool, wd p 0 = x 0 ∧ wd p 1 = x 1 ∧ wd p 2 = x 2 ∧ wd p 3 = x 3 :=
  ⟨_, wd_setOf (x 0) (x 1) (x 2) (x 3) (hx 0) (hx 1) (hx 2) (hx 3)⟩
end
end Go.Proofs.Ytfifgojbihdhcaa
