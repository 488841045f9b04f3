/- Texts of this claim, put together: BList, BIter, BListW, BRef5, BRef6, CW4, EAdd, EGrow, EBr. -/
import Derived.Test.YtlglncnhhgofoaaM6
import Derived.Lib.TrailingZeros
import Derived.RangeFuncNested
import Derived.RangeFuncBound
import Derived.RangeFuncCalls
import Derived.RangeFuncLeaves
import Derived.RangeFuncBox
import Derived.Shelf.Abstract
import Derived.Shelf.RegionOpen
import Derived.OwnWalkIn
import Derived.TacticsInMore
import Derived.LoopNIn
import Derived.LoopIn
import Derived.Maps.AppendAt
import Derived.Laws.MakeOwn
import Derived.OwnWalk
import Derived.RangeFuncWrites
import Derived.Deep.RegionHeldLaw
import Derived.Deep.RegionHeld3
set_option linter.unusedVariables false
set_option linter.unusedSimpArgs false

/-
  The numbers of a set, one by one, rising: plain numbers, no program in this text.
-/
namespace Go.Proofs.Ytlglncnhhgofoaa

/-- The bits of a word that are 1, rising. -/
def ones (v : Nat) : List Nat := (List.range 64).filter v.testBit
/-- The numbers below n of a set, rising. -/
def below (p : Nat → Bool) (n : Nat) : List Nat := (List.range n).filter p

theorem filter_first {q q' : Nat → Bool} {j : Nat} (hj : q j = true) (hlo : ∀ i, i < j → q i = false) (hq : ∀ i, q' i = (q i && decide (i ≠ j))) :
    ∀ n, j < n → (List.range n).filter q = j :: (List.range n).filter q'
  | 0, h => absurd h (Nat.not_lt_zero _)
  | n + 1, h => by
    rw [List.range_succ, List.filter_append, List.filter_append]
    by_cases e : j = n
    · subst e
      have h1 : (List.range j).filter q = [] := List.filter_eq_nil_iff.2 fun i hi => by rw [hlo i (List.mem_range.1 hi)]; simp
      have h2 : (List.range j).filter q' = [] := List.filter_eq_nil_iff.2 fun i hi => by rw [hq, hlo i (List.mem_range.1 hi)]; simp
      rw [h1, h2]; simp [hj, hq]
    · rw [filter_first hj hlo hq n (by omega)]
      simp only [List.cons_append, List.cons.injEq, true_and]
      congr 1
      simp only [List.filter_cons, List.filter_nil, hq n]
      simp [show n ≠ j by omega]

theorem ones_zero : ones 0 = [] := List.filter_eq_nil_iff.2 fun i _ => by simp

theorem ones_next {v : Nat} (h0 : v ≠ 0) (h : v < 18446744073709551616) :
    Lib.ctz 64 v < 64 ∧ ones v = Lib.ctz 64 v :: ones (v &&& (v - 1)) := by
  obtain ⟨m, hm, hk⟩ := Lib.ctzFrom_spec 64 v (by omega) h
  have hc : Lib.ctz 64 v = Lib.ctzFrom 64 v := by unfold Lib.ctz; rw [if_neg h0]
  rw [hc]
  generalize Lib.ctzFrom 64 v = j at hm hk
  have hp : 0 < 2 ^ j := Nat.two_pow_pos j
  have hb : ∀ i, v.testBit i = (decide (j ≤ i) && (2 * m + 1).testBit (i - j)) := fun i => by rw [hm, Nat.testBit_two_pow_mul]
  have hv1 : v - 1 = 2 ^ j * (2 * m) + (2 ^ j - 1) := by rw [hm, Nat.mul_add]; omega
  have hb1 : ∀ i, (v - 1).testBit i = if i < j then (2 ^ j - 1).testBit i else (2 * m).testBit (i - j) := fun i => by rw [hv1, Nat.testBit_two_pow_mul_add _ (by omega)]
  refine ⟨hk, filter_first (j := j) ?_ ?_ ?_ 64 hk⟩
  · rw [hb]; simp
  · intro i hi; rw [hb]; simp; omega
  · intro i
    rw [Nat.testBit_and, hb, hb1]
    rcases Nat.lt_trichotomy i j with g | g | g
    · simp [show ¬ j ≤ i by omega]
    · subst g; simp
    · obtain ⟨d, rfl⟩ : ∃ d, i = j + 1 + d := ⟨i - j - 1, by omega⟩
      have e : j + 1 + d - j = d + 1 := by omega
      rw [e, Nat.testBit_succ, Nat.testBit_succ, show (2 * m + 1) / 2 = m by omega, show 2 * m / 2 = m by omega]
      simp [show ¬ j + 1 + d < j by omega, show j + 1 + d ≠ j by omega]

theorem ones_wd (p : Nat → Bool) (k : Nat) : below p (64 * (k + 1)) = below p (64 * k) ++ (ones (wd p k)).map (64 * k + ·) := by
  unfold below ones
  rw [show 64 * (k + 1) = 64 * k + 64 by omega, List.range_add, List.filter_append]
  congr 1
  rw [List.filter_map]
  congr 1
  refine List.filter_congr fun j hj => ?_
  rw [wd_bit p k (List.mem_range.1 hj)]; rfl

theorem below_length (p : Nat → Bool) : ∀ n, (below p n).length = cntN p n
  | 0 => rfl
  | n + 1 => by
    have := below_length p n
    unfold below at this ⊢
    rw [List.range_succ, List.filter_append, List.length_append, this]
    simp only [cntN, List.filter_cons, List.filter_nil]
    split <;> rfl

theorem mem_below {p : Nat → Bool} {n x : Nat} : x ∈ below p n ↔ x < n ∧ p x = true := by unfold below; simp
theorem below_pairwise (p : Nat → Bool) (n : Nat) : (below p n).Pairwise (· < ·) := List.Pairwise.filter _ List.pairwise_lt_range

/-- A set's numbers. -/
def els (p : Nat → Bool) : List Int := (below p 256).map fun x : Nat => (x : Int)

end Go.Proofs.Ytlglncnhhgofoaa

/-
  The walk over what tells a set's numbers one by one.
-/
namespace Go.Proofs.Ytlglncnhhgofoaa
open Go.RowKit Go.Shelf
attribute [local go_sem] Oper.semAt_some

def elsN (p : Nat → Bool) (k : Nat) : List Int := (below p (64 * k)).map fun x : Nat => (x : Int)
def onesAt (k x : Nat) : List Int := (ones x).map fun j : Nat => (k : Int) * 64 + (j : Int)

theorem elsN_next (p : Nat → Bool) (k : Nat) : elsN p (k + 1) = elsN p k ++ onesAt k (wd p k) := by
  unfold elsN onesAt
  rw [ones_wd, List.map_append, List.map_map]
  congr 1
  exact List.map_congr_left fun j _ => by simp; omega
theorem onesAt_zero (k : Nat) : onesAt k 0 = [] := by unfold onesAt; rw [ones_zero]; rfl
theorem onesAt_next (k : Nat) {x : Nat} (h0 : x ≠ 0) (h : x < 18446744073709551616) : onesAt k x = ((k : Int) * 64 + (Lib.ctz 64 x : Int)) :: onesAt k (x &&& (x - 1)) := by
  unfold onesAt; rw [(ones_next h0 h).2]; rfl
theorem elsN_pre (p : Nat → Bool) : ∀ {k}, k ≤ 4 → ∃ t, els p = elsN p k ++ t := by
  have h : ∀ d k, k + d = 4 → ∃ t, els p = elsN p k ++ t := by
    intro d
    induction d with
    | zero => intro k hk; obtain rfl : k = 4 := by omega
              exact ⟨[], by simp [els, elsN]⟩
    | succ d ih =>
      intro k hk
      obtain ⟨t, ht⟩ := ih (k + 1) (by omega)
      exact ⟨onesAt k (wd p k) ++ t, by rw [ht, elsN_next, List.append_assoc]⟩
  exact fun {k} hk => h (4 - k) k (by omega)

theorem l_index_any (a : Nat → Nat) {k : Nat} (hk : k < 4) (w : World) : (Instr.index 47 (.agg #[.int .u64 (a 0), .int .u64 (a 1), .int .u64 (a 2), .int .u64 (a 3)]) (.int .i64 (k : Int))).run Try.prog w = .ok (.int .u64 (a k)) w := by
  rcases (show k = 0 ∨ k = 1 ∨ k = 2 ∨ k = 3 by omega) with rfl | rfl | rfl | rfl
  · exact index_0 ..
  · exact index_1 ..
  · exact index_2 ..
  · exact index_3 ..

end Go.Proofs.Ytlglncnhhgofoaa

/-
  The walk over the list of a set.
-/
namespace Go.Proofs.Ytlglncnhhgofoaa
open Go.RowKit Go.Shelf
attribute [local go_sem] Oper.semAt_some

theorem infoInt : (Try.prog.info? 3).map (fun i => (i.zero, i.size, i.bytes)) = some (some (.int .i64 0), 1, 8) := by kernel_rfl

theorem make_run (c : Nat) (hc : c ≤ 256) (w : World) : (Instr.makeSlice 28 (.int .i64 0) (.int .i64 (c : Int))).run Try.prog w = .ok (.slice (some ⟨w.heap.size, 0, none⟩) 0 c) (w.alloc (.cells (madeCells #[.int .i64 0] c) 3)) := by
  obtain ⟨i0, hi, hz0, hz1, hz2⟩ := info_parts infoInt
  have h := run_make w 28 3 i0 (.int .i64 0) Try.underlying28 hi hz0 .i64 .i64 0 c (by omega) (by omega) (by rw [hz2]; omega) (by omega)
  rw [hz1] at h
  simpa [Value.cells] using h

/-- What the list of a set is: a row of its own. -/
def ListPost (p : Nat → Bool) (w : World) (e : Ending) (w' : World) : Prop :=
  ∃ v, e = .returned v ∧ w'.ownsRow w.heap.size 3 1 v (els p).length ((els p).map (Value.int .i64)) ∧ Below w.heap.size w w'

end Go.Proofs.Ytlglncnhhgofoaa

/-
  The walks over the document's own list and count; two rows held against each other; the first numbers of a row; the chapter's example.
-/
namespace Go.Proofs.Ytlglncnhhgofoaa
open Go.RowKit

theorem owns_below {w w' : World} {B base : Nat} {e : TypeId} {size n : Nat} {v : Value} {xs : List Value} (h : w.ownsRow base e size v n xs) (hb : Below B w w') (hB : w.heap.size ≤ B) : w'.ownsRow base e size v n xs := by
  refine ⟨h.1, ?_⟩
  rcases h.2 with h | ⟨g, cap, cur, h1, h2, h3, h4⟩
  · exact .inl h
  · have hg : g < w.heap.size := (Array.getElem?_eq_some_iff.1 h3).1
    exact .inr ⟨g, cap, cur, h1, h2, (hb.block g (by omega)).trans h3, h4⟩
theorem owns_base {w : World} {base base' : Nat} {e : TypeId} {size n : Nat} {v : Value} {xs : List Value} (h : w.ownsRow base e size v n xs) (hB : base' ≤ base) : w.ownsRow base' e size v n xs := by
  refine ⟨h.1, ?_⟩
  rcases h.2 with h | ⟨g, cap, cur, h1, h2, h3⟩
  · exact .inl h
  · exact .inr ⟨g, cap, cur, h1, by omega, h3⟩

/-- A row of one's own, read. -/
theorem owns_reads {w : World} {base : Nat} {v : Value} {E : List Int} (h : w.ownsRow base 3 1 v E.length (E.map (Value.int .i64))) :
    ∃ ao cap, v = .slice ao E.length cap ∧ Reads w w.heap.size ao E ∧ (cap : Int) ≤ 9223372036854775807 ∧ E.length ≤ cap := by
  rcases h.2 with ⟨rfl, h0⟩ | ⟨g, cap, cur, rfl, h2, h3, h4, h5, _⟩
  · exact ⟨none, 0, by rw [h0], .inl (List.eq_nil_of_length_eq_zero h0), by omega, by omega⟩
  · refine ⟨some ⟨g, 0, none⟩, cap, rfl, ?_, by unfold maxLen at h5; omega, h4⟩
    right
    refine ⟨g, 0, rfl, (Array.getElem?_eq_some_iff.1 h3).1, fun k hk => ?_⟩
    have := h.cells (g := g) (by simp [Value.ownBlock]) k (.int .i64 (E.getD k 0)) (by rw [List.getElem?_map, List.getElem?_eq_getElem hk, List.getD_eq_getElem?_getD, List.getElem?_eq_getElem hk]; rfl)
    have e : (⟨g, 0, none⟩ : Addr).add k = ⟨g, 0 + k, none⟩ := by unfold Addr.add; split <;> simp_all
    rw [e] at this
    exact this

def Blk4 (w : World) (b x0 x1 x2 x3 : Nat) : Prop := w.heap[b]? = some (.cells #[.int .u64 x0, .int .u64 x1, .int .u64 x2, .int .u64 x3] 47 (0, 0))
theorem Blk4.lt {w : World} {b x0 x1 x2 x3 : Nat} (h : Blk4 w b x0 x1 x2 x3) : b < w.heap.size := (Array.getElem?_eq_some_iff.1 h).1
theorem Blk4.cells {w : World} {b x0 x1 x2 x3 : Nat} (h : Blk4 w b x0 x1 x2 x3) : w.cell? ⟨b, 0, none⟩ = some (.int .u64 x0) ∧ w.cell? ⟨b, 1, none⟩ = some (.int .u64 x1) ∧ w.cell? ⟨b, 2, none⟩ = some (.int .u64 x2) ∧ w.cell? ⟨b, 3, none⟩ = some (.int .u64 x3) := by
  unfold Blk4 at h; simp [World.cell?, h]

structure LoopL (p : Nat → Bool) (w wr : World) (n : Nat) (v : Value) : Prop where
  x : Blk4 wr w.heap.size (wd p 0) (wd p 1) (wd p 2) (wd p 3)
  row : wr.ownsRow (w.heap.size + 1) 3 1 v (below p n).length (((below p n).map fun x : Nat => (x : Int)).map (Value.int .i64))
  low : Below w.heap.size w wr

theorem below_yes {p : Nat → Bool} {n : Nat} (h : p n = true) : below p (n + 1) = below p n ++ [n] := by unfold below; rw [List.range_succ, List.filter_append]; simp [h]
theorem below_no {p : Nat → Bool} {n : Nat} (h : p n = false) : below p (n + 1) = below p n := by unfold below; rw [List.range_succ, List.filter_append]; simp [h]

theorem LoopL.next {p : Nat → Bool} {w wr w1 w3 : World} {n : Nat} {v v' : Value} {o : Obj} (h : LoopL p w wr n v) (hw : Below wr.heap.size wr w1) (hp : p n = true)
    (hown : w3.ownsRow (w.heap.size + 1) 3 1 v' ((below p n).length + 1) (((below p n).map fun x : Nat => (x : Int)).map (Value.int .i64) ++ [.int .i64 (n : Int)])) (hg : (w1.alloc o).grownBy w3 v.ownBlock) : LoopL p w w3 (n + 1) v' := by
  have hlt := h.x.lt
  have hsz := hw.size
  have hne : ∀ k, v.ownBlock = some k → w.heap.size + 1 ≤ k := fun k hk => (h.row.lt k hk).1
  refine ⟨?_, ?_, ?_⟩
  · have h1 : Blk4 w1 w.heap.size (wd p 0) (wd p 1) (wd p 2) (wd p 3) := (hw.block _ hlt).trans h.x
    have h2 : Blk4 (w1.alloc o) w.heap.size (wd p 0) (wd p 1) (wd p 2) (wd p 3) := (Below.heap_alloc w1 o _ h1.lt).trans h1
    exact (hg.block _ h2.lt (fun e => by have := hne _ e.symm; omega)).trans h2
  · rw [below_yes hp]
    simpa using hown
  · exact ((h.low.trans (hw.mono h.low.size)).alloc (Nat.le_trans h.low.size hsz) o).grown hg (Nat.le_trans h.low.size (by simp; omega)) fun k hk => by have := hne k hk; omega
theorem LoopL.stay {p : Nat → Bool} {w wr w1 : World} {n : Nat} {v : Value} (h : LoopL p w wr n v) (hw : Below wr.heap.size wr w1) (hp : p n = false) : LoopL p w w1 (n + 1) v :=
  ⟨(hw.block _ h.x.lt).trans h.x, by rw [below_no hp]; exact owns_below h.row hw (Nat.le_refl _), h.low.trans (hw.mono h.low.size)⟩

set_option maxRecDepth 100000 in
set_option maxHeartbeats 4000000 in
theorem rlist_any (p : Nat → Bool) (w : World) : Calls Try.prog 68 #[.agg #[.int .u64 (wd p 0), .int .u64 (wd p 1), .int .u64 (wd p 2), .int .u64 (wd p 3)]] w (ListPost p w) := by
  obtain ⟨i0, hi, hz0, hz1, hz2⟩ := info_parts infoInt
  have H := Lib.hid (fun (n : Nat) (h : n < 256) w => (show Calls Try.prog 64 #[.agg #[.int .u64 (wd p 0), .int .u64 (wd p 1), .int .u64 (wd p 2), .int .u64 (wd p 3)], .int .i64 n] w fun e w' => e = .returned (.bool (p n)) ∧ Below w.heap.size w w' by have := rhas_any p n w; rw [hasP_nat h] at this; exact this))
  go_enter Try.func68, Try.ntmps68
  go_wp2
  go_loopw [3, 4] (fun v i wr => ∃ n : Nat, n ≤ 256 ∧ i = .int .i64 n ∧ Hid (LoopL p w wr n v)) (fun _ i _ => (256 - intOf i).toNat)
  case atStart =>
    exact ⟨0, by omega, rfl, ⟨World.alloc_heap_new w _, World.ownsRow_nil _ _ _ _, (Below.refl _ _).alloc (Nat.le_refl _) _⟩⟩
  case round =>
    obtain ⟨n, hn, rfl, HL⟩ := hrel
    by_cases hlt : n < 256
    · obtain ⟨x0, x1, x2, x3⟩ := HL.out.x.cells
      have C := Lib.hid (H.out n hlt)
      have hlen : (below p n).length ≤ 256 := by rw [below_length]; have := cntN_le p n; omega
      clear H
      cases hq : p n with
      | false =>
        have HN := Lib.hid (fun w1 hw => HL.out.stay (w1 := w1) hw hq)
        rw [hq] at C
        clear HL hq hlen
        generalize wd p = a at x0 x1 x2 x3 C
        go_wp2_with (go_at_call 64; (refine (C.out _).mono ?_); rintro e w1 ⟨rfl, hw1⟩; have HM := Lib.hid (HN.out _ hw1); clear hw1)
        go_roundw
        case rel => exact ⟨n + 1, by omega, by go_num, HM⟩
        case measure => simp [intOf]; omega
      | true =>
        have HQ := Lib.hid hq
        rw [hq] at C
        clear hq
        generalize wd p = a at x0 x1 x2 x3 C
        go_wp2_with (first
          | (go_at_call 64; (refine (C.out _).mono ?_); rintro e w1 ⟨rfl, hw1⟩; have HR := Lib.hid (owns_below HL.out.row hw1 (Nat.le_refl _)); have HZ := Lib.hid (Nat.le_trans (HL.out.x.lt : w.heap.size + 1 ≤ wr.heap.size) hw1.size); have HW := Lib.hid hw1; clear hw1)
          | (at_builtin; refine wpList_append_own _ rfl _ _ 28 rfl (w.heap.size + 1) 3 i0 (.int .i64 0) 1 8 Try.underlying28 hi hz0 hz1 hz2 rfl (by decide) _ _ _ rfl (HR.out.alloc _) ⟨w1.heap.size, 0, none⟩ 1 1 [.int .i64 n] rfl rfl (cell_one_new _ _ _) (fun x hx => by simp at hx; subst hx; rfl) (by unfold maxLen; omega) (by omega) (by have := HZ.out; simp; omega) ?_; intro v' w3 hown' hgrow _; have HM := Lib.hid (HL.out.next HW.out HQ.out hown' hgrow); clear hown' hgrow))
        go_roundw
        case rel => exact ⟨n + 1, by omega, by go_num, HM⟩
        case measure => simp [intOf]; omega
    · obtain rfl : n = 256 := by omega
      clear H
      go_wp2
      go_ret
      exact ⟨_, rfl, by
        have := owns_base HL.out.row (base' := w.heap.size) (by omega)
        unfold els; rw [List.length_map]; exact this, HL.out.low⟩

end Go.Proofs.Ytlglncnhhgofoaa

/-
  The walks over the document's own count; two rows held against each other; the first numbers of a row; the chapter's example.
-/
namespace Go.Proofs.Ytlglncnhhgofoaa
open Go.RowKit

theorem els_length (p : Nat → Bool) : (els p).length = cntN p 256 := by unfold els; rw [List.length_map, below_length]

set_option maxHeartbeats 1000000 in
theorem rlen_any (p : Nat → Bool) (w : World) :
    Calls Try.prog 41 #[.agg #[.int .u64 (wd p 0), .int .u64 (wd p 1), .int .u64 (wd p 2), .int .u64 (wd p 3)]] w fun e w' => e = .returned (.int .i64 (cntN p 256)) ∧ Below w.heap.size w w' := by
  have C := Lib.hid (fun w => rlist_any p w)
  have HE := Lib.hid (els_length p)
  have HB := Lib.hid ((Below.refl w.heap.size w).alloc (Nat.le_refl _) (.cells #[.int .u64 (wd p 0), .int .u64 (wd p 1), .int .u64 (wd p 2), .int .u64 (wd p 3)] 47))
  go_enter Try.func41, Try.ntmps41
  go_wp2_with (go_at_call 68; (refine (C.out _).mono ?_); rintro e w1 ⟨v, rfl, hown, hw1⟩; obtain ⟨ao, cap, rfl, _, _, _⟩ := owns_reads hown; have HB1 := Lib.hid (below_next hw1 HB.out (Nat.le_refl _)); clear hw1 hown)
  go_ret
  exact ⟨by rw [HE.out]; rfl, HB1.out⟩

theorem l_i64_of_wf {x : Int} (h : (Lit.int .i64 x).wf = true) : -9223372036854775808 ≤ x ∧ x ≤ 9223372036854775807 := by
  simp [Lit.wf, IntKind.min, IntKind.max, IntKind.signed, IntKind.bits] at h
  omega

theorem els_sample : els (ofN [5, 3, 300, 3] 4) = [3, 5] := by decide +kernel
theorem has_sample : hasP (ofN [3] 1) 3 = true := by decide +kernel

theorem reads_two (a b : Int) (g : Nat) (w : World) (hg : g < w.heap.size) (h0 : w.cell? ⟨g, 0, none⟩ = some (.int .i64 a)) (h1 : w.cell? ⟨g, 1, none⟩ = some (.int .i64 b)) : Reads w w.heap.size (some ⟨g, 0, none⟩) [a, b] :=
  .inr ⟨g, 0, rfl, hg, fun k hk => by
    rcases (show k = 0 ∨ k = 1 by simp at hk; omega) with rfl | rfl
    · exact h0
    · exact h1⟩

theorem reads_next {w w1 w2 : World} {B : Nat} {ao : Option Addr} {L : List Int} (hb : Below w1.heap.size w1 w2) (h : Reads w B ao L) (hB : B ≤ w.heap.size) (e : w1.heap = w.heap := by rfl) : Reads w2 w2.heap.size ao L := by
  rcases h with h | ⟨b, off, h1, h2, h3⟩
  · exact .inl h
  · refine .inr ⟨b, off, h1, ?_, fun k hk => ?_⟩
    · have := hb.size; rw [e] at this; omega
    · rw [hb.cell (p := ⟨b, off + k, none⟩) (by show b < _; rw [e]; omega), cell_same e]; exact h3 k hk

end Go.Proofs.Ytlglncnhhgofoaa

/-
  The walk over all sets that belong to one.
-/
namespace Go.Proofs.Ytlglncnhhgofoaa
open Go.RowKit Go.Maps Go.Shelf
attribute [local go_sem] Oper.semAt_some

/-- The set of a row of numbers. -/
def setP (l : List Int) (i : Nat) : Bool := decide ((i : Int) ∈ l)
theorem setP_nil (k : Nat) : wd (setP []) k = 0 := by
  have : wd (setP []) k = wd noneP k := natOf_congr fun j _ => by simp [setP, noneP]
  rw [this, wd_none]
theorem setP_put (l : List Int) (x : Int) (k : Nat) : wd (orP (setP l) (oneP x)) k = wd (setP (l ++ [x])) k := natOf_congr fun j _ => by
  simp only [setP, orP, oneP, List.mem_append, List.mem_singleton, Bool.decide_or]
theorem setP_all {n : Nat} {L : Nat → Int} {o : Int} (ho : okOwn o) (hn : n ≤ 256) (k : Nat) : wd (setP (ofsN L o n)) k = wd (ofP n L o) k := natOf_congr fun j _ => by
  unfold setP ofP
  rw [decide_eq_true ho, Bool.true_and, ← Bool.decide_and, decide_eq_decide]
  unfold ofsN
  simp only [List.mem_map, List.mem_filter, List.mem_range, decide_eq_true_eq]
  constructor
  · rintro ⟨i, ⟨h1, h2⟩, h3⟩
    obtain rfl : i = 64 * k + j := by omega
    exact ⟨h1, h2⟩
  · rintro ⟨h1, h2⟩
    exact ⟨_, ⟨h1, h2⟩, rfl⟩
theorem of_none {n : Nat} {L : Nat → Int} {o : Int} (ho : ¬ okOwn o) (k : Nat) : wd (ofP n L o) k = 0 := by
  have : wd (ofP n L o) k = wd noneP k := natOf_congr fun j _ => by simp [ofP, noneP, ho]
  rw [this, wd_none]
theorem ofs_bound (L : Nat → Int) (o : Int) (n : Nat) (x : Int) (h : x ∈ ofsN L o n) : x < n := by
  simp only [ofsN, List.mem_map, List.mem_filter, List.mem_range] at h
  obtain ⟨i, ⟨h1, _⟩, rfl⟩ := h
  omega
theorem Blk4.four {w : World} {b x0 x1 x2 x3 : Nat} (h : Blk4 w b x0 x1 x2 x3) : Four w b x0 x1 x2 x3 := by
  obtain ⟨h0, h1, h2, h3⟩ := h.cells
  exact ⟨h0, h1, h2, h3, blk_free h 0, blk_free h 1, blk_free h 2, blk_free h 3⟩
theorem Blk4.below {w w' : World} {b x0 x1 x2 x3 : Nat} (h : Blk4 w b x0 x1 x2 x3) (hb : Below w.heap.size w w') : Blk4 w' b x0 x1 x2 x3 := kept_obj hb h
theorem Blk4.set {w : World} {b x0 x1 x2 x3 : Nat} (h : Blk4 w b x0 x1 x2 x3) (y0 y1 y2 y3 : Nat) : Blk4 ((((w.setCell ⟨b, 0, none⟩ (.int .u64 y0)).setCell ⟨b, 1, none⟩ (.int .u64 y1)).setCell ⟨b, 2, none⟩ (.int .u64 y2)).setCell ⟨b, 3, none⟩ (.int .u64 y3)) b y0 y1 y2 y3 := by
  have h1 : (w.setCell ⟨b, 0, none⟩ (.int .u64 y0)).heap[b]? = some (.cells #[.int .u64 y0, .int .u64 x1, .int .u64 x2, .int .u64 x3] 47 (0, 0)) := (blk_set h _).trans rfl
  have h2 : ((w.setCell ⟨b, 0, none⟩ (.int .u64 y0)).setCell ⟨b, 1, none⟩ (.int .u64 y1)).heap[b]? = some (.cells #[.int .u64 y0, .int .u64 y1, .int .u64 x2, .int .u64 x3] 47 (0, 0)) := (blk_set h1 _).trans rfl
  have h3 : (((w.setCell ⟨b, 0, none⟩ (.int .u64 y0)).setCell ⟨b, 1, none⟩ (.int .u64 y1)).setCell ⟨b, 2, none⟩ (.int .u64 y2)).heap[b]? = some (.cells #[.int .u64 y0, .int .u64 y1, .int .u64 y2, .int .u64 x3] 47 (0, 0)) := (blk_set h2 _).trans rfl
  exact (blk_set h3 _).trans rfl
theorem set4_far {w : World} {b k : Nat} (hne : k ≠ b) (y0 y1 y2 y3 : Value) : ((((w.setCell ⟨b, 0, none⟩ y0).setCell ⟨b, 1, none⟩ y1).setCell ⟨b, 2, none⟩ y2).setCell ⟨b, 3, none⟩ y3).heap[k]? = w.heap[k]? := by
  rw [blk_far (a := ⟨b, 3, none⟩) hne, blk_far (a := ⟨b, 2, none⟩) hne, blk_far (a := ⟨b, 1, none⟩) hne, blk_far (a := ⟨b, 0, none⟩) hne]
/-- The two boxes of a set that grows: the one that comes back, the set itself. -/
structure TwoSets (w : World) (p : List Int → Nat → Nat) (pre : List Int) (W : World) : Prop where
  res : Blk4 W w.heap.size 0 0 0 0
  all : Blk4 W (w.heap.size + 1) (p pre 0) (p pre 1) (p pre 2) (p pre 3)
  low : Below w.heap.size w W
theorem TwoSets.own {w : World} {p : List Int → Nat → Nat} {B : Nat} (hB : w.heap.size ≤ B) : OwnFrom B (TwoSets w p) := fun s X Y row hs hg hrow => by
  have e : ∀ b x0 x1 x2 x3, Blk4 X b x0 x1 x2 x3 → Blk4 Y b x0 x1 x2 x3 := fun b x0 x1 x2 x3 hb => by
    refine (hg.block b hb.lt (fun e => ?_)).trans hb
    obtain ⟨_, o, ho, hc⟩ := hrow b e.symm
    rw [show X.heap[b]? = _ from hb] at ho
    cases ho
    cases hc
  exact ⟨e _ _ _ _ _ hs.res, e _ _ _ _ _ hs.all, hs.low.grown hg hs.low.size (fun k hk => Nat.le_trans hB (hrow k hk).1)⟩
theorem TwoSets.alloc {w W : World} {p : List Int → Nat → Nat} {pre : List Int} (h : TwoSets w p pre W) (o : Obj) : TwoSets w p pre (W.alloc o) :=
  ⟨h.res.below ((Below.refl _ _).alloc (Nat.le_refl _) o), h.all.below ((Below.refl _ _).alloc (Nat.le_refl _) o), h.low.alloc h.low.size o⟩
theorem two_boxes (W : World) {N : Nat} (hN : W.heap.size = N) (c1 c2 : Obj) : ((W.alloc c1).alloc c2).heap[N]? = some c1 ∧ ((W.alloc c1).alloc c2).heap[N + 1]? = some c2 := by
  subst hN
  refine ⟨kept_obj ((Below.refl _ _).alloc (Nat.le_refl _) _) (heap_alloc_new W _), ?_⟩
  have := heap_alloc_new (W.alloc c1) c2
  rwa [World.size_alloc] at this
/-- A round of it. -/
theorem TwoSets.put {w W w3 : World} {p : List Int → Nat → Nat} {pre : List Int} {x : Int} (h : TwoSets w p pre W) (hb : Below W.heap.size W w3) {S : Nat → Prop} (hS : ∀ k, S k → k ≠ w.heap.size + 1) {y : Nat → Nat} (hy : ∀ k, y k = p (pre ++ [x]) k) {B : Nat} :
    KeepsFrom B W ((((w3.setCell ⟨w.heap.size + 1, 0, none⟩ (.int .u64 (y 0))).setCell ⟨w.heap.size + 1, 1, none⟩ (.int .u64 (y 1))).setCell ⟨w.heap.size + 1, 2, none⟩ (.int .u64 (y 2))).setCell ⟨w.heap.size + 1, 3, none⟩ (.int .u64 (y 3))) ∧
    KpS S W ((((w3.setCell ⟨w.heap.size + 1, 0, none⟩ (.int .u64 (y 0))).setCell ⟨w.heap.size + 1, 1, none⟩ (.int .u64 (y 1))).setCell ⟨w.heap.size + 1, 2, none⟩ (.int .u64 (y 2))).setCell ⟨w.heap.size + 1, 3, none⟩ (.int .u64 (y 3))) ∧
    TwoSets w p (pre ++ [x]) ((((w3.setCell ⟨w.heap.size + 1, 0, none⟩ (.int .u64 (y 0))).setCell ⟨w.heap.size + 1, 1, none⟩ (.int .u64 (y 1))).setCell ⟨w.heap.size + 1, 2, none⟩ (.int .u64 (y 2))).setCell ⟨w.heap.size + 1, 3, none⟩ (.int .u64 (y 3))) := by
  have hsz : ∀ y0 y1 y2 y3 : Value, ((((w3.setCell ⟨w.heap.size + 1, 0, none⟩ y0).setCell ⟨w.heap.size + 1, 1, none⟩ y1).setCell ⟨w.heap.size + 1, 2, none⟩ y2).setCell ⟨w.heap.size + 1, 3, none⟩ y3).heap.size = w3.heap.size := fun _ _ _ _ => by simp
  have hk : ∀ (k : Nat) (o : Obj), W.heap[k]? = some o → k ≠ w.heap.size + 1 → ((((w3.setCell ⟨w.heap.size + 1, 0, none⟩ (.int .u64 (y 0))).setCell ⟨w.heap.size + 1, 1, none⟩ (.int .u64 (y 1))).setCell ⟨w.heap.size + 1, 2, none⟩ (.int .u64 (y 2))).setCell ⟨w.heap.size + 1, 3, none⟩ (.int .u64 (y 3))).heap[k]? = some o := fun k o ho hne => by
    rw [set4_far hne]; exact kept_obj hb ho
  have hne : ∀ (k : Nat) (o : Obj), W.heap[k]? = some o → o.isCells = false → k ≠ w.heap.size + 1 := by
    rintro k o ho hc rfl
    rw [show W.heap[w.heap.size + 1]? = _ from h.all] at ho
    cases ho
    cases hc
  refine ⟨⟨by rw [hsz]; exact hb.size, fun k o _ ho hc => hk k o ho (hne k o ho hc)⟩, ⟨⟨by rw [hsz]; exact hb.size, fun k o ho hw => hk k o ho (hne k o ho (Obj.not_cells_of_walk hw))⟩, fun k cs T fr hs hc => hk k _ hc (hS k hs)⟩, ⟨?_, ?_, ?_⟩⟩
  · exact hk _ _ h.res (by omega)
  · have := (h.all.below hb).set (y 0) (y 1) (y 2) (y 3)
    rw [← hy 0, ← hy 1, ← hy 2, ← hy 3]
    exact this
  · have hs := h.low.size
    exact ((((below_up h.low hb).setCell (p := ⟨w.heap.size + 1, 0, none⟩) (Nat.le_succ _) _).setCell (p := ⟨w.heap.size + 1, 1, none⟩) (Nat.le_succ _) _).setCell (p := ⟨w.heap.size + 1, 2, none⟩) (Nat.le_succ _) _).setCell (p := ⟨w.heap.size + 1, 3, none⟩) (Nat.le_succ _) _

/-- What is told of one. -/
def OfBack (p : Nat → Bool) (w : World) (e : Ending) (w' : World) : Prop := e = .returned (.agg #[.int .u64 (wd p 0), .int .u64 (wd p 1), .int .u64 (wd p 2), .int .u64 (wd p 3)]) ∧ Below w.heap.size w w'

end Go.Proofs.Ytlglncnhhgofoaa

/-
  The walk over the closure that puts a tick's set to the row that grows.
-/
namespace Go.Proofs.Ytlglncnhhgofoaa
open Go.RowKit Go.Maps

abbrev RB4 : TypeId := 105
/-- The boxes of a row that grows: the task, the row, the closure. -/
structure GrowAt (w0 : World) (bt br bf : Nat) (T : TV) (l : List Nat) (a : Option Addr) (c : Nat) (W : World) : Prop where
  low : Below w0.heap.size w0 W
  tb : W.heap[bt]? = some (.cells #[.int .i64 T.id, .int .i64 T.c, .int .i64 T.d, .int .i64 T.t, .int .i64 T.p, .slice T.a1 T.ch.length T.c1, .slice T.a2 T.us.length T.c2] TT (0, 0))
  fb : W.heap[bf]? = some (.cells #[.func (.func 97) #[] #[.pointer (some ⟨br, 0, none⟩), .pointer (some ⟨bt, 0, none⟩)]] 130 (0, 0))
  rb : W.heap[br]? = some (.cells #[.slice a (l.length + 1) c] RB4 (0, 0))
  row : OwnS W w0.heap.size (.slice a (l.length + 1) c) (rowsOf T.us l)
  tr : bt ≠ br
  fr : bf ≠ br
  lr : w0.heap.size ≤ br
theorem GrowAt.below {w0 : World} {bt br bf : Nat} {T : TV} {l : List Nat} {a : Option Addr} {c : Nat} {W W' : World} (h : GrowAt w0 bt br bf T l a c W) (hb : Below W.heap.size W W') : GrowAt w0 bt br bf T l a c W' :=
  ⟨below_up h.low hb, kept_obj hb h.tb, kept_obj hb h.fb, kept_obj hb h.rb, h.row.below hb, h.tr, h.fr, h.lr⟩
theorem GrowAt.view {w0 : World} {bt br bf : Nat} {T : TV} {l : List Nat} {a : Option Addr} {c : Nat} {W : World} (h : GrowAt w0 bt br bf T l a c W) : SView W a (rowsOf T.us l) := by
  obtain ⟨a', c', e, hv, _⟩ := h.row.slice
  simp only [Value.slice.injEq] at e
  obtain ⟨rfl, _, rfl⟩ := e
  exact hv
/-- What is no row lies in no row's block. -/
theorem OwnS.far {w : World} {B : Nat} {v : Value} {q : List (Nat → Bool)} (h : OwnS w B v q) {b : Nat} {cs : Array Value} {U : TypeId} {fr : Nat × Nat} (hb : w.heap[b]? = some (.cells cs U fr)) (hU : U ≠ ST4) : v.ownBlock ≠ some b := by
  intro e
  rcases h.2 with ⟨rfl, _⟩ | ⟨g, cap, cur, rfl, _, h3, _⟩
  · cases e
  · obtain rfl : g = b := by simpa [Value.ownBlock] using e
    rw [hb] at h3
    simp at h3
    exact hU h3.2.1
theorem sat_new (w : World) (q : Nat → Bool) : SAt (w.alloc (.cells #[.int .u64 (wd q 0), .int .u64 (wd q 1), .int .u64 (wd q 2), .int .u64 (wd q 3)] ST4)) w.heap.size 0 q :=
  ⟨by rw [World.cell?_alloc_new]; rfl, by rw [World.cell?_alloc_new]; rfl, by rw [World.cell?_alloc_new]; rfl, by rw [World.cell?_alloc_new]; rfl⟩
/-- What is left behind a set put to the row. -/
def AddBack (w0 : World) (bt br bf : Nat) (T : TV) (l : List Nat) (W : World) (e : Ending) (W' : World) : Prop :=
  e = .returned (.tuple #[]) ∧ (∃ a c, GrowAt w0 bt br bf T l a c W') ∧ ∃ S : Nat → Prop, (∀ i, S i → w0.heap.size ≤ i ∧ ∀ o, W.heap[i]? = some o → o.isCells = true) ∧ Turn S W W'
/-- The set's own box beside. -/
structure AddAt (w0 : World) (bt br bf : Nat) (T : TV) (l : List Nat) (a : Option Addr) (c : Nat) (W : World) (g : Nat) (p : Nat → Nat) (V : World) : Prop where
  at_ : GrowAt w0 bt br bf T l a c V
  up : Below W.heap.size W V
  box : V.heap[g]? = some (.cells #[.int .u64 (p 0), .int .u64 (p 1), .int .u64 (p 2), .int .u64 (p 3)] ST4 (0, 0))
  new : W.heap.size ≤ g
theorem AddAt.below {w0 : World} {bt br bf : Nat} {T : TV} {l : List Nat} {a : Option Addr} {c : Nat} {W : World} {g : Nat} {p : Nat → Nat} {V V' : World} (h : AddAt w0 bt br bf T l a c W g p V) (hb : Below V.heap.size V V') : AddAt w0 bt br bf T l a c W g p V' :=
  ⟨h.at_.below hb, below_up h.up hb, kept_obj hb h.box, h.new⟩
theorem AddAt.put {w0 : World} {bt br bf : Nat} {T : TV} {l : List Nat} {a : Option Addr} {c : Nat} {W : World} {g : Nat} {p : Nat → Nat} {V : World} (h : AddAt w0 bt br bf T l a c W g p V) (hw : GrowAt w0 bt br bf T l a c W) (y : Nat → Nat) :
    AddAt w0 bt br bf T l a c W g y ((((V.setCell ⟨g, 0, none⟩ (.int .u64 (y 0))).setCell ⟨g, 1, none⟩ (.int .u64 (y 1))).setCell ⟨g, 2, none⟩ (.int .u64 (y 2))).setCell ⟨g, 3, none⟩ (.int .u64 (y 3))) := by
  have hb : Below W.heap.size W ((((V.setCell ⟨g, 0, none⟩ (.int .u64 (y 0))).setCell ⟨g, 1, none⟩ (.int .u64 (y 1))).setCell ⟨g, 2, none⟩ (.int .u64 (y 2))).setCell ⟨g, 3, none⟩ (.int .u64 (y 3))) :=
    (((h.up.setCell (p := ⟨g, 0, none⟩) h.new _).setCell (p := ⟨g, 1, none⟩) h.new _).setCell (p := ⟨g, 2, none⟩) h.new _).setCell (p := ⟨g, 3, none⟩) h.new _
  exact ⟨hw.below hb, hb, (Blk4.set (show Blk4 V g _ _ _ _ from h.box) (y 0) (y 1) (y 2) (y 3)), h.new⟩
theorem add_done {w0 : World} {bt br bf : Nat} {T : TV} {l : List Nat} {a : Option Addr} {c : Nat} {W : World} {g : Nat} {p : Nat → Nat} {V : World} (h : AddAt w0 bt br bf T l a c W g p V) (hw : GrowAt w0 bt br bf T l a c W) (o : Obj) {w5 : World} {k : Nat} {a' : Option Addr} {c' : Nat}
    (hg : (V.alloc o).grownBy w5 (Value.slice a (l.length + 1) c).ownBlock) (ho : OwnS w5 w0.heap.size (.slice a' (l.length + 2) c') (rowsOf T.us l ++ [tkP T.us (l ++ [k])])) :
    AddBack w0 bt br bf T (l ++ [k]) W (.returned (.tuple #[])) (w5.setCell ⟨br, 0, none⟩ (.slice a' (l.length + 2) c')) ∧ w5.cell? ⟨br, 0, none⟩ = some (.slice a (l.length + 1) c) ∧ w5.frozen? ⟨br, 0, none⟩ = false := by
  have hv : Below V.heap.size V (V.alloc o) := (Below.refl _ _).alloc (Nat.le_refl _) o
  have t1 : Turn (fun i => (Value.slice a (l.length + 1) c).ownBlock = some i) W w5 := by
    have hWo : Below W.heap.size W (V.alloc o) := below_up h.up hv
    exact (Turn.of_below (S := fun i => (Value.slice a (l.length + 1) c).ownBlock = some i) hWo).grown hg (fun i hi _ => hi)
  have hr5 := t1.obj hw.rb (hw.row.far hw.rb (by decide))
  have ht5 := t1.obj hw.tb (hw.row.far hw.tb (by decide))
  have hf5 := t1.obj hw.fb (hw.row.far hw.fb (by decide))
  refine ⟨⟨rfl, ⟨a', c', ?_⟩, fun i => i = br ∨ (Value.slice a (l.length + 1) c).ownBlock = some i, ?_, ?_⟩, by rw [blk_cell hr5]; rfl, blk_free hr5 0⟩
  · have hlen : (l ++ [k]).length + 1 = l.length + 2 := by simp
    have hb5 : Below w0.heap.size w0 w5 := hw.low.trans (t1.below hw.low.size (fun i hi => (hw.row.new hi).1))
    refine ⟨hb5.setCell (p := ⟨br, 0, none⟩) hw.lr _, ?_, ?_, ?_, ?_, hw.tr, hw.fr, hw.lr⟩
    · exact (blk_far (a := ⟨br, 0, none⟩) hw.tr _).trans ht5
    · exact (blk_far (a := ⟨br, 0, none⟩) hw.fr _).trans hf5
    · rw [hlen]; exact (blk_set hr5 _).trans rfl
    · rw [hlen, rows_snoc]
      have hne := ho.far hr5 (by decide)
      rcases ho with ⟨h0, h | ⟨g', cap, cur, e, hB, h3, r⟩⟩
      · exact ⟨h0, .inl h⟩
      · refine ⟨h0, .inr ⟨g', cap, cur, e, hB, ?_, r⟩⟩
        refine (blk_far (a := ⟨br, 0, none⟩) (fun q => hne ?_) _).trans h3
        rw [e]
        simpa [Value.ownBlock] using q
  · rintro i (rfl | hi)
    · exact ⟨hw.lr, fun o' ho' => by rw [hw.rb] at ho'; cases ho'; rfl⟩
    · refine ⟨(hw.row.new hi).1, fun o' ho' => ?_⟩
      rcases hw.row.2 with ⟨e, _⟩ | ⟨g', cap, cur, e, _, h3, _⟩
      · cases e
      · simp only [Value.slice.injEq] at e
        obtain ⟨rfl, _, rfl⟩ := e
        obtain rfl : g' = i := by simpa [Value.ownBlock] using hi
        rw [h3] at ho'; cases ho'; rfl
  · exact (t1.mono (fun i _ q => .inr q)).setCell (p := ⟨br, 0, none⟩) (fun _ => .inl rfl) _

set_option maxRecDepth 100000 in
set_option maxHeartbeats 8000000 in
theorem add_any {w0 : World} {bt br bf : Nat} {T : TV} {l : List Nat} {a : Option Addr} {c : Nat} {W : World} (hT : l_Told T) (hok : T.ok W) (hu : T.us ≠ []) (h : GrowAt w0 bt br bf T l a c W) (k : Nat) (hlen : l.length < 1000) :
    Calls Try.prog 97 #[.int .i64 (k : Int), .pointer (some ⟨br, 0, none⟩), .pointer (some ⟨bt, 0, none⟩)] W (AddBack w0 bt br bf T (l ++ [k]) W) := by
  have H := Lib.hid h
  have s0 : W.cell? ⟨br, 0, none⟩ = some (.slice a (l.length + 1) c) := by rw [blk_cell h.rb]; rfl
  have LC := Lib.hid (last_any (rowsOf T.us l) (tkP T.us l) l.length (rows_len _ _) (by rw [rows_at _ _ (Nat.le_refl _), List.take_length]) (by omega) a c W h.view)
  have AC := Lib.hid (fun (w : World) (hw : Below W.heap.size W w) => acc_any T k w (hok.below hw))
  rw [access_use T k hu] at AC
  have hub : useI T.us k ≤ 9223372036854775807 := by
    unfold useI
    have h0 : 0 < T.us.length := List.length_pos_iff.2 hu
    have hl := Nat.mod_lt k h0
    rw [List.getD_eq_getElem?_getD, List.getElem?_eq_getElem hl]
    have := (hT.us _ (List.getElem_mem hl)).2
    simp only [Option.getD_some]
    omega
  have WC := Lib.hid (fun (w : World) => with_any (tkP T.us l) (useI T.us k) hub w)
  rw [← tkP_snoc] at WC
  have HSM : Hid ((rowsOf T.us l).length + 1 ≤ 1000000) := by show _ ≤ _; rw [rows_len]; omega
  have HNN : Hid ((rowsOf T.us l).length + 1 = l.length + 2) := by show _ = _; rw [rows_len]
  clear h hT hok hu hub
  obtain ⟨q1, hq1⟩ : ∃ q1, tkP T.us (l ++ [k]) = q1 := ⟨_, rfl⟩
  have HQ1 := Lib.hid hq1
  rw [hq1] at WC
  clear hq1
  go_enter Try.func97, Try.ntmps97
  go_upto_region 1 with (go_at_call 98; (with_reducible refine (LC.out).mono ?_); rintro e w1 ⟨rfl, b1⟩; have HB1 := Lib.hid b1; clear b1)
  have HG : Hid (AddAt w0 bt br bf T l a c W w1.heap.size (wd (tkP T.us l)) (w1.alloc (.cells #[.int .u64 (wd (tkP T.us l) 0), .int .u64 (wd (tkP T.us l) 1), .int .u64 (wd (tkP T.us l) 2), .int .u64 (wd (tkP T.us l) 3)] ST4))) :=
    ⟨H.out.below (bw_alloc HB1.out _), bw_alloc HB1.out _, heap_alloc_new w1 _, HB1.out.size⟩
  generalize w1.heap.size = g at *
  refine gen_world (AddAt w0 bt br bf T l a c W g (wd (tkP T.us l))) HG.out ?_
  intro W2 hw2
  have H2 := Lib.hid hw2
  clear HG HB1 LC s0
  have t0 : W2.cell? ⟨bt, 0, none⟩ = some (.int .i64 T.id) := by rw [blk_cell hw2.at_.tb]; rfl
  have t1 : W2.cell? ⟨bt, 1, none⟩ = some (.int .i64 T.c) := by rw [blk_cell hw2.at_.tb]; rfl
  have t2 : W2.cell? ⟨bt, 2, none⟩ = some (.int .i64 T.d) := by rw [blk_cell hw2.at_.tb]; rfl
  have t3 : W2.cell? ⟨bt, 3, none⟩ = some (.int .i64 T.t) := by rw [blk_cell hw2.at_.tb]; rfl
  have t4 : W2.cell? ⟨bt, 4, none⟩ = some (.int .i64 T.p) := by rw [blk_cell hw2.at_.tb]; rfl
  have t5 : W2.cell? ⟨bt, 5, none⟩ = some (.slice T.a1 T.ch.length T.c1) := by rw [blk_cell hw2.at_.tb]; rfl
  have t6 : W2.cell? ⟨bt, 6, none⟩ = some (.slice T.a2 T.us.length T.c2) := by rw [blk_cell hw2.at_.tb]; rfl
  have HA2 := Lib.hid (AC.out W2 hw2.up)
  clear AC hw2
  generalize wd (tkP T.us l) = P0 at *
  obtain ⟨P1, hP1⟩ : ∃ P1 : Nat → Nat, wd q1 = P1 := ⟨_, rfl⟩
  have HP1 := Lib.hid hP1
  rw [hP1] at WC
  clear hP1
  go_upto_region 2 with (go_at_call 46; (with_reducible refine (HA2.out).mono ?_); rintro e w3 ⟨rfl, b3⟩; have H3 := Lib.hid (H2.out.below b3); clear b3)
  clear HA2 t0 t1 t2 t3 t4 t5 t6 H2
  have g0 : w3.cell? ⟨g, 0, none⟩ = some (.int .u64 (P0 0)) := by rw [blk_cell H3.out.box]; rfl
  have g1 : w3.cell? ⟨g, 1, none⟩ = some (.int .u64 (P0 1)) := by rw [blk_cell H3.out.box]; rfl
  have g2 : w3.cell? ⟨g, 2, none⟩ = some (.int .u64 (P0 2)) := by rw [blk_cell H3.out.box]; rfl
  have g3 : w3.cell? ⟨g, 3, none⟩ = some (.int .u64 (P0 3)) := by rw [blk_cell H3.out.box]; rfl
  go_upto_region 4 with (go_at_call 50; (with_reducible refine (WC.out _).mono ?_); rintro e w4 ⟨rfl, b4⟩; have HB4 := Lib.hid (H3.out.below b4); have g0 : w4.cell? ⟨g, 0, none⟩ = some (.int .u64 (P0 0)) := (by rw [blk_cell HB4.out.box]; rfl); have g1 : w4.cell? ⟨g, 1, none⟩ = some (.int .u64 (P0 1)) := (by rw [blk_cell HB4.out.box]; rfl); have g2 : w4.cell? ⟨g, 2, none⟩ = some (.int .u64 (P0 2)) := (by rw [blk_cell HB4.out.box]; rfl); have g3 : w4.cell? ⟨g, 3, none⟩ = some (.int .u64 (P0 3)) := (by rw [blk_cell HB4.out.box]; rfl); have f0 := blk_free HB4.out.box 0; have f1 := blk_free HB4.out.box 1; have f2 := blk_free HB4.out.box 2; have f3 := blk_free HB4.out.box 3; clear b4)
  refine gen_world (AddAt w0 bt br bf T l a c W g P1) (HB4.out.put H.out P1) ?_
  intro W6 hw6
  have H6 := Lib.hid hw6
  clear HB4 H3 WC
  have r0 : W6.cell? ⟨br, 0, none⟩ = some (.slice a (l.length + 1) c) := by rw [blk_cell hw6.at_.rb]; rfl
  have g0 : W6.cell? ⟨g, 0, none⟩ = some (.int .u64 (P1 0)) := by rw [blk_cell hw6.box]; rfl
  have g1 : W6.cell? ⟨g, 1, none⟩ = some (.int .u64 (P1 1)) := by rw [blk_cell hw6.box]; rfl
  have g2 : W6.cell? ⟨g, 2, none⟩ = some (.int .u64 (P1 2)) := by rw [blk_cell hw6.box]; rfl
  have g3 : W6.cell? ⟨g, 3, none⟩ = some (.int .u64 (P1 3)) := by rw [blk_cell hw6.box]; rfl
  have HV := Lib.hid (sat_new W6 q1)
  rw [HP1.out] at HV
  clear hw6
  go_wp2_with (at_builtin; refine wp_sappend (m := 1) (l := [q1]) rfl _ _ rfl rfl rfl ((H6.out.at_.below ((by repeat (first | exact Below.refl _ _ | (with_reducible assumption) | refine bw_alloc ?_ _ | refine bw_drew ?_)))).row) (Nat.le_trans H6.out.at_.low.size ((by repeat (first | exact Below.refl _ _ | (with_reducible assumption) | refine bw_alloc ?_ _ | refine bw_drew ?_)) : Below W6.heap.size W6 _).size) (SView.of_at HV.out) rfl HSM.out (fun z => by cases z) (l.length + 2) HNN.out ?_; intro a5 c5 w5 o5 n5 l5; rw [← HQ1.out] at o5; obtain ⟨z1, z2, z3⟩ := add_done H6.out H.out _ n5 o5; have HZ := Lib.hid z1; clear o5 n5 l5 z1)
  go_end0
  exact HZ.out
end Go.Proofs.Ytlglncnhhgofoaa

/-
  The walk over the row of sets that grows with the ticks that are told.
-/
namespace Go.Proofs.Ytlglncnhhgofoaa
open Go.RowKit Go.Maps Go.Shelf
attribute [local go_sem] Oper.semAt_some

/-- The walk within a fence goes on in a world of which only so much is known. -/
theorem gen_worldI {F : Fence} {n : Nat} {P : Program} {c : Code} {Q : Exit → Act → World → Prop} {a : Act} {w : World} (S : World → Prop) (h : S w) (k : ∀ w', S w' → c.wpIn F n P Q a w') : c.wpIn F n P Q a w := k w h
/-- The row so far, wherever it lies. -/
def Grown (w0 : World) (bt br bf : Nat) (T : TV) (l : List Nat) (W : World) : Prop := (∃ a c, GrowAt w0 bt br bf T l a c W) ∧ l.length ≤ T.us.length
theorem GrowAt.own {w0 : World} {bt br bf : Nat} {T : TV} {l : List Nat} {a : Option Addr} {c : Nat} {B : Nat} {X Y : World} {row : Option Nat} (hB : w0.heap.size ≤ B) (h : GrowAt w0 bt br bf T l a c X) (hg : X.grownBy Y row) (hr : ∀ k, row = some k → B ≤ k ∧ ∃ o, X.heap[k]? = some o ∧ o.isCells = false) : GrowAt w0 bt br bf T l a c Y := by
  have e : ∀ (b : Nat) (cs : Array Value) (U : TypeId) (fr : Nat × Nat), X.heap[b]? = some (.cells cs U fr) → Y.heap[b]? = some (.cells cs U fr) := fun b cs U fr hb => by
    refine (hg.block b (lt_of_block hb) (fun e => ?_)).trans hb
    obtain ⟨_, o, ho, hc⟩ := hr b e.symm
    rw [hb] at ho
    cases ho
    cases hc
  refine ⟨h.low.grown hg h.low.size (fun k hk => Nat.le_trans hB (hr k hk).1), e _ _ _ _ h.tb, e _ _ _ _ h.fb, e _ _ _ _ h.rb, ?_, h.tr, h.fr, h.lr⟩
  rcases h.row with ⟨h0, q | ⟨g, cap, cur, q, hb, h3, r⟩⟩
  · exact ⟨h0, .inl q⟩
  · exact ⟨h0, .inr ⟨g, cap, cur, q, hb, e _ _ _ _ h3, r⟩⟩
theorem Grown.own {w0 : World} {bt br bf : Nat} {T : TV} {B : Nat} (hB : w0.heap.size ≤ B) : OwnFrom B (Grown w0 bt br bf T) := fun s X Y row ⟨⟨a, c, h⟩, hl⟩ hg hr =>
  ⟨⟨a, c, h.own hB hg hr⟩, hl⟩
/-- The row is whole: as many sets as a round takes. -/
def Full (w0 : World) (bt br bf : Nat) (T : TV) (c : Code) (l : List Nat) (W : World) : Prop := c = .exit 0 ∧ ∃ pre x, l = pre ++ [x] ∧ pre.length = T.us.length ∧ ∃ a c, GrowAt w0 bt br bf T pre a c W
theorem Full.own {w0 : World} {bt br bf : Nat} {T : TV} {B : Nat} (hB : w0.heap.size ≤ B) (c : Code) : OwnFrom B (Full w0 bt br bf T c) := fun s X Y row ⟨e, pre, x, hp, hl, a, c, h⟩ hg hr =>
  ⟨e, pre, x, hp, hl, a, c, h.own hB hg hr⟩
theorem turn_keeps {S : Nat → Prop} {B : Nat} {W W' : World} (h : Turn S W W') (hS : ∀ i, S i → ∀ o, W.heap[i]? = some o → o.isCells = true) : KeepsFrom B W W' :=
  ⟨h.size, fun k o _ ho hc => h.obj ho (fun q => by rw [hS k q o ho] at hc; cases hc)⟩
theorem turn_walks {S : Nat → Prop} {W W' : World} (h : Turn S W W') (hS : ∀ i, S i → ∀ o, W.heap[i]? = some o → o.isCells = true) : KeepsWalks W W' :=
  ⟨h.size, fun k o ho hw => h.obj ho (fun q => by have := hS k q o ho; rw [Obj.not_cells_of_walk hw] at this; cases this)⟩
/-- What comes back. -/
def GrowBack (T : TV) (ticks : List Nat) (w : World) (e : Ending) (w' : World) : Prop :=
  (∃ a c, e = .returned (.slice a (min ticks.length T.us.length + 1) c) ∧ SView w' a (rowsOf T.us (ticks.take T.us.length))) ∧ Below w.heap.size w w'
theorem made_four (n : Nat) : (madeCells #[.int .u64 0, .int .u64 0, .int .u64 0, .int .u64 0] ((1 + n) * 4)).toList.take ([noneP].length * 4) = [.int .u64 (0 : Nat), .int .u64 (0 : Nat), .int .u64 (0 : Nat), .int .u64 (0 : Nat)] ++ [] := by
  have e : ∀ i, i < 4 → (madeCells #[.int .u64 0, .int .u64 0, .int .u64 0, .int .u64 0] ((1 + n) * 4))[i]? = some (.int .u64 0) := fun i hi => by
    have : i < (1 + n) * 4 := by omega
    rcases (show i = 0 ∨ i = 1 ∨ i = 2 ∨ i = 3 by omega) with rfl | rfl | rfl | rfl <;> simp [madeCells, this]
  apply List.ext_getElem?
  intro i
  rw [List.getElem?_take]
  by_cases hi : i < 4
  · rw [if_pos (by simpa using hi), Array.getElem?_toList, e i hi]
    rcases (show i = 0 ∨ i = 1 ∨ i = 2 ∨ i = 3 by omega) with rfl | rfl | rfl | rfl <;> rfl
  · rw [if_neg (by simpa using hi), eq_comm, List.getElem?_eq_none_iff]
    simp; omega
theorem made_own (w : World) (us : List Int) (n : Nat) (hn : n ≤ 64) : OwnS (w.alloc (.cells (madeCells #[.int .u64 0, .int .u64 0, .int .u64 0, .int .u64 0] ((1 + n) * 4)) ST4)) w.heap.size (.slice (some ⟨w.heap.size, 0, none⟩) 1 (1 + n)) (rowsOf us []) := by
  refine ⟨by rw [rows_nil]; rfl, .inr ⟨w.heap.size, 1 + n, _, rfl, Nat.le_refl _, heap_alloc_new w _, by rw [rows_nil]; simp, by unfold maxLen; omega, ?_, ?_⟩⟩
  · rw [size_madeCells]
  · rw [rows_nil]
    simp only [sflat, scells, wd_none]
    exact made_four n
theorem sinfo4 : (Try.prog.info? ST4).map (fun i => (i.zero, i.size, i.bytes)) = some (some (.agg #[.int .u64 0, .int .u64 0, .int .u64 0, .int .u64 0]), 4, 32) := by kernel_rfl
theorem make_sets (n : Nat) (hn : n ≤ 64) (w : World) : (Instr.makeSlice 105 (.int .i64 1) (.int .i64 ((1 : Int) + n))).run Try.prog w = .ok (.slice (some ⟨w.heap.size, 0, none⟩) 1 (1 + n)) (w.alloc (.cells (madeCells #[.int .u64 0, .int .u64 0, .int .u64 0, .int .u64 0] ((1 + n) * 4)) ST4)) := by
  obtain ⟨i0, hi, hz0, hz1, hz2⟩ := info_parts sinfo4
  have h := run_make w 105 ST4 i0 _ Try.underlying105 hi hz0 .i64 .i64 1 (1 + n) (by omega) (by omega) (by rw [hz2]; omega) (by omega)
  have e : ((1 : Int) + (n : Int)).toNat = 1 + n := by omega
  rw [hz1, e] at h
  simpa [Value.cells] using h
end Go.Proofs.Ytlglncnhhgofoaa

/-
  A region that draws its order, in a round of a range over a function.
-/
namespace Go.Proofs.Ytlglncnhhgofoaa
open Go.RowKit Go.Maps

section
variable {P : Program} {ops : Array Oper} {Q : Exit → Act → World → Prop} {l n : Nat}
theorem rows_round {row : String} {args : Array Value} {w : World} {R R' : Value → World → Prop} (h : _root_.Go.Rows P row args w R) (hr : ∀ v w, R v w → R' v w) : RowsIn (Fence.wide.inRound l) n P row args w R' := fun c cs _ => by
  obtain ⟨v, w', h1, h2⟩ := h c cs
  exact ⟨v, w', hr _ _ h1, stepsIn_wide.2 h2⟩
theorem oper_round {o : Oper} {a : Act} {w : World} {K K' : Act → World → Prop} (hd : ∀ c, o.op ≠ .defer c) (hK : ∀ a w, K a w → K' a w) (hlo : ¬ LetsOut Q) (h : o.wp P a w K Q) : o.wpIn (Fence.wide.inRound l) n P a w K' Q := by
  refine ⟨fun _ _ => trivial, ?_⟩
  unfold Oper.wp at h
  rw [show (o.semAt (Fence.wide.inRound l).round a.eval) = execOp a.eval o from Oper.semAt_eq _ _ _ hd]
  generalize (execOp a.eval o).run P w = r at h ⊢
  cases r with
  | ok x w' =>
    cases x with
    | value v => exact hK _ _ h
    | skip => exact hK _ _ h
    | defer d => exact hK _ _ h
    | enter f args =>
      refine ⟨(fun z => by cases z), CallsIn.inRound l (callsIn_wide.2 (Calls.mono h fun e w'' he => ?_))⟩
      cases e with
      | returned v => exact hK _ _ he
      | panicked c => exact he
      | outgrown => exact absurd he hlo
    | row name args => exact ⟨(fun z => by cases z), rows_round h (fun _ _ => hK _ _)⟩
    | _ => exact h.elim
  | halt x w' =>
    cases x with
    | panic v => exact h
    | _ => exact h.elim
theorem any_round {md : Region.Mode} (hd : ∀ (i : Nat) (o : Oper), ops[i]? = some o → ∀ c, o.op ≠ .defer c) (hlo : ¬ LetsOut Q) : ∀ (fuel : Nat) (listed : Array Bool) (a : Act) (w : World), wpAny P md ops Q fuel listed a w → wpAnyIn (Fence.wide.inRound l) n P md ops Q fuel listed a w
  | 0, _, _, _, h => h
  | fuel + 1, listed, a, w, h => by
    refine ⟨h.1, fun i hi => ?_⟩
    have hs := h.2 i hi
    unfold wpOp at hs
    unfold wpOpIn
    cases ho : ops[i]? with
    | none =>
      rw [ho] at hs
      exact any_round hd hlo fuel _ a w hs
    | some o =>
      rw [ho] at hs
      simp only [] at hs ⊢
      split
      · rename_i hw
        rw [if_pos hw] at hs
        rcases hs with hs | ⟨_, hs⟩
        · exact oper_round (hd i o ho) (fun a w => any_round hd hlo fuel _ a w) hlo hs
        · exact absurd hs hlo
      · rename_i hw
        rw [if_neg hw] at hs
        exact ⟨fun _ _ => trivial, any_round hd hlo fuel _ _ w hs⟩
def noDefer (ops : Array Oper) : Bool := ops.all fun o => match o.op with
  | .defer _ => false
  | _ => true
theorem noDefer_spec (h : noDefer ops = true) : ∀ (i : Nat) (o : Oper), ops[i]? = some o → ∀ c, o.op ≠ .defer c := fun i o ho c e => by
  have h1 := Array.all_eq_true_iff_forall_mem.1 h o (Array.mem_of_getElem? ho)
  rw [e] at h1
  cases h1
theorem region_round {id : Nat} {a : Act} {w : World} (S : World → Prop) (hm : P.follows .mixedOrders = true) (hd : noDefer ops = true) (hlo : ¬ LetsOut Q)
    (h : wpAnyH P .any ops Q S ops.size (Array.replicate ops.size false) a w.drew) : (Code.region id ops true).wpIn (Fence.wide.inRound l) n P Q a w :=
  wpIn_region_any hm (any_round (noDefer_spec hd) hlo _ _ _ _ (wpAny_of_held _ _ _ _ h))
end
end Go.Proofs.Ytlglncnhhgofoaa
