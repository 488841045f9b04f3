/- Texts of this claim, put together: BWalk5, CMem, CW1, BRef1, KW27, CK, CArr, CPl, BRef2, CW5, CW6, CW2, CEq, KW15. -/
import Derived.Test.YtflemmmaakhahaaMC1
import Derived.Laws.MakeOwn
import Derived.Tactics2
import Derived.Tactics
import Derived.RegionTactic
import Derived.Laws.CopyRow
import Derived.RangeFuncNested
import Derived.RangeFuncBound
import Derived.RangeFuncCalls
import Derived.RangeFuncLeaves
import Derived.RangeFuncBox
import Derived.Shelf.RegionOpen
import Derived.Laws.StructEq
set_option linter.unusedVariables false
set_option linter.unusedSimpArgs false

/-
  The walks over the set of a row, and over how many are in a set.
-/
namespace Go.Proofs.Ytflemmmaakhahaa
open Go.RowKit

/-- All of the first n of a row. -/
def ofN (l : List Int) : Nat → Nat → Bool
  | 0 => noneP
  | n + 1 => orP (ofN l n) (oneP (l.getD n 0))

theorem index_0 (x0 x1 x2 x3 : Nat) (w : World) : (Instr.index 37 (.agg #[.int .u64 x0, .int .u64 x1, .int .u64 x2, .int .u64 x3]) (.int .i64 0)).run Try.prog w = .ok (.int .u64 x0) w := by kernel_rfl
theorem index_1 (x0 x1 x2 x3 : Nat) (w : World) : (Instr.index 37 (.agg #[.int .u64 x0, .int .u64 x1, .int .u64 x2, .int .u64 x3]) (.int .i64 1)).run Try.prog w = .ok (.int .u64 x1) w := by kernel_rfl
theorem index_2 (x0 x1 x2 x3 : Nat) (w : World) : (Instr.index 37 (.agg #[.int .u64 x0, .int .u64 x1, .int .u64 x2, .int .u64 x3]) (.int .i64 2)).run Try.prog w = .ok (.int .u64 x2) w := by kernel_rfl
theorem index_3 (x0 x1 x2 x3 : Nat) (w : World) : (Instr.index 37 (.agg #[.int .u64 x0, .int .u64 x1, .int .u64 x2, .int .u64 x3]) (.int .i64 3)).run Try.prog w = .ok (.int .u64 x3) w := by kernel_rfl

/-- How many are in the first k words. -/
def cntW (p : Nat → Bool) : Nat → Nat
  | 0 => 0
  | k + 1 => cntW p k + cntN (wd p k).testBit 64
theorem cntW_eq (p : Nat → Bool) : ∀ k, cntW p k = cntN p (64 * k)
  | 0 => rfl
  | k + 1 => by
    rw [show 64 * (k + 1) = 64 * k + 64 by omega, cntN_add, ← cntW_eq p k]
    show cntW p k + _ = _
    congr 1
    exact cntN_congr fun j hj => wd_bit p k hj

end Go.Proofs.Ytflemmmaakhahaa

/-
  What a cache's blocks hold, and what of memory a call may turn.
-/
namespace Go.Proofs.Ytflemmmaakhahaa
open Go.RowKit Go.Maps

/-- What may have turned of what was there: the blocks of S alone. -/
structure Turn (S : Nat → Prop) (w w' : World) : Prop where
  os : w'.os = w.os
  tape : w'.tape = w.tape
  output : w'.output = w.output
  size : w.heap.size ≤ w'.heap.size
  block : ∀ k, k < w.heap.size → ¬ S k → w'.heap[k]? = w.heap[k]?

theorem Turn.refl (S : Nat → Prop) (w : World) : Turn S w w := ⟨rfl, rfl, rfl, Nat.le_refl _, fun _ _ _ => rfl⟩
theorem Turn.trans {S S' : Nat → Prop} {a b c : World} (h : Turn S a b) (k : Turn S' b c) (hs : ∀ i, i < a.heap.size → S' i → S i) : Turn S a c :=
  ⟨k.os.trans h.os, k.tape.trans h.tape, k.output.trans h.output, Nat.le_trans h.size k.size, fun i hi hn => (k.block i (Nat.lt_of_lt_of_le hi h.size) (fun q => hn (hs i hi q))).trans (h.block i hi hn)⟩
theorem Turn.then {S : Nat → Prop} {a b c : World} (h : Turn S a b) (k : Turn S b c) : Turn S a c := h.trans k fun _ _ q => q
theorem Turn.mono {S S' : Nat → Prop} {a b : World} (h : Turn S a b) (hs : ∀ i, i < a.heap.size → S i → S' i) : Turn S' a b :=
  ⟨h.os, h.tape, h.output, h.size, fun i hi hn => h.block i hi (fun q => hn (hs i hi q))⟩
theorem Turn.of_below {S : Nat → Prop} {w w' : World} (h : Below w.heap.size w w') : Turn S w w' := ⟨h.os, h.tape, h.output, h.size, fun k hk _ => h.block k hk⟩
theorem Turn.of_same {S : Nat → Prop} {w w1 w' : World} (h : Turn S w1 w') (e : w1.heap = w.heap) (e1 : w1.os = w.os) (e2 : w1.tape = w.tape) (e3 : w1.output = w.output) : Turn S w w' :=
  ⟨h.os.trans e1, h.tape.trans e2, h.output.trans e3, by rw [← e]; exact h.size, fun k hk hn => by rw [← e]; exact h.block k (by rw [e]; exact hk) hn⟩
theorem Turn.below {S : Nat → Prop} {w w' : World} {B : Nat} (h : Turn S w w') (hB : B ≤ w.heap.size) (hs : ∀ i, S i → B ≤ i) : Below B w w' :=
  ⟨h.os, h.tape, h.output, h.size, fun k hk => h.block k (by omega) (fun q => by have := hs k q; omega)⟩
theorem Turn.drew {S : Nat → Prop} {a w : World} (h : Turn S a w) : Turn S a w.drew := ⟨h.os, h.tape, h.output, h.size, h.block⟩
theorem Turn.alloc {S : Nat → Prop} {a w : World} (h : Turn S a w) (o : Obj) : Turn S a (w.alloc o) :=
  h.then (Turn.of_below ((Below.refl _ _).alloc (Nat.le_refl _) o))
theorem Turn.setCell {S : Nat → Prop} {a w : World} (h : Turn S a w) {p : Addr} (hp : p.block < a.heap.size → S p.block) (u : Value) : Turn S a (w.setCell p u) :=
  ⟨h.os, h.tape, h.output, by simp [World.setCell]; exact h.size, fun k hk hn => by
    rw [Below.heap_setCell _ _ _ _ (fun e => hn (by rw [e]; exact hp (by omega)))]; exact h.block k hk hn⟩
theorem Turn.grown {S : Nat → Prop} {a w w' : World} {row : Option Nat} (h : Turn S a w) (hg : w.grownBy w' row) (hr : ∀ k, row = some k → k < a.heap.size → S k) : Turn S a w' :=
  ⟨hg.os.trans h.os, hg.tape.trans h.tape, hg.output.trans h.output, Nat.le_trans h.size hg.size, fun k hk hn => (hg.block k (Nat.lt_of_lt_of_le hk h.size) (fun e => hn (hr k e.symm hk))).trans (h.block k hk hn)⟩

theorem Turn.obj {S : Nat → Prop} {w w' : World} (h : Turn S w w') {b : Nat} {o : Obj} (ho : w.heap[b]? = some o) (hn : ¬ S b) : w'.heap[b]? = some o := (h.block b (lt_of_block ho) hn).trans ho

theorem Turn.bel {S : Nat → Prop} {w w' w'' : World} (h : Turn S w w') (k : Below w'.heap.size w' w'') : Turn S w w'' := h.then (Turn.of_below k)
theorem Turn.cell {S : Nat → Prop} {w w' : World} (h : Turn S w w') {b o : Nat} {v : Value} (hc : w.cell? ⟨b, o, none⟩ = some v) (hn : ¬ S b) : w'.cell? ⟨b, o, none⟩ = some v := by
  have hl := block_of_cell hc
  have e := h.block b hl hn
  unfold World.cell? at hc ⊢
  simp only [e]
  exact hc

/-! ### plain: whose each set is -/
def okSet (n : Nat) (s : Int) : Prop := 0 ≤ s ∧ s < n
def okOwn (o : Int) : Prop := 1 ≤ o ∧ o ≤ 99
instance (n : Nat) (s : Int) : Decidable (okSet n s) := inferInstanceAs (Decidable (_ ∧ _))
instance (o : Int) : Decidable (okOwn o) := inferInstanceAs (Decidable (_ ∧ _))
def ownL (n : Nat) (L : Nat → Int) (s : Int) : Int := if okSet n s then L s.toNat else 0
def putL (L : Nat → Int) (s o : Int) (i : Nat) : Int := if (i : Int) = s then o else L i
def useB (n : Nat) (L : Nat → Int) (s o : Int) : Bool := if okSet n s ∧ okOwn o then decide (L s.toNat = o) else false
def useL (n : Nat) (L : Nat → Int) (s o : Int) : Nat → Int := if okSet n s ∧ okOwn o then putL L s o else L
def ofP (n : Nat) (L : Nat → Int) (o : Int) (i : Nat) : Bool := decide (okOwn o) && (decide (i < n) && decide (L i = o))

/-- A row of owners. -/
def RowC (w : World) (r n : Nat) (L : Nat → Int) : Prop :=
  ∃ cur : Array Value, w.heap[r]? = some (.cells cur 3 (0, 0)) ∧ cur.size = n ∧ ∀ i, i < n → cur[i]? = some (.int .i64 (L i))
/-- A cache: its struct, of type T, and its row. -/
structure Ch (T : TypeId) (w : World) (b r n : Nat) (L : Nat → Int) : Prop where
  str : w.heap[b]? = some (.cells #[.slice (some ⟨r, 0, none⟩) n n] T (0, 0))
  row : RowC w r n L
  ne : b ≠ r
  few : n ≤ 256
  wf : ∀ i, I64 (L i)
theorem RowC.lt {w : World} {r n : Nat} {L : Nat → Int} (h : RowC w r n L) : r < w.heap.size := let ⟨_, hb, _⟩ := h; lt_of_block hb
theorem RowC.cell {w : World} {r n : Nat} {L : Nat → Int} (h : RowC w r n L) {i : Nat} (hi : i < n) : w.cell? ⟨r, i, none⟩ = some (.int .i64 (L i)) := by
  obtain ⟨cur, hb, _, hc⟩ := h
  rw [blk_cell hb]; exact hc i hi
theorem RowC.free {w : World} {r n : Nat} {L : Nat → Int} (h : RowC w r n L) (o : Nat) : w.frozen? ⟨r, o, none⟩ = false := let ⟨_, hb, _⟩ := h; blk_free hb o
theorem RowC.turn {S : Nat → Prop} {w w' : World} {r n : Nat} {L : Nat → Int} (h : RowC w r n L) (ht : Turn S w w') (hn : ¬ S r) : RowC w' r n L := by
  obtain ⟨cur, hb, h1, h2⟩ := h
  exact ⟨cur, ht.obj hb hn, h1, h2⟩
theorem RowC.put {w : World} {r n : Nat} {L : Nat → Int} (h : RowC w r n L) {i : Nat} (hi : i < n) (o : Int) : RowC (w.setCell ⟨r, i, none⟩ (.int .i64 o)) r n (putL L i o) := by
  obtain ⟨cur, hb, h1, h2⟩ := h
  refine ⟨cur.setIfInBounds i (.int .i64 o), blk_set hb _, by simp [h1], fun j hj => ?_⟩
  unfold putL
  by_cases e : j = i
  · subst e
    rw [if_pos rfl, Array.getElem?_setIfInBounds_self]
    simp [h1, hj]
  · rw [if_neg (by omega), Array.getElem?_setIfInBounds_ne (by omega)]
    exact h2 j hj
theorem Ch.slice {T : TypeId} {w : World} {b r n : Nat} {L : Nat → Int} (h : Ch T w b r n L) : w.cell? ⟨b, 0, none⟩ = some (.slice (some ⟨r, 0, none⟩) n n) := by rw [blk_cell h.str]; rfl
theorem Ch.free {T : TypeId} {w : World} {b r n : Nat} {L : Nat → Int} (h : Ch T w b r n L) : w.frozen? ⟨b, 0, none⟩ = false := blk_free h.str 0
theorem Ch.turn {T : TypeId} {S : Nat → Prop} {w w' : World} {b r n : Nat} {L : Nat → Int} (h : Ch T w b r n L) (ht : Turn S w w') (hb : ¬ S b) (hr : ¬ S r) : Ch T w' b r n L :=
  ⟨ht.obj h.str hb, h.row.turn ht hr, h.ne, h.few, h.wf⟩
theorem Ch.below {T : TypeId} {w w' : World} {b r n : Nat} {L : Nat → Int} (h : Ch T w b r n L) (hb : Below w.heap.size w w') : Ch T w' b r n L :=
  h.turn (S := fun _ => False) (Turn.of_below hb) (fun q => q) (fun q => q)
theorem putL_wf {L : Nat → Int} (h : ∀ i, I64 (L i)) {s o : Int} (ho : I64 o) : ∀ i, I64 (putL L s o i) := fun i => by
  unfold putL; split
  · exact ho
  · exact h i
theorem own_i64 {o : Int} (h : okOwn o) : I64 o := by unfold okOwn at h; unfold I64; omega
theorem Ch.put {T : TypeId} {w : World} {b r n : Nat} {L : Nat → Int} (h : Ch T w b r n L) {i : Nat} (hi : i < n) {o : Int} (ho : okOwn o) : Ch T (w.setCell ⟨r, i, none⟩ (.int .i64 o)) b r n (putL L i o) :=
  ⟨(blk_far (a := ⟨r, i, none⟩) h.ne _).trans h.str, h.row.put hi o, h.ne, h.few, putL_wf h.wf (own_i64 ho)⟩
theorem Ch.lt {T : TypeId} {w : World} {b r n : Nat} {L : Nat → Int} (h : Ch T w b r n L) : b < w.heap.size ∧ r < w.heap.size := ⟨lt_of_block h.str, h.row.lt⟩
/-- What a use leaves. -/
theorem Ch.use {T : TypeId} {w : World} {b r n : Nat} {L : Nat → Int} (h : Ch T w b r n L) {i : Nat} (hi : i < n) {o : Int} (ho : okOwn o) {w1 : World} (hb : Below w.heap.size w w1) :
    Ch T (w1.setCell ⟨r, i, none⟩ (.int .i64 o)) b r n (useL n L i o) ∧ Turn (fun k => k = r) w (w1.setCell ⟨r, i, none⟩ (.int .i64 o)) := by
  have e : useL n L i o = putL L i o := by unfold useL; rw [if_pos ⟨⟨by omega, by omega⟩, ho⟩]
  rw [e]
  exact ⟨(h.below hb).put hi ho, Turn.setCell (S := fun k => k = r) (p := ⟨r, i, none⟩) (Turn.of_below hb) (fun _ => rfl) _⟩

abbrev CT : TypeId := 78
abbrev RT : TypeId := 80

theorem cinfoInt : (Try.prog.info? 3).map (fun i => (i.zero, i.size, i.bytes)) = some (some (.int .i64 0), 1, 8) := by kernel_rfl
theorem make_row (n : Nat) (hn : n ≤ 256) (w : World) : (Instr.makeSlice 45 (.int .i64 (n : Int)) (.int .i64 (n : Int))).run Try.prog w = .ok (.slice (some ⟨w.heap.size, 0, none⟩) n n) (w.alloc (.cells (madeCells #[.int .i64 0] n) 3)) := by
  obtain ⟨i0, hi, hz0, hz1, hz2⟩ := info_parts cinfoInt
  have h := run_make w 45 3 i0 (.int .i64 0) Try.underlying45 hi hz0 .i64 .i64 n n (by omega) (by omega) (by rw [hz2]; omega) (by omega)
  rw [hz1] at h
  simpa [Value.cells] using h
theorem made_at {n i : Nat} (h : i < n) : (madeCells #[.int .i64 0] n)[i]? = some (.int .i64 0) := by
  simp [madeCells, h, Nat.mod_one]
theorem row_new (w : World) (n : Nat) : RowC (w.alloc (.cells (madeCells #[.int .i64 0] n) 3)) w.heap.size n (fun _ => 0) :=
  ⟨_, heap_alloc_new w _, size_madeCells _ _, fun i hi => made_at hi⟩

end Go.Proofs.Ytflemmmaakhahaa

/-
  The walks over a cache: how many sets; is there such a set, may one own; a new one; a use, an owner, a flush; of none.
-/
namespace Go.Proofs.Ytflemmmaakhahaa
open Go.RowKit Go.Maps

set_option maxHeartbeats 1000000 in
theorem sets_any {w : World} {b r n : Nat} {L : Nat → Int} (h : Ch CT w b r n L) : Calls Try.prog 23 #[.pointer (some ⟨b, 0, none⟩)] w fun e w' => e = .returned (.int .i64 n) ∧ w' = w := by
  have c0 := h.slice
  clear h
  go_enter Try.func23, Try.ntmps23
  go_wp2
  go_ret
  exact ⟨rfl, rfl⟩
set_option maxHeartbeats 1000000 in
theorem sets_nil (w : World) : Calls Try.prog 23 #[.pointer none] w fun e w' => e = .returned (.int .i64 0) ∧ w' = w := by
  go_enter Try.func23, Try.ntmps23
  go_wp2
  go_ret
  exact ⟨rfl, rfl⟩
set_option maxHeartbeats 1000000 in
theorem chas_core {v : Value} {n : Nat} {w : World} (C : Hid (Calls Try.prog 23 #[v] w fun e w' => e = .returned (.int .i64 n) ∧ w' = w)) (s : Int) :
    Calls Try.prog 36 #[v, .int .i64 s] w fun e w' => e = .returned (.bool (decide (okSet n s))) ∧ w' = w := by
  by_cases h0 : 0 ≤ s
  · by_cases h1 : s < n
    · rw [decide_eq_true (show okSet n s from ⟨h0, h1⟩)]
      have d1 : decide (s < (n : Int)) = true := decide_eq_true h1
      go_enter Try.func36, Try.ntmps36
      go_wp2_with (go_at_call 23; refine C.out.mono ?_; rintro e w1 ⟨rfl, rfl⟩)
      go_ret
      exact ⟨rfl, rfl⟩
    · rw [decide_eq_false (fun q : okSet n s => h1 q.2)]
      have d1 : decide (s < (n : Int)) = false := decide_eq_false h1
      go_enter Try.func36, Try.ntmps36
      go_wp2_with (go_at_call 23; refine C.out.mono ?_; rintro e w1 ⟨rfl, rfl⟩)
      go_ret
      exact ⟨rfl, rfl⟩
  · rw [decide_eq_false (fun q : okSet n s => h0 q.1)]
    go_enter Try.func36, Try.ntmps36
    go_wp2
    go_ret
    exact ⟨rfl, rfl⟩
theorem chas_any {w : World} {b r n : Nat} {L : Nat → Int} (h : Ch CT w b r n L) (s : Int) : Calls Try.prog 36 #[.pointer (some ⟨b, 0, none⟩), .int .i64 s] w fun e w' => e = .returned (.bool (decide (okSet n s))) ∧ w' = w :=
  chas_core (Lib.hid (sets_any h)) s
theorem chas_nil (w : World) (s : Int) : Calls Try.prog 36 #[.pointer none, .int .i64 s] w fun e w' => e = .returned (.bool false) ∧ w' = w := by
  have := chas_core (Lib.hid (sets_nil w)) s
  rwa [decide_eq_false (fun q : okSet 0 s => by have := q.1; have := q.2; omega)] at this
set_option maxHeartbeats 1000000 in
theorem may_any (o : Int) (w : World) : Calls Try.prog 37 #[.int .i64 o] w fun e w' => e = .returned (.bool (decide (okOwn o))) ∧ w' = w := by
  by_cases h0 : 1 ≤ o
  · by_cases h1 : o ≤ 99
    · rw [decide_eq_true (show okOwn o from ⟨h0, h1⟩)]
      have d1 : decide (o ≤ 99) = true := decide_eq_true h1
      go_enter Try.func37, Try.ntmps37
      go_wp2
      go_ret
      exact ⟨rfl, rfl⟩
    · rw [decide_eq_false (fun q : okOwn o => h1 q.2)]
      have d1 : decide (o ≤ 99) = false := decide_eq_false h1
      go_enter Try.func37, Try.ntmps37
      go_wp2
      go_ret
      exact ⟨rfl, rfl⟩
  · rw [decide_eq_false (fun q : okOwn o => h0 q.1)]
    go_enter Try.func37, Try.ntmps37
    go_wp2
    go_ret
    exact ⟨rfl, rfl⟩

/-! ### a new one -/
/-- What comes back: a cache of its own. -/
def CacheBack (T : TypeId) (n : Nat) (w : World) (e : Ending) (w' : World) : Prop :=
  ∃ b r, e = .returned (.pointer (some ⟨b, 0, none⟩)) ∧ Ch T w' b r n (fun _ => 0) ∧ w.heap.size ≤ b ∧ w.heap.size ≤ r ∧ Below w.heap.size w w'
theorem back_of {T : TypeId} {n : Nat} (hn : n ≤ 256) (w : World) : CacheBack T n w (.returned (.pointer (some ⟨w.heap.size + 1, 0, none⟩))) ((w.alloc (.cells (madeCells #[.int .i64 0] n) 3)).alloc (.cells #[.slice (some ⟨w.heap.size, 0, none⟩) n n] T)) := by
  have e := World.size_alloc w (.cells (madeCells #[.int .i64 0] n) 3)
  refine ⟨w.heap.size + 1, w.heap.size, rfl, ⟨?_, ?_, by omega, hn, fun _ => by unfold I64; omega⟩, by omega, by omega, (by repeat (first | exact Below.refl _ _ | (with_reducible assumption) | refine bw_alloc ?_ _ | refine bw_drew ?_))⟩
  · have := heap_alloc_new (w.alloc (.cells (madeCells #[.int .i64 0] n) 3)) (.cells #[.slice (some ⟨w.heap.size, 0, none⟩) n n] T)
    rwa [e] at this
  · exact (row_new w n).turn (S := fun _ => False) (Turn.of_below ((Below.refl _ _).alloc (Nat.le_refl _) _)) (fun q => q)
set_option maxHeartbeats 1000000 in
theorem cnew_some (n : Nat) (hn : n ≤ 256) (w : World) : Calls Try.prog 11 #[.int .i64 n] w (CacheBack CT n w) := by
  have hmk := make_row n hn
  have h0 : (0 : Int) ≤ (n : Int) := by omega
  have h1 : (n : Int) ≤ 256 := by omega
  go_enter Try.func11, Try.ntmps11
  go_wp2
  go_ret
  exact back_of hn w
set_option maxHeartbeats 1000000 in
theorem cnew_none (n : Int) (h : n < 0 ∨ 256 < n) (w : World) : Calls Try.prog 11 #[.int .i64 n] w fun e w' => e = .returned (.pointer none) ∧ w' = w := by
  by_cases h1 : n < 0
  · clear h
    go_enter Try.func11, Try.ntmps11
    go_wp2
    go_ret
    exact ⟨rfl, rfl⟩
  · have h2 : 256 < n := by omega
    have h3 : 0 ≤ n := by omega
    clear h h1
    go_enter Try.func11, Try.ntmps11
    go_wp2
    go_ret
    exact ⟨rfl, rfl⟩

/-! ### a use -/
/-- What a use answers and leaves. -/
def UseBack (T : TypeId) (b r n : Nat) (L : Nat → Int) (s o : Int) (w : World) (e : Ending) (w' : World) : Prop :=
  e = .returned (.bool (useB n L s o)) ∧ Ch T w' b r n (useL n L s o) ∧ Turn (fun k => k = r) w w'
theorem use_stays {T : TypeId} {b r n : Nat} {L : Nat → Int} {s o : Int} {w : World} (h : Ch T w b r n L) (hn : ¬ (okSet n s ∧ okOwn o)) : UseBack T b r n L s o w (.returned (.bool false)) w := by
  refine ⟨by unfold useB; rw [if_neg hn], ?_, Turn.refl _ _⟩
  unfold useL; rw [if_neg hn]; exact h
theorem use_puts {T : TypeId} {b r n : Nat} {L : Nat → Int} {i : Nat} {o : Int} {w : World} (h : Ch T w b r n L) (hi : i < n) (ho : okOwn o) {q : Bool} (hq : (L i == o) = q) {w1 : World} (hb : Below w.heap.size w w1) : UseBack T b r n L i o w (.returned (.bool q)) (w1.setCell ⟨r, i, none⟩ (.int .i64 o)) := by
  refine ⟨?_, h.use hi ho hb⟩
  unfold useB
  rw [if_pos ⟨⟨by omega, by omega⟩, ho⟩, Int.toNat_natCast, ← hq]
  by_cases e : L i = o <;> simp [e]
set_option maxHeartbeats 1000000 in
theorem cuse_core {v : Value} {n : Nat} {w : World} (s o : Int) (C : Hid (Calls Try.prog 36 #[v, .int .i64 s] w fun e w' => e = .returned (.bool (decide (okSet n s))) ∧ w' = w)) (hn : ¬ (okSet n s ∧ okOwn o)) :
    Calls Try.prog 13 #[v, .int .i64 s, .int .i64 o] w fun e w' => e = .returned (.bool false) ∧ w' = w := by
  have M := Lib.hid (may_any o)
  by_cases h0 : okSet n s
  · have h1 : ¬ okOwn o := fun q => hn ⟨h0, q⟩
    rw [decide_eq_true h0] at C
    rw [decide_eq_false h1] at M
    clear hn h0 h1
    go_enter Try.func13, Try.ntmps13
    go_wp2_with (first
      | (go_at_call 36; refine C.out.mono ?_; rintro e w1 ⟨rfl, rfl⟩)
      | (go_at_call 37; refine (M.out _).mono ?_; rintro e w1 ⟨rfl, rfl⟩))
    go_ret
    exact ⟨rfl, rfl⟩
  · rw [decide_eq_false h0] at C
    clear hn h0
    go_enter Try.func13, Try.ntmps13
    go_wp2_with (go_at_call 36; refine C.out.mono ?_; rintro e w1 ⟨rfl, rfl⟩)
    go_ret
    exact ⟨rfl, rfl⟩
set_option maxHeartbeats 1000000 in
theorem cuse_any {w : World} {b r n : Nat} {L : Nat → Int} (h : Ch CT w b r n L) (s o : Int) : Calls Try.prog 13 #[.pointer (some ⟨b, 0, none⟩), .int .i64 s, .int .i64 o] w (UseBack CT b r n L s o w) := by
  have C := Lib.hid (chas_any h s)
  by_cases hq : okSet n s ∧ okOwn o
  · have M := Lib.hid (may_any o)
    have h0 := hq.1.1
    have h1 := hq.1.2
    rw [decide_eq_true hq.1] at C
    rw [decide_eq_true hq.2] at M
    obtain ⟨i, rfl⟩ : ∃ i : Nat, s = (i : Int) := ⟨s.toNat, by omega⟩
    have hi : i < n := by omega
    have ho := hq.2
    have H := Lib.hid h
    have c0 := h.slice
    have c1 := h.row.cell hi
    have f1 := h.row.free i
    obtain ⟨q, hqe⟩ : ∃ q, (L i == o) = q := ⟨_, rfl⟩
    have HQ := Lib.hid hqe
    have HO := Lib.hid ho
    clear h hq h0 h1 ho
    generalize L i = x at c1 hqe
    go_enter Try.func13, Try.ntmps13
    go_wp2_with (first
      | (go_at_call 36; refine C.out.mono ?_; rintro e w1 ⟨rfl, rfl⟩)
      | (go_at_call 37; refine (M.out _).mono ?_; rintro e w1 ⟨rfl, rfl⟩))
    go_ret
    exact use_puts H.out hi HO.out HQ.out (Below.refl _ _)
  · refine (cuse_core s o C hq).mono ?_
    rintro e w' ⟨rfl, rfl⟩
    exact use_stays h hq
theorem cuse_nil (w : World) (s o : Int) : Calls Try.prog 13 #[.pointer none, .int .i64 s, .int .i64 o] w fun e w' => e = .returned (.bool false) ∧ w' = w :=
  cuse_core (n := 0) s o (by rw [decide_eq_false (fun q : okSet 0 s => by have := q.1; have := q.2; omega)]; exact Lib.hid (chas_nil w s)) (fun q => by have := q.1.1; have := q.1.2; omega)

/-! ### an owner -/
set_option maxHeartbeats 1000000 in
theorem cowner_any {w : World} {b r n : Nat} {L : Nat → Int} (h : Ch CT w b r n L) (s : Int) : Calls Try.prog 19 #[.pointer (some ⟨b, 0, none⟩), .int .i64 s] w fun e w' => e = .returned (.int .i64 (ownL n L s)) ∧ w' = w := by
  have C := Lib.hid (chas_any h s)
  unfold ownL
  by_cases hq : okSet n s
  · have h0 := hq.1
    have h1 := hq.2
    rw [decide_eq_true hq] at C
    obtain ⟨i, rfl⟩ : ∃ i : Nat, s = (i : Int) := ⟨s.toNat, by omega⟩
    have hi : i < n := by omega
    rw [if_pos hq, Int.toNat_natCast]
    have c0 := h.slice
    have c1 := h.row.cell hi
    clear h hq h0 h1
    generalize L i = x at c1 ⊢
    go_enter Try.func19, Try.ntmps19
    go_wp2_with (go_at_call 36; refine C.out.mono ?_; rintro e w1 ⟨rfl, rfl⟩)
    go_ret
    exact ⟨rfl, rfl⟩
  · rw [decide_eq_false hq] at C
    rw [if_neg hq]
    clear h hq
    go_enter Try.func19, Try.ntmps19
    go_wp2_with (go_at_call 36; refine C.out.mono ?_; rintro e w1 ⟨rfl, rfl⟩)
    go_ret
    exact ⟨rfl, rfl⟩
set_option maxHeartbeats 1000000 in
theorem cowner_nil (w : World) (s : Int) : Calls Try.prog 19 #[.pointer none, .int .i64 s] w fun e w' => e = .returned (.int .i64 0) ∧ w' = w := by
  have C := Lib.hid (chas_nil w s)
  go_enter Try.func19, Try.ntmps19
  go_wp2_with (go_at_call 36; refine C.out.mono ?_; rintro e w1 ⟨rfl, rfl⟩)
  go_ret
  exact ⟨rfl, rfl⟩
end Go.Proofs.Ytflemmmaakhahaa

/-
  The walks over the document's own answers: one number looked for, put in, taken out.
-/
namespace Go.Proofs.Ytflemmmaakhahaa
open Go.RowKit

theorem bit_and (x j : Nat) (h : x < 18446744073709551616) : bits .and .u64 ((x : Int) / 2 ^ j) 1 = ((x / 2 ^ j % 2 : Nat) : Int) := by
  have h1 : x / 2 ^ j ≤ x := Nat.div_le_self _ _
  have e : (x : Int) / 2 ^ j = ((x / 2 ^ j : Nat) : Int) := by simp
  rw [e]
  have := bits_and_u64_nat (x / 2 ^ j) 1 (by omega) (by omega)
  rw [nat_mask1] at this
  exact this

theorem hasP_at {p : Nat → Bool} {i : Int} {k j : Nat} (h0 : 0 ≤ i) (h1 : i ≤ 255) (hk : i / 64 = k) (hj : i % 64 = j) : hasP p i = (wd p k).testBit j := by
  have hj' : j < 64 := by omega
  rw [wd_bit p k hj']
  unfold hasP
  rw [decide_eq_true (⟨h0, h1⟩ : 0 ≤ i ∧ i ≤ 255), Bool.true_and]
  congr 1; omega

set_option maxHeartbeats 1000000 in
theorem rhas_0 (x0 x1 x2 x3 : Nat) (i : Int) (h0 : 0 ≤ i) (h255 : i ≤ 255) (h1 : i / 64 = 0) (j : Nat) (hj : j < 64) (h2 : i % 64 = j) (hx : x0 < 18446744073709551616) (w : World) :
    Calls Try.prog 41 #[.agg #[.int .u64 x0, .int .u64 x1, .int .u64 x2, .int .u64 x3], .int .i64 i] w fun e w' => e = .returned (.bool (x0.testBit j)) ∧ Below w.heap.size w w' := by
  have hb := bit_and x0 j hx
  rw [bit_read] at hb
  clear hx
  cases hp : x0.testBit j with
  | true =>
    rw [hp] at hb
    simp only [if_true] at hb
    clear hp
    go_enter Try.func41, Try.ntmps41
    go_wp2
    go_ret
    exact ⟨rfl, (Below.refl _ _).alloc (Nat.le_refl _) _⟩
  | false =>
    rw [hp] at hb
    simp only [Bool.false_eq_true, if_false] at hb
    clear hp
    go_enter Try.func41, Try.ntmps41
    go_wp2
    go_ret
    exact ⟨rfl, (Below.refl _ _).alloc (Nat.le_refl _) _⟩
set_option maxHeartbeats 1000000 in
theorem rhas_1 (x0 x1 x2 x3 : Nat) (i : Int) (h0 : 0 ≤ i) (h255 : i ≤ 255) (h1 : i / 64 = 1) (j : Nat) (hj : j < 64) (h2 : i % 64 = j) (hx : x1 < 18446744073709551616) (w : World) :
    Calls Try.prog 41 #[.agg #[.int .u64 x0, .int .u64 x1, .int .u64 x2, .int .u64 x3], .int .i64 i] w fun e w' => e = .returned (.bool (x1.testBit j)) ∧ Below w.heap.size w w' := by
  have hb := bit_and x1 j hx
  rw [bit_read] at hb
  clear hx
  cases hp : x1.testBit j with
  | true =>
    rw [hp] at hb
    simp only [if_true] at hb
    clear hp
    go_enter Try.func41, Try.ntmps41
    go_wp2
    go_ret
    exact ⟨rfl, (Below.refl _ _).alloc (Nat.le_refl _) _⟩
  | false =>
    rw [hp] at hb
    simp only [Bool.false_eq_true, if_false] at hb
    clear hp
    go_enter Try.func41, Try.ntmps41
    go_wp2
    go_ret
    exact ⟨rfl, (Below.refl _ _).alloc (Nat.le_refl _) _⟩
set_option maxHeartbeats 1000000 in
theorem rhas_2 (x0 x1 x2 x3 : Nat) (i : Int) (h0 : 0 ≤ i) (h255 : i ≤ 255) (h1 : i / 64 = 2) (j : Nat) (hj : j < 64) (h2 : i % 64 = j) (hx : x2 < 18446744073709551616) (w : World) :
    Calls Try.prog 41 #[.agg #[.int .u64 x0, .int .u64 x1, .int .u64 x2, .int .u64 x3], .int .i64 i] w fun e w' => e = .returned (.bool (x2.testBit j)) ∧ Below w.heap.size w w' := by
  have hb := bit_and x2 j hx
  rw [bit_read] at hb
  clear hx
  cases hp : x2.testBit j with
  | true =>
    rw [hp] at hb
    simp only [if_true] at hb
    clear hp
    go_enter Try.func41, Try.ntmps41
    go_wp2
    go_ret
    exact ⟨rfl, (Below.refl _ _).alloc (Nat.le_refl _) _⟩
  | false =>
    rw [hp] at hb
    simp only [Bool.false_eq_true, if_false] at hb
    clear hp
    go_enter Try.func41, Try.ntmps41
    go_wp2
    go_ret
    exact ⟨rfl, (Below.refl _ _).alloc (Nat.le_refl _) _⟩
set_option maxHeartbeats 1000000 in
theorem rhas_3 (x0 x1 x2 x3 : Nat) (i : Int) (h0 : 0 ≤ i) (h255 : i ≤ 255) (h1 : i / 64 = 3) (j : Nat) (hj : j < 64) (h2 : i % 64 = j) (hx : x3 < 18446744073709551616) (w : World) :
    Calls Try.prog 41 #[.agg #[.int .u64 x0, .int .u64 x1, .int .u64 x2, .int .u64 x3], .int .i64 i] w fun e w' => e = .returned (.bool (x3.testBit j)) ∧ Below w.heap.size w w' := by
  have hb := bit_and x3 j hx
  rw [bit_read] at hb
  clear hx
  cases hp : x3.testBit j with
  | true =>
    rw [hp] at hb
    simp only [if_true] at hb
    clear hp
    go_enter Try.func41, Try.ntmps41
    go_wp2
    go_ret
    exact ⟨rfl, (Below.refl _ _).alloc (Nat.le_refl _) _⟩
  | false =>
    rw [hp] at hb
    simp only [Bool.false_eq_true, if_false] at hb
    clear hp
    go_enter Try.func41, Try.ntmps41
    go_wp2
    go_ret
    exact ⟨rfl, (Below.refl _ _).alloc (Nat.le_refl _) _⟩

set_option maxHeartbeats 1000000 in
theorem rhas_low (x0 x1 x2 x3 : Nat) (i : Int) (h0 : i < 0) (w : World) :
    Calls Try.prog 41 #[.agg #[.int .u64 x0, .int .u64 x1, .int .u64 x2, .int .u64 x3], .int .i64 i] w fun e w' => e = .returned (.bool false) ∧ Below w.heap.size w w' := by
  go_enter Try.func41, Try.ntmps41
  go_wp2
  go_ret
  exact ⟨rfl, (Below.refl _ _).alloc (Nat.le_refl _) _⟩
set_option maxHeartbeats 1000000 in
theorem rhas_high (x0 x1 x2 x3 : Nat) (i : Int) (h0 : 0 ≤ i) (h : 255 < i) (w : World) :
    Calls Try.prog 41 #[.agg #[.int .u64 x0, .int .u64 x1, .int .u64 x2, .int .u64 x3], .int .i64 i] w fun e w' => e = .returned (.bool false) ∧ Below w.heap.size w w' := by
  go_enter Try.func41, Try.ntmps41
  go_wp2
  go_ret
  exact ⟨rfl, (Below.refl _ _).alloc (Nat.le_refl _) _⟩

theorem hasP_out {p : Nat → Bool} {i : Int} (h : i < 0 ∨ 255 < i) : hasP p i = false := by
  unfold hasP; rw [decide_eq_false (by omega)]; rfl

theorem rhas_any (p : Nat → Bool) (i : Int) (w : World) :
    Calls Try.prog 41 #[.agg #[.int .u64 (wd p 0), .int .u64 (wd p 1), .int .u64 (wd p 2), .int .u64 (wd p 3)], .int .i64 i] w fun e w' => e = .returned (.bool (hasP p i)) ∧ Below w.heap.size w w' := by
  rcases (show i < 0 ∨ (0 ≤ i ∧ 255 < i) ∨ (0 ≤ i ∧ i ≤ 255) by omega) with h | ⟨h0, h⟩ | ⟨h0, h1⟩
  · rw [hasP_out (.inl h)]; exact rhas_low _ _ _ _ i h w
  · rw [hasP_out (.inr h)]; exact rhas_high _ _ _ _ i h0 h w
  · obtain ⟨j, hj⟩ : ∃ j : Nat, i % 64 = j := ⟨(i % 64).toNat, by omega⟩
    have hj' : j < 64 := by omega
    rcases (show i / 64 = 0 ∨ i / 64 = 1 ∨ i / 64 = 2 ∨ i / 64 = 3 by omega) with g | g | g | g
    · rw [hasP_at (k := 0) h0 h1 g hj]; exact rhas_0 _ _ _ _ i h0 h1 g j hj' hj (wd_lt p 0) w
    · rw [hasP_at (k := 1) h0 h1 g hj]; exact rhas_1 _ _ _ _ i h0 h1 g j hj' hj (wd_lt p 1) w
    · rw [hasP_at (k := 2) h0 h1 g hj]; exact rhas_2 _ _ _ _ i h0 h1 g j hj' hj (wd_lt p 2) w
    · rw [hasP_at (k := 3) h0 h1 g hj]; exact rhas_3 _ _ _ _ i h0 h1 g j hj' hj (wd_lt p 3) w

end Go.Proofs.Ytflemmmaakhahaa

/-
  The walks over accesses, and over the greatest chunk.
-/
namespace Go.Proofs.Ytflemmmaakhahaa
open Go.RowKit Go.Maps

/-- Which set a tick uses, and whether one does. -/
def accOf (x : TV) (k : Int) : Int × Bool := if k < 0 then (0, false) else (x.us[(k % x.us.length).toNat]?.getD 0, decide (x.us ≠ []))
theorem acc_neg (x : TV) {k : Int} (h : k < 0) : accOf x k = (0, false) := by unfold accOf; rw [if_pos h]
theorem acc_nil {x : TV} {k : Int} (h : ¬ k < 0) (hu : x.us = []) : accOf x k = (0, false) := by unfold accOf; rw [if_neg h, hu]; rfl
theorem acc_at {x : TV} {k : Int} {j : Nat} {u : Int} (h : ¬ k < 0) (hj : k % x.us.length = (j : Int)) (hu : x.us[j]? = some u) : accOf x k = (u, true) := by
  unfold accOf
  rw [if_neg h, hj]
  have : x.us ≠ [] := by rintro e; rw [e] at hu; simp at hu
  simp [hu, this]
set_option maxRecDepth 100000 in
set_option maxHeartbeats 2000000 in
theorem acc_any (x : TV) (k : Int) (w : World) (hx : x.ok w) : Calls Try.prog 60 #[.agg #[.int .i64 x.id, .int .i64 x.c, .int .i64 x.d, .int .i64 x.t, .int .i64 x.p, .slice x.a1 x.ch.length x.c1, .slice x.a2 x.us.length x.c2], .int .i64 k] w fun e w' => e = .returned (.tuple #[.int .i64 (accOf x k).1, .bool (accOf x k).2]) ∧ Below w.heap.size w w' := by
  have hl2 := hx.l2
  have hm2 := hx.m2
  have hn9 : (x.us.length : Int) ≤ 9223372036854775807 := by omega
  clear hl2 hm2
  by_cases hk : k < 0
  · rw [acc_neg x hk]
    clear hx
    have hk2 : decide (k < 0) = true := decide_eq_true hk
    by_cases hu : x.us.length = 0
    · rw [hu]
      go_enter Try.func60, Try.ntmps60
      go_wp2_with fail
      go_ret2
      exact ⟨rfl, (by repeat (first | exact Below.refl _ _ | (with_reducible assumption) | refine bw_alloc ?_ _ | refine bw_drew ?_))⟩
    · have d1 : ((x.us.length : Int) == 0) = false := by rw [beq_eq_false_iff_ne]; omega
      generalize x.us.length = n at *
      go_enter Try.func60, Try.ntmps60
      go_wp2_with fail
      go_ret2
      exact ⟨rfl, (by repeat (first | exact Below.refl _ _ | (with_reducible assumption) | refine bw_alloc ?_ _ | refine bw_drew ?_))⟩
  · have hk2 : decide (k < 0) = false := decide_eq_false hk
    by_cases hu : x.us = []
    · rw [acc_nil hk hu]
      have hu2 : x.us.length = 0 := by rw [hu]; rfl
      clear hx hu
      rw [hu2]
      go_enter Try.func60, Try.ntmps60
      go_wp2_with fail
      go_ret2
      exact ⟨rfl, (by repeat (first | exact Below.refl _ _ | (with_reducible assumption) | refine bw_alloc ?_ _ | refine bw_drew ?_))⟩
    · have hp : 0 < x.us.length := List.length_pos_iff.2 hu
      obtain ⟨j, hj, hjl⟩ : ∃ j : Nat, k % x.us.length = (j : Int) ∧ j < x.us.length := by
        have a := Int.emod_nonneg k (show (x.us.length : Int) ≠ 0 by omega)
        have b := Int.emod_lt_of_pos k (show (0 : Int) < x.us.length by omega)
        exact ⟨(k % x.us.length).toNat, by omega, by omega⟩
      obtain ⟨u, hu⟩ := nth_of (rfl : x.us.length = x.us.length) hjl
      rw [acc_at hk hj hu]
      obtain ⟨g, o, ha, hc⟩ := hx.two.at_ hu
      have hgl : g < w.heap.size := block_of_cell hc
      rw [ha]
      have e1 : k.tmod x.us.length = (j : Int) := by rw [Int.tmod_eq_emod_of_nonneg (by omega)]; exact hj
      have d1 : ((x.us.length : Int) == 0) = false := by rw [beq_eq_false_iff_ne]; omega
      have z1 : ¬ (x.us.length : Int) = 0 := by omega
      have z2 : ¬ x.us.length = 0 := by omega
      have hj1 : (j : Int) < (x.us.length : Int) := by omega
      have hj0 : (0 : Int) ≤ (j : Int) := by omega
      clear hx hu ha hj hp
      generalize x.us.length = n at *
      go_enter Try.func60, Try.ntmps60
      go_upto_region 3 with fail
      go_quiet (fail)
      go_wp2_with fail
      go_ret2
      exact ⟨rfl, below_same (Below.alloc (Below.refl _ _) (Nat.le_refl _) _) rfl rfl rfl rfl⟩
set_option maxRecDepth 100000 in
set_option maxHeartbeats 2000000 in
theorem racc_any (x : TV) (k : Int) (w : World) (hx : x.ok w) : Calls Try.prog 40 #[.agg #[.int .i64 x.id, .int .i64 x.c, .int .i64 x.d, .int .i64 x.t, .int .i64 x.p, .slice x.a1 x.ch.length x.c1, .slice x.a2 x.us.length x.c2], .int .i64 k] w fun e w' => e = .returned (.tuple #[.int .i64 (accOf x k).1, .bool (accOf x k).2]) ∧ Below w.heap.size w w' := by
  have hl2 := hx.l2
  have hm2 := hx.m2
  have hn9 : (x.us.length : Int) ≤ 9223372036854775807 := by omega
  clear hl2 hm2
  by_cases hk : k < 0
  · rw [acc_neg x hk]
    clear hx
    have hk2 : decide (k < 0) = true := decide_eq_true hk
    by_cases hu : x.us.length = 0
    · rw [hu]
      go_enter Try.func40, Try.ntmps40
      go_wp2_with fail
      go_ret2
      exact ⟨rfl, (by repeat (first | exact Below.refl _ _ | (with_reducible assumption) | refine bw_alloc ?_ _ | refine bw_drew ?_))⟩
    · have d1 : ((x.us.length : Int) == 0) = false := by rw [beq_eq_false_iff_ne]; omega
      generalize x.us.length = n at *
      go_enter Try.func40, Try.ntmps40
      go_wp2_with fail
      go_ret2
      exact ⟨rfl, (by repeat (first | exact Below.refl _ _ | (with_reducible assumption) | refine bw_alloc ?_ _ | refine bw_drew ?_))⟩
  · have hk2 : decide (k < 0) = false := decide_eq_false hk
    by_cases hu : x.us = []
    · rw [acc_nil hk hu]
      have hu2 : x.us.length = 0 := by rw [hu]; rfl
      clear hx hu
      rw [hu2]
      go_enter Try.func40, Try.ntmps40
      go_wp2_with fail
      go_ret2
      exact ⟨rfl, (by repeat (first | exact Below.refl _ _ | (with_reducible assumption) | refine bw_alloc ?_ _ | refine bw_drew ?_))⟩
    · have hp : 0 < x.us.length := List.length_pos_iff.2 hu
      obtain ⟨j, hj, hjl⟩ : ∃ j : Nat, k % x.us.length = (j : Int) ∧ j < x.us.length := by
        have a := Int.emod_nonneg k (show (x.us.length : Int) ≠ 0 by omega)
        have b := Int.emod_lt_of_pos k (show (0 : Int) < x.us.length by omega)
        exact ⟨(k % x.us.length).toNat, by omega, by omega⟩
      obtain ⟨u, hu⟩ := nth_of (rfl : x.us.length = x.us.length) hjl
      rw [acc_at hk hj hu]
      obtain ⟨g, o, ha, hc⟩ := hx.two.at_ hu
      have hgl : g < w.heap.size := block_of_cell hc
      rw [ha]
      have e1 : k.tmod x.us.length = (j : Int) := by rw [Int.tmod_eq_emod_of_nonneg (by omega)]; exact hj
      have d1 : ((x.us.length : Int) == 0) = false := by rw [beq_eq_false_iff_ne]; omega
      have z1 : ¬ (x.us.length : Int) = 0 := by omega
      have z2 : ¬ x.us.length = 0 := by omega
      have hj1 : (j : Int) < (x.us.length : Int) := by omega
      have hj0 : (0 : Int) ≤ (j : Int) := by omega
      clear hx hu ha hj hp
      generalize x.us.length = n at *
      go_enter Try.func40, Try.ntmps40
      go_upto_region 3 with fail
      go_quiet (fail)
      go_wp2_with fail
      go_ret2
      exact ⟨rfl, below_same (Below.alloc (Below.refl _ _) (Nat.le_refl _) _) rfl rfl rfl rfl⟩
end Go.Proofs.Ytflemmmaakhahaa

/-
  A job's work in memory, and what a tick makes of it.
-/
namespace Go.Proofs.Ytflemmmaakhahaa
open Go.RowKit Go.Maps

abbrev WT : TypeId := 39
/-- A job's work. -/
structure WK where
  dn : Int
  dm : Int
  db : Int
  rl : Int
  sn : Nat → Bool
/-- What may be stepped. -/
def Fits (id rel : Int) (k : WK) : Prop := okOwn id ∧ 0 ≤ rel ∧ rel ≤ 1000 ∧ 0 ≤ k.dn ∧ k.dn < k.dm ∧ 0 ≤ k.db
instance (id rel : Int) (k : WK) : Decidable (Fits id rel k) := inferInstanceAs (Decidable (_ ∧ _ ∧ _ ∧ _ ∧ _ ∧ _))
def wUp (x : Int) : Int := IntKind.i64.wrap (x + 1)
def bitUp (p : Nat → Bool) (s : Int) : Nat → Bool := orP p (oneP s)
/-- A tick of work with nothing to end: the set s, if any (u), is used. -/
def workW (n : Nat) (L : Nat → Int) (id : Int) (s : Int) (u : Bool) (rel : Int) (k : WK) : WK × Bool :=
  if u = true ∧ okSet n s then
    if ¬ L s.toNat = id ∧ 0 < rel ∧ hasP k.sn s = true then ({ k with db := rel - 1, rl := wUp k.rl }, true)
    else ({ k with dn := k.dn + 1, sn := bitUp k.sn s }, false)
  else ({ k with dn := k.dn + 1 }, false)
def workL (n : Nat) (L : Nat → Int) (id : Int) (s : Int) (u : Bool) : Nat → Int := if u = true ∧ okSet n s then putL L s id else L
/-- A tick. -/
def stepW (n : Nat) (L : Nat → Int) (id : Int) (s : Int) (u : Bool) (rel : Int) (k : WK) : WK × Bool :=
  if Fits id rel k then if 0 < k.db then ({ k with db := k.db - 1, rl := wUp k.rl }, true) else workW n L id s u rel k
  else (k, false)
def stepL (n : Nat) (L : Nat → Int) (id : Int) (s : Int) (u : Bool) (rel : Int) (k : WK) : Nat → Int :=
  if Fits id rel k ∧ ¬ 0 < k.db then workL n L id s u else L
/-- What a tick leaves. -/
def StepBack (T : TypeId) (b r n : Nat) (L' : Nat → Int) (o : WK × Bool) (w : World) (e : Ending) (w' : World) : Prop :=
  e = .returned (.tuple #[.agg #[.int .i64 o.1.dn, .int .i64 o.1.dm, .int .i64 o.1.db, .int .i64 o.1.rl, .int .u64 (wd o.1.sn 0), .int .u64 (wd o.1.sn 1), .int .u64 (wd o.1.sn 2), .int .u64 (wd o.1.sn 3)], .bool o.2]) ∧ Ch T w' b r n L' ∧ Turn (fun k => k = r) w w'

/-- The boxes of a call: a task, a work, the work that comes back. -/
structure StepAt (S : Nat → Prop) (w : World) (x : TV) (a b c d : Int) (y : Nat → Nat) (W : World) : Prop where
  low : Turn S w W
  tb : W.heap[w.heap.size]? = some (.cells #[.int .i64 x.id, .int .i64 x.c, .int .i64 x.d, .int .i64 x.t, .int .i64 x.p, .slice x.a1 x.ch.length x.c1, .slice x.a2 x.us.length x.c2] TT (0, 0))
  wb : W.heap[w.heap.size + 1]? = some (.cells #[.int .i64 a, .int .i64 b, .int .i64 c, .int .i64 d, .int .u64 (y 0), .int .u64 (y 1), .int .u64 (y 2), .int .u64 (y 3)] WT (0, 0))
  rb : W.heap[w.heap.size + 1 + 1]? = some (.cells #[.int .i64 0, .int .i64 0, .int .i64 0, .int .i64 0, .int .u64 0, .int .u64 0, .int .u64 0, .int .u64 0] WT (0, 0))
theorem StepAt.below {S : Nat → Prop} {w W W' : World} {x : TV} {a b c d : Int} {y : Nat → Nat} (h : StepAt S w x a b c d y W) (hb : Below W.heap.size W W') : StepAt S w x a b c d y W' :=
  ⟨h.low.bel hb, kept_obj hb h.tb, kept_obj hb h.wb, kept_obj hb h.rb⟩
theorem StepAt.turn {r : Nat} {w W W' : World} {x : TV} {a b c d : Int} {y : Nat → Nat} (h : StepAt (fun k => k = r) w x a b c d y W) (hb : Turn (fun k => k = r) W W') (hr : r < w.heap.size) : StepAt (fun k => k = r) w x a b c d y W' :=
  ⟨h.low.then hb, hb.obj h.tb (by omega), hb.obj h.wb (by omega), hb.obj h.rb (by omega)⟩
theorem stepAt_new (S : Nat → Prop) (w : World) (x : TV) (a b c d : Int) (y : Nat → Nat) : StepAt S w x a b c d y (((w.alloc (.cells #[.int .i64 x.id, .int .i64 x.c, .int .i64 x.d, .int .i64 x.t, .int .i64 x.p, .slice x.a1 x.ch.length x.c1, .slice x.a2 x.us.length x.c2] TT)).alloc (.cells #[.int .i64 a, .int .i64 b, .int .i64 c, .int .i64 d, .int .u64 (y 0), .int .u64 (y 1), .int .u64 (y 2), .int .u64 (y 3)] WT)).alloc (.cells #[.int .i64 0, .int .i64 0, .int .i64 0, .int .i64 0, .int .u64 0, .int .u64 0, .int .u64 0, .int .u64 0] WT)) := by
  have e1 := World.size_alloc w (.cells #[.int .i64 x.id, .int .i64 x.c, .int .i64 x.d, .int .i64 x.t, .int .i64 x.p, .slice x.a1 x.ch.length x.c1, .slice x.a2 x.us.length x.c2] TT)
  have e2 := World.size_alloc (w.alloc (.cells #[.int .i64 x.id, .int .i64 x.c, .int .i64 x.d, .int .i64 x.t, .int .i64 x.p, .slice x.a1 x.ch.length x.c1, .slice x.a2 x.us.length x.c2] TT)) (.cells #[.int .i64 a, .int .i64 b, .int .i64 c, .int .i64 d, .int .u64 (y 0), .int .u64 (y 1), .int .u64 (y 2), .int .u64 (y 3)] WT)
  refine ⟨Turn.of_below (by repeat (first | exact Below.refl _ _ | (with_reducible assumption) | refine bw_alloc ?_ _ | refine bw_drew ?_)), ?_, ?_, ?_⟩
  · exact kept_obj ((Below.refl _ _).alloc (Nat.le_refl _) _) (kept_obj ((Below.refl _ _).alloc (Nat.le_refl _) _) (heap_alloc_new w _))
  · have := heap_alloc_new (w.alloc (.cells #[.int .i64 x.id, .int .i64 x.c, .int .i64 x.d, .int .i64 x.t, .int .i64 x.p, .slice x.a1 x.ch.length x.c1, .slice x.a2 x.us.length x.c2] TT)) (.cells #[.int .i64 a, .int .i64 b, .int .i64 c, .int .i64 d, .int .u64 (y 0), .int .u64 (y 1), .int .u64 (y 2), .int .u64 (y 3)] WT)
    rw [e1] at this
    exact kept_obj ((Below.refl _ _).alloc (Nat.le_refl _) _) this
  · have := heap_alloc_new ((w.alloc (.cells #[.int .i64 x.id, .int .i64 x.c, .int .i64 x.d, .int .i64 x.t, .int .i64 x.p, .slice x.a1 x.ch.length x.c1, .slice x.a2 x.us.length x.c2] TT)).alloc (.cells #[.int .i64 a, .int .i64 b, .int .i64 c, .int .i64 d, .int .u64 (y 0), .int .u64 (y 1), .int .u64 (y 2), .int .u64 (y 3)] WT)) (.cells #[.int .i64 0, .int .i64 0, .int .i64 0, .int .i64 0, .int .u64 0, .int .u64 0, .int .u64 0, .int .u64 0] WT)
    rw [e2, e1] at this
    exact this
theorem StepAt.set0 {S : Nat → Prop} {w W : World} {x : TV} {a b c d : Int} {y : Nat → Nat} (h : StepAt S w x a b c d y W) (a' : Int) : StepAt S w x a' b c d y (W.setCell ⟨w.heap.size + 1, 0, none⟩ (.int .i64 a')) :=
  ⟨h.low.setCell (p := ⟨w.heap.size + 1, 0, none⟩) (fun q => absurd q (by show ¬ w.heap.size + 1 < _; omega)) _, (blk_far (a := ⟨w.heap.size + 1, 0, none⟩) (by show w.heap.size ≠ w.heap.size + 1; omega) _).trans h.tb, (blk_set h.wb _).trans rfl, (blk_far (a := ⟨w.heap.size + 1, 0, none⟩) (by show w.heap.size + 1 + 1 ≠ w.heap.size + 1; omega) _).trans h.rb⟩
theorem StepAt.facts {S : Nat → Prop} {w W : World} {x : TV} {a b c d : Int} {y : Nat → Nat} (h : StepAt S w x a b c d y W) :
    W.cell? ⟨w.heap.size, 0, none⟩ = some (.int .i64 x.id) ∧ W.cell? ⟨w.heap.size, 1, none⟩ = some (.int .i64 x.c) ∧ W.cell? ⟨w.heap.size, 2, none⟩ = some (.int .i64 x.d) ∧ W.cell? ⟨w.heap.size, 3, none⟩ = some (.int .i64 x.t) ∧ W.cell? ⟨w.heap.size, 4, none⟩ = some (.int .i64 x.p) ∧ W.cell? ⟨w.heap.size, 5, none⟩ = some (.slice x.a1 x.ch.length x.c1) ∧ W.cell? ⟨w.heap.size, 6, none⟩ = some (.slice x.a2 x.us.length x.c2) ∧ W.cell? ⟨w.heap.size + 1, 0, none⟩ = some (.int .i64 a) ∧ W.cell? ⟨w.heap.size + 1, 1, none⟩ = some (.int .i64 b) ∧ W.cell? ⟨w.heap.size + 1, 2, none⟩ = some (.int .i64 c) ∧ W.cell? ⟨w.heap.size + 1, 3, none⟩ = some (.int .i64 d) ∧ W.cell? ⟨w.heap.size + 1, 4, none⟩ = some (.int .u64 (y 0)) ∧ W.cell? ⟨w.heap.size + 1, 5, none⟩ = some (.int .u64 (y 1)) ∧ W.cell? ⟨w.heap.size + 1, 6, none⟩ = some (.int .u64 (y 2)) ∧ W.cell? ⟨w.heap.size + 1, 7, none⟩ = some (.int .u64 (y 3)) ∧ W.frozen? ⟨w.heap.size + 1, 0, none⟩ = false ∧ W.frozen? ⟨w.heap.size + 1, 1, none⟩ = false ∧ W.frozen? ⟨w.heap.size + 1, 2, none⟩ = false ∧ W.frozen? ⟨w.heap.size + 1, 3, none⟩ = false ∧ W.frozen? ⟨w.heap.size + 1, 4, none⟩ = false ∧ W.frozen? ⟨w.heap.size + 1, 5, none⟩ = false ∧ W.frozen? ⟨w.heap.size + 1, 6, none⟩ = false ∧ W.frozen? ⟨w.heap.size + 1, 7, none⟩ = false ∧ W.cell? ⟨w.heap.size + 1 + 1, 0, none⟩ = some ((.int .i64 0)) ∧ W.cell? ⟨w.heap.size + 1 + 1, 1, none⟩ = some ((.int .i64 0)) ∧ W.cell? ⟨w.heap.size + 1 + 1, 2, none⟩ = some ((.int .i64 0)) ∧ W.cell? ⟨w.heap.size + 1 + 1, 3, none⟩ = some ((.int .i64 0)) ∧ W.cell? ⟨w.heap.size + 1 + 1, 4, none⟩ = some ((.int .u64 0)) ∧ W.cell? ⟨w.heap.size + 1 + 1, 5, none⟩ = some ((.int .u64 0)) ∧ W.cell? ⟨w.heap.size + 1 + 1, 6, none⟩ = some ((.int .u64 0)) ∧ W.cell? ⟨w.heap.size + 1 + 1, 7, none⟩ = some ((.int .u64 0)) ∧ W.frozen? ⟨w.heap.size + 1 + 1, 0, none⟩ = false ∧ W.frozen? ⟨w.heap.size + 1 + 1, 1, none⟩ = false ∧ W.frozen? ⟨w.heap.size + 1 + 1, 2, none⟩ = false ∧ W.frozen? ⟨w.heap.size + 1 + 1, 3, none⟩ = false ∧ W.frozen? ⟨w.heap.size + 1 + 1, 4, none⟩ = false ∧ W.frozen? ⟨w.heap.size + 1 + 1, 5, none⟩ = false ∧ W.frozen? ⟨w.heap.size + 1 + 1, 6, none⟩ = false ∧ W.frozen? ⟨w.heap.size + 1 + 1, 7, none⟩ = false :=
  ⟨by rw [blk_cell h.tb]; rfl, by rw [blk_cell h.tb]; rfl, by rw [blk_cell h.tb]; rfl, by rw [blk_cell h.tb]; rfl, by rw [blk_cell h.tb]; rfl, by rw [blk_cell h.tb]; rfl, by rw [blk_cell h.tb]; rfl, by rw [blk_cell h.wb]; rfl, by rw [blk_cell h.wb]; rfl, by rw [blk_cell h.wb]; rfl, by rw [blk_cell h.wb]; rfl, by rw [blk_cell h.wb]; rfl, by rw [blk_cell h.wb]; rfl, by rw [blk_cell h.wb]; rfl, by rw [blk_cell h.wb]; rfl, blk_free h.wb 0, blk_free h.wb 1, blk_free h.wb 2, blk_free h.wb 3, blk_free h.wb 4, blk_free h.wb 5, blk_free h.wb 6, blk_free h.wb 7, by rw [blk_cell h.rb]; rfl, by rw [blk_cell h.rb]; rfl, by rw [blk_cell h.rb]; rfl, by rw [blk_cell h.rb]; rfl, by rw [blk_cell h.rb]; rfl, by rw [blk_cell h.rb]; rfl, by rw [blk_cell h.rb]; rfl, by rw [blk_cell h.rb]; rfl, blk_free h.rb 0, blk_free h.rb 1, blk_free h.rb 2, blk_free h.rb 3, blk_free h.rb 4, blk_free h.rb 5, blk_free h.rb 6, blk_free h.rb 7⟩
/-- Eight cells stored. -/
theorem box_set8 {w : World} {b : Nat} {T : TypeId} {z0 z1 z2 z3 z4 z5 z6 z7 : Value} (h : w.heap[b]? = some (.cells #[z0, z1, z2, z3, z4, z5, z6, z7] T (0, 0))) (y0 y1 y2 y3 y4 y5 y6 y7 : Value) : ((((((((w.setCell ⟨b, 0, none⟩ y0).setCell ⟨b, 1, none⟩ y1).setCell ⟨b, 2, none⟩ y2).setCell ⟨b, 3, none⟩ y3).setCell ⟨b, 4, none⟩ y4).setCell ⟨b, 5, none⟩ y5).setCell ⟨b, 6, none⟩ y6).setCell ⟨b, 7, none⟩ y7).heap[b]? = some (.cells #[y0, y1, y2, y3, y4, y5, y6, y7] T (0, 0)) := by
  have h0 : (w.setCell ⟨b, 0, none⟩ y0).heap[b]? = some (.cells #[y0, z1, z2, z3, z4, z5, z6, z7] T (0, 0)) := blk_set (o := 0) h y0
  generalize w.setCell ⟨b, 0, none⟩ y0 = w0 at h0 ⊢
  have h1 : (w0.setCell ⟨b, 1, none⟩ y1).heap[b]? = some (.cells #[y0, y1, z2, z3, z4, z5, z6, z7] T (0, 0)) := blk_set (o := 1) h0 y1
  generalize w0.setCell ⟨b, 1, none⟩ y1 = w1 at h1 ⊢
  have h2 : (w1.setCell ⟨b, 2, none⟩ y2).heap[b]? = some (.cells #[y0, y1, y2, z3, z4, z5, z6, z7] T (0, 0)) := blk_set (o := 2) h1 y2
  generalize w1.setCell ⟨b, 2, none⟩ y2 = w2 at h2 ⊢
  have h3 : (w2.setCell ⟨b, 3, none⟩ y3).heap[b]? = some (.cells #[y0, y1, y2, y3, z4, z5, z6, z7] T (0, 0)) := blk_set (o := 3) h2 y3
  generalize w2.setCell ⟨b, 3, none⟩ y3 = w3 at h3 ⊢
  have h4 : (w3.setCell ⟨b, 4, none⟩ y4).heap[b]? = some (.cells #[y0, y1, y2, y3, y4, z5, z6, z7] T (0, 0)) := blk_set (o := 4) h3 y4
  generalize w3.setCell ⟨b, 4, none⟩ y4 = w4 at h4 ⊢
  have h5 : (w4.setCell ⟨b, 5, none⟩ y5).heap[b]? = some (.cells #[y0, y1, y2, y3, y4, y5, z6, z7] T (0, 0)) := blk_set (o := 5) h4 y5
  generalize w4.setCell ⟨b, 5, none⟩ y5 = w5 at h5 ⊢
  have h6 : (w5.setCell ⟨b, 6, none⟩ y6).heap[b]? = some (.cells #[y0, y1, y2, y3, y4, y5, y6, z7] T (0, 0)) := blk_set (o := 6) h5 y6
  generalize w5.setCell ⟨b, 6, none⟩ y6 = w6 at h6 ⊢
  exact blk_set (o := 7) h6 y7
theorem far8 {w : World} {k b : Nat} (hne : k ≠ b) (y0 y1 y2 y3 y4 y5 y6 y7 : Value) : ((((((((w.setCell ⟨b, 0, none⟩ y0).setCell ⟨b, 1, none⟩ y1).setCell ⟨b, 2, none⟩ y2).setCell ⟨b, 3, none⟩ y3).setCell ⟨b, 4, none⟩ y4).setCell ⟨b, 5, none⟩ y5).setCell ⟨b, 6, none⟩ y6).setCell ⟨b, 7, none⟩ y7).heap[k]? = w.heap[k]? := by
  rw [blk_far (a := ⟨b, 7, none⟩) hne, blk_far (a := ⟨b, 6, none⟩) hne, blk_far (a := ⟨b, 5, none⟩) hne, blk_far (a := ⟨b, 4, none⟩) hne, blk_far (a := ⟨b, 3, none⟩) hne, blk_far (a := ⟨b, 2, none⟩) hne, blk_far (a := ⟨b, 1, none⟩) hne, blk_far (a := ⟨b, 0, none⟩) hne]
theorem turn8 {S : Nat → Prop} {w W : World} {b : Nat} (h : Turn S w W) (hb : w.heap.size ≤ b) (y0 y1 y2 y3 y4 y5 y6 y7 : Value) : Turn S w ((((((((W.setCell ⟨b, 0, none⟩ y0).setCell ⟨b, 1, none⟩ y1).setCell ⟨b, 2, none⟩ y2).setCell ⟨b, 3, none⟩ y3).setCell ⟨b, 4, none⟩ y4).setCell ⟨b, 5, none⟩ y5).setCell ⟨b, 6, none⟩ y6).setCell ⟨b, 7, none⟩ y7) := by
  have hs : ∀ (X : World), Turn S w X → ∀ (o : Nat) (v : Value), Turn S w (X.setCell ⟨b, o, none⟩ v) := fun X hX o v => hX.setCell (p := ⟨b, o, none⟩) (fun q => absurd q (by show ¬ b < _; omega)) v
  exact hs _ (hs _ (hs _ (hs _ (hs _ (hs _ (hs _ (hs _ h 0 y0) 1 y1) 2 y2) 3 y3) 4 y4) 5 y5) 6 y6) 7 y7
/-- What comes back stands in its box: the rest is as it was. -/
theorem Ch.out8 {T : TypeId} {W : World} {b r n g : Nat} {L : Nat → Int} (h : Ch T W b r n L) (hb : b ≠ g) (hr : r ≠ g) (y0 y1 y2 y3 y4 y5 y6 y7 : Value) : Ch T ((((((((W.setCell ⟨g, 0, none⟩ y0).setCell ⟨g, 1, none⟩ y1).setCell ⟨g, 2, none⟩ y2).setCell ⟨g, 3, none⟩ y3).setCell ⟨g, 4, none⟩ y4).setCell ⟨g, 5, none⟩ y5).setCell ⟨g, 6, none⟩ y6).setCell ⟨g, 7, none⟩ y7) b r n L := by
  obtain ⟨cur, h1, h2, h3⟩ := h.row
  exact ⟨(far8 hb y0 y1 y2 y3 y4 y5 y6 y7).trans h.str, ⟨cur, (far8 hr y0 y1 y2 y3 y4 y5 y6 y7).trans h1, h2, h3⟩, h.ne, h.few, h.wf⟩
theorem cells8 {w : World} {b : Nat} {T : TypeId} {y0 y1 y2 y3 y4 y5 y6 y7 : Value} (h : w.heap[b]? = some (.cells #[y0, y1, y2, y3, y4, y5, y6, y7] T (0, 0))) : w.cell? ⟨b, 0, none⟩ = some y0 ∧ w.cell? ⟨b, 1, none⟩ = some y1 ∧ w.cell? ⟨b, 2, none⟩ = some y2 ∧ w.cell? ⟨b, 3, none⟩ = some y3 ∧ w.cell? ⟨b, 4, none⟩ = some y4 ∧ w.cell? ⟨b, 5, none⟩ = some y5 ∧ w.cell? ⟨b, 6, none⟩ = some y6 ∧ w.cell? ⟨b, 7, none⟩ = some y7 :=
  ⟨by rw [blk_cell h]; rfl, by rw [blk_cell h]; rfl, by rw [blk_cell h]; rfl, by rw [blk_cell h]; rfl, by rw [blk_cell h]; rfl, by rw [blk_cell h]; rfl, by rw [blk_cell h]; rfl, by rw [blk_cell h]; rfl⟩
end Go.Proofs.Ytflemmmaakhahaa

/-
  Rows of works, in a box.
-/
namespace Go.Proofs.Ytflemmmaakhahaa
open Go.RowKit Go.Maps

instance : Inhabited WK := ⟨⟨0, 0, 0, 0, fun _ => false⟩⟩
def WK.cells (k : WK) : List Value := [.int .i64 k.dn, .int .i64 k.dm, .int .i64 k.db, .int .i64 k.rl, .int .u64 (wd k.sn 0), .int .u64 (wd k.sn 1), .int .u64 (wd k.sn 2), .int .u64 (wd k.sn 3)]
/-- A row of m works. -/
def Arr (T : TypeId) (w : World) (g m : Nat) (f : Nat → WK) : Prop :=
  ∃ cur : Array Value, w.heap[g]? = some (.cells cur T (0, 0)) ∧ cur.size = m * 8 ∧ ∀ k, k < m → ∀ j u, (f k).cells[j]? = some u → cur[k * 8 + j]? = some u
theorem Arr.lt {T : TypeId} {w : World} {g m : Nat} {f : Nat → WK} (h : Arr T w g m f) : g < w.heap.size := let ⟨_, hb, _⟩ := h; lt_of_block hb
theorem Arr.free {T : TypeId} {w : World} {g m : Nat} {f : Nat → WK} (h : Arr T w g m f) (o : Nat) : w.frozen? ⟨g, o, none⟩ = false := let ⟨_, hb, _⟩ := h; blk_free hb o
theorem Arr.cells {T : TypeId} {w : World} {g m : Nat} {f : Nat → WK} (h : Arr T w g m f) {k : Nat} (hk : k < m) : w.cell? ⟨g, k * 8, none⟩ = some (.int .i64 (f k).dn) ∧ w.cell? ⟨g, k * 8 + 1, none⟩ = some (.int .i64 (f k).dm) ∧ w.cell? ⟨g, k * 8 + 2, none⟩ = some (.int .i64 (f k).db) ∧ w.cell? ⟨g, k * 8 + 3, none⟩ = some (.int .i64 (f k).rl) ∧ w.cell? ⟨g, k * 8 + 4, none⟩ = some (.int .u64 (wd (f k).sn 0)) ∧ w.cell? ⟨g, k * 8 + 5, none⟩ = some (.int .u64 (wd (f k).sn 1)) ∧ w.cell? ⟨g, k * 8 + 6, none⟩ = some (.int .u64 (wd (f k).sn 2)) ∧ w.cell? ⟨g, k * 8 + 7, none⟩ = some (.int .u64 (wd (f k).sn 3)) := by
  obtain ⟨cur, hb, _, hc⟩ := h
  refine ⟨?_, ?_, ?_, ?_, ?_, ?_, ?_, ?_⟩ <;> rw [blk_cell hb]
  · exact hc k hk 0 _ rfl
  · exact hc k hk 1 _ rfl
  · exact hc k hk 2 _ rfl
  · exact hc k hk 3 _ rfl
  · exact hc k hk 4 _ rfl
  · exact hc k hk 5 _ rfl
  · exact hc k hk 6 _ rfl
  · exact hc k hk 7 _ rfl
theorem Arr.turn {T : TypeId} {S : Nat → Prop} {w w' : World} {g m : Nat} {f : Nat → WK} (h : Arr T w g m f) (ht : Turn S w w') (hn : ¬ S g) : Arr T w' g m f := by
  obtain ⟨cur, hb, h1, h2⟩ := h
  exact ⟨cur, ht.obj hb hn, h1, h2⟩
theorem Arr.below {T : TypeId} {w w' : World} {g m : Nat} {f : Nat → WK} (h : Arr T w g m f) (hb : Below w.heap.size w w') : Arr T w' g m f := h.turn (S := fun _ => False) (Turn.of_below hb) (fun q => q)
theorem Arr.congr {T : TypeId} {w : World} {g m : Nat} {f f' : Nat → WK} (h : Arr T w g m f) (he : ∀ k, k < m → f' k = f k) : Arr T w g m f' := by
  obtain ⟨cur, hb, h1, h2⟩ := h
  exact ⟨cur, hb, h1, fun k hk j u hj => h2 k hk j u (by rw [← he k hk]; exact hj)⟩
def setW (f : Nat → WK) (k : Nat) (x : WK) (i : Nat) : WK := if i = k then x else f i
theorem setW_at (f : Nat → WK) (k : Nat) (x : WK) : setW f k x k = x := if_pos rfl
theorem set8 (cur : Array Value) (b : Nat) (y0 y1 y2 y3 y4 y5 y6 y7 : Value) (hb : b + 8 ≤ cur.size) :
    let c := (((((((cur.setIfInBounds b y0).setIfInBounds (b + 1) y1).setIfInBounds (b + 2) y2).setIfInBounds (b + 3) y3).setIfInBounds (b + 4) y4).setIfInBounds (b + 5) y5).setIfInBounds (b + 6) y6).setIfInBounds (b + 7) y7
    c.size = cur.size ∧ (∀ j u, [y0, y1, y2, y3, y4, y5, y6, y7][j]? = some u → c[b + j]? = some u) ∧ ∀ i, i < b ∨ b + 8 ≤ i → c[i]? = cur[i]? := by
  intro c
  refine ⟨by simp [c], fun j u hj => ?_, fun i hi => ?_⟩
  · match j, hj with
    | 0, hj => simp at hj; subst hj; simp [c, Array.getElem?_setIfInBounds]; omega
    | 1, hj => simp at hj; subst hj; simp [c, Array.getElem?_setIfInBounds]; omega
    | 2, hj => simp at hj; subst hj; simp [c, Array.getElem?_setIfInBounds]; omega
    | 3, hj => simp at hj; subst hj; simp [c, Array.getElem?_setIfInBounds]; omega
    | 4, hj => simp at hj; subst hj; simp [c, Array.getElem?_setIfInBounds]; omega
    | 5, hj => simp at hj; subst hj; simp [c, Array.getElem?_setIfInBounds]; omega
    | 6, hj => simp at hj; subst hj; simp [c, Array.getElem?_setIfInBounds]; omega
    | 7, hj => simp at hj; subst hj; simp [c, Array.getElem?_setIfInBounds]; omega
    | j + 8, hj => simp at hj
  · simp only [c]
    rw [Array.getElem?_setIfInBounds_ne (by omega), Array.getElem?_setIfInBounds_ne (by omega), Array.getElem?_setIfInBounds_ne (by omega), Array.getElem?_setIfInBounds_ne (by omega), Array.getElem?_setIfInBounds_ne (by omega), Array.getElem?_setIfInBounds_ne (by omega), Array.getElem?_setIfInBounds_ne (by omega), Array.getElem?_setIfInBounds_ne (by omega)]
theorem Arr.set {T : TypeId} {w : World} {g m : Nat} {f : Nat → WK} (h : Arr T w g m f) {k : Nat} (hk : k < m) (x : WK) :
    Arr T ((((((((w.setCell ⟨g, k * 8, none⟩ (.int .i64 x.dn)).setCell ⟨g, k * 8 + 1, none⟩ (.int .i64 x.dm)).setCell ⟨g, k * 8 + 2, none⟩ (.int .i64 x.db)).setCell ⟨g, k * 8 + 3, none⟩ (.int .i64 x.rl)).setCell ⟨g, k * 8 + 4, none⟩ (.int .u64 (wd x.sn 0))).setCell ⟨g, k * 8 + 5, none⟩ (.int .u64 (wd x.sn 1))).setCell ⟨g, k * 8 + 6, none⟩ (.int .u64 (wd x.sn 2))).setCell ⟨g, k * 8 + 7, none⟩ (.int .u64 (wd x.sn 3))) g m (setW f k x) := by
  obtain ⟨cur, hb, h1, h2⟩ := h
  have hsz : k * 8 + 8 ≤ cur.size := by rw [h1]; have := Nat.mul_le_mul_right 8 (show k + 1 ≤ m from hk); omega
  obtain ⟨s1, s2, s3⟩ := set8 cur (k * 8) (.int .i64 x.dn) (.int .i64 x.dm) (.int .i64 x.db) (.int .i64 x.rl) (.int .u64 (wd x.sn 0)) (.int .u64 (wd x.sn 1)) (.int .u64 (wd x.sn 2)) (.int .u64 (wd x.sn 3)) hsz
  have b0 : (w.setCell ⟨g, k * 8, none⟩ (.int .i64 x.dn)).heap[g]? = some (.cells (cur.setIfInBounds (k * 8) (.int .i64 x.dn)) T (0, 0)) := blk_set (o := k * 8) hb _
  generalize w.setCell ⟨g, k * 8, none⟩ (.int .i64 x.dn) = w0 at b0 ⊢
  have b1 : (w0.setCell ⟨g, k * 8 + 1, none⟩ (.int .i64 x.dm)).heap[g]? = some (.cells ((cur.setIfInBounds (k * 8) (.int .i64 x.dn)).setIfInBounds (k * 8 + 1) (.int .i64 x.dm)) T (0, 0)) := blk_set (o := k * 8 + 1) b0 _
  generalize w0.setCell ⟨g, k * 8 + 1, none⟩ (.int .i64 x.dm) = w1 at b1 ⊢
  have b2 : (w1.setCell ⟨g, k * 8 + 2, none⟩ (.int .i64 x.db)).heap[g]? = some (.cells (((cur.setIfInBounds (k * 8) (.int .i64 x.dn)).setIfInBounds (k * 8 + 1) (.int .i64 x.dm)).setIfInBounds (k * 8 + 2) (.int .i64 x.db)) T (0, 0)) := blk_set (o := k * 8 + 2) b1 _
  generalize w1.setCell ⟨g, k * 8 + 2, none⟩ (.int .i64 x.db) = w2 at b2 ⊢
  have b3 : (w2.setCell ⟨g, k * 8 + 3, none⟩ (.int .i64 x.rl)).heap[g]? = some (.cells ((((cur.setIfInBounds (k * 8) (.int .i64 x.dn)).setIfInBounds (k * 8 + 1) (.int .i64 x.dm)).setIfInBounds (k * 8 + 2) (.int .i64 x.db)).setIfInBounds (k * 8 + 3) (.int .i64 x.rl)) T (0, 0)) := blk_set (o := k * 8 + 3) b2 _
  generalize w2.setCell ⟨g, k * 8 + 3, none⟩ (.int .i64 x.rl) = w3 at b3 ⊢
  have b4 : (w3.setCell ⟨g, k * 8 + 4, none⟩ (.int .u64 (wd x.sn 0))).heap[g]? = some (.cells (((((cur.setIfInBounds (k * 8) (.int .i64 x.dn)).setIfInBounds (k * 8 + 1) (.int .i64 x.dm)).setIfInBounds (k * 8 + 2) (.int .i64 x.db)).setIfInBounds (k * 8 + 3) (.int .i64 x.rl)).setIfInBounds (k * 8 + 4) (.int .u64 (wd x.sn 0))) T (0, 0)) := blk_set (o := k * 8 + 4) b3 _
  generalize w3.setCell ⟨g, k * 8 + 4, none⟩ (.int .u64 (wd x.sn 0)) = w4 at b4 ⊢
  have b5 : (w4.setCell ⟨g, k * 8 + 5, none⟩ (.int .u64 (wd x.sn 1))).heap[g]? = some (.cells ((((((cur.setIfInBounds (k * 8) (.int .i64 x.dn)).setIfInBounds (k * 8 + 1) (.int .i64 x.dm)).setIfInBounds (k * 8 + 2) (.int .i64 x.db)).setIfInBounds (k * 8 + 3) (.int .i64 x.rl)).setIfInBounds (k * 8 + 4) (.int .u64 (wd x.sn 0))).setIfInBounds (k * 8 + 5) (.int .u64 (wd x.sn 1))) T (0, 0)) := blk_set (o := k * 8 + 5) b4 _
  generalize w4.setCell ⟨g, k * 8 + 5, none⟩ (.int .u64 (wd x.sn 1)) = w5 at b5 ⊢
  have b6 : (w5.setCell ⟨g, k * 8 + 6, none⟩ (.int .u64 (wd x.sn 2))).heap[g]? = some (.cells (((((((cur.setIfInBounds (k * 8) (.int .i64 x.dn)).setIfInBounds (k * 8 + 1) (.int .i64 x.dm)).setIfInBounds (k * 8 + 2) (.int .i64 x.db)).setIfInBounds (k * 8 + 3) (.int .i64 x.rl)).setIfInBounds (k * 8 + 4) (.int .u64 (wd x.sn 0))).setIfInBounds (k * 8 + 5) (.int .u64 (wd x.sn 1))).setIfInBounds (k * 8 + 6) (.int .u64 (wd x.sn 2))) T (0, 0)) := blk_set (o := k * 8 + 6) b5 _
  generalize w5.setCell ⟨g, k * 8 + 6, none⟩ (.int .u64 (wd x.sn 2)) = w6 at b6 ⊢
  have b7 : (w6.setCell ⟨g, k * 8 + 7, none⟩ (.int .u64 (wd x.sn 3))).heap[g]? = some (.cells ((((((((cur.setIfInBounds (k * 8) (.int .i64 x.dn)).setIfInBounds (k * 8 + 1) (.int .i64 x.dm)).setIfInBounds (k * 8 + 2) (.int .i64 x.db)).setIfInBounds (k * 8 + 3) (.int .i64 x.rl)).setIfInBounds (k * 8 + 4) (.int .u64 (wd x.sn 0))).setIfInBounds (k * 8 + 5) (.int .u64 (wd x.sn 1))).setIfInBounds (k * 8 + 6) (.int .u64 (wd x.sn 2))).setIfInBounds (k * 8 + 7) (.int .u64 (wd x.sn 3))) T (0, 0)) := blk_set (o := k * 8 + 7) b6 _
  refine ⟨_, b7, by rw [s1, h1], fun i hi j u hj => ?_⟩
  unfold setW at hj
  by_cases e : i = k
  · subst e
    rw [if_pos rfl] at hj
    exact s2 j u hj
  · rw [if_neg e] at hj
    have hj8 : j < 8 := (List.getElem?_eq_some_iff.1 hj).1
    rw [s3 (i * 8 + j) (by
      rcases Nat.lt_or_gt_of_ne e with q | q
      · left; have := Nat.mul_le_mul_right 8 (show i + 1 ≤ k from q); omega
      · right; have := Nat.mul_le_mul_right 8 (show k + 1 ≤ i from q); omega)]
    exact h2 i hi j u hj
theorem Arr.far {T : TypeId} {w : World} {g m : Nat} {f : Nat → WK} (h : Arr T w g m f) {b o : Nat} (hne : g ≠ b) (v : Value) : Arr T (w.setCell ⟨b, o, none⟩ v) g m f := by
  obtain ⟨cur, hb, h1, h2⟩ := h
  exact ⟨cur, (blk_far (a := ⟨b, o, none⟩) hne v).trans hb, h1, h2⟩
theorem wd_false (k : Nat) : wd (fun _ => false) k = 0 := wd_none k
/-- No work at all. -/
def noWork : WK := ⟨0, 0, 0, 0, fun _ => false⟩
theorem noWork_cells : noWork.cells = [.int .i64 0, .int .i64 0, .int .i64 0, .int .i64 0, .int .u64 0, .int .u64 0, .int .u64 0, .int .u64 0] := by
  unfold WK.cells noWork
  dsimp only
  rw [wd_false, wd_false, wd_false, wd_false]
  rfl
theorem zeros2 (k : Nat) (hk : k < 2) (j : Nat) (u : Value) (hj : noWork.cells[j]? = some u) : (#[Value.int .i64 0, Value.int .i64 0, Value.int .i64 0, Value.int .i64 0, Value.int .u64 0, Value.int .u64 0, Value.int .u64 0, Value.int .u64 0, Value.int .i64 0, Value.int .i64 0, Value.int .i64 0, Value.int .i64 0, Value.int .u64 0, Value.int .u64 0, Value.int .u64 0, Value.int .u64 0] : Array Value)[k * 8 + j]? = some u := by
  rw [noWork_cells] at hj
  match k, hk with
  | 0, _ =>
    match j, hj with
    | 0, hj => exact hj
    | 1, hj => exact hj
    | 2, hj => exact hj
    | 3, hj => exact hj
    | 4, hj => exact hj
    | 5, hj => exact hj
    | 6, hj => exact hj
    | 7, hj => exact hj
    | j + 8, hj => simp at hj
  | 1, _ =>
    match j, hj with
    | 0, hj => exact hj
    | 1, hj => exact hj
    | 2, hj => exact hj
    | 3, hj => exact hj
    | 4, hj => exact hj
    | 5, hj => exact hj
    | 6, hj => exact hj
    | 7, hj => exact hj
    | j + 8, hj => simp at hj
  | k + 2, hk => omega
theorem arr_new2 (T : TypeId) (w : World) : Arr T (w.alloc (.cells #[Value.int .i64 0, Value.int .i64 0, Value.int .i64 0, Value.int .i64 0, Value.int .u64 0, Value.int .u64 0, Value.int .u64 0, Value.int .u64 0, Value.int .i64 0, Value.int .i64 0, Value.int .i64 0, Value.int .i64 0, Value.int .u64 0, Value.int .u64 0, Value.int .u64 0, Value.int .u64 0] T)) w.heap.size 2 (fun _ => noWork) :=
  ⟨_, heap_alloc_new w _, rfl, fun k hk j u hj => zeros2 k hk j u hj⟩
theorem zeros6 (k : Nat) (hk : k < 6) (j : Nat) (u : Value) (hj : noWork.cells[j]? = some u) : (#[Value.int .i64 0, Value.int .i64 0, Value.int .i64 0, Value.int .i64 0, Value.int .u64 0, Value.int .u64 0, Value.int .u64 0, Value.int .u64 0, Value.int .i64 0, Value.int .i64 0, Value.int .i64 0, Value.int .i64 0, Value.int .u64 0, Value.int .u64 0, Value.int .u64 0, Value.int .u64 0, Value.int .i64 0, Value.int .i64 0, Value.int .i64 0, Value.int .i64 0, Value.int .u64 0, Value.int .u64 0, Value.int .u64 0, Value.int .u64 0, Value.int .i64 0, Value.int .i64 0, Value.int .i64 0, Value.int .i64 0, Value.int .u64 0, Value.int .u64 0, Value.int .u64 0, Value.int .u64 0, Value.int .i64 0, Value.int .i64 0, Value.int .i64 0, Value.int .i64 0, Value.int .u64 0, Value.int .u64 0, Value.int .u64 0, Value.int .u64 0, Value.int .i64 0, Value.int .i64 0, Value.int .i64 0, Value.int .i64 0, Value.int .u64 0, Value.int .u64 0, Value.int .u64 0, Value.int .u64 0] : Array Value)[k * 8 + j]? = some u := by
  rw [noWork_cells] at hj
  match k, hk with
  | 0, _ =>
    match j, hj with
    | 0, hj => exact hj
    | 1, hj => exact hj
    | 2, hj => exact hj
    | 3, hj => exact hj
    | 4, hj => exact hj
    | 5, hj => exact hj
    | 6, hj => exact hj
    | 7, hj => exact hj
    | j + 8, hj => simp at hj
  | 1, _ =>
    match j, hj with
    | 0, hj => exact hj
    | 1, hj => exact hj
    | 2, hj => exact hj
    | 3, hj => exact hj
    | 4, hj => exact hj
    | 5, hj => exact hj
    | 6, hj => exact hj
    | 7, hj => exact hj
    | j + 8, hj => simp at hj
  | 2, _ =>
    match j, hj with
    | 0, hj => exact hj
    | 1, hj => exact hj
    | 2, hj => exact hj
    | 3, hj => exact hj
    | 4, hj => exact hj
    | 5, hj => exact hj
    | 6, hj => exact hj
    | 7, hj => exact hj
    | j + 8, hj => simp at hj
  | 3, _ =>
    match j, hj with
    | 0, hj => exact hj
    | 1, hj => exact hj
    | 2, hj => exact hj
    | 3, hj => exact hj
    | 4, hj => exact hj
    | 5, hj => exact hj
    | 6, hj => exact hj
    | 7, hj => exact hj
    | j + 8, hj => simp at hj
  | 4, _ =>
    match j, hj with
    | 0, hj => exact hj
    | 1, hj => exact hj
    | 2, hj => exact hj
    | 3, hj => exact hj
    | 4, hj => exact hj
    | 5, hj => exact hj
    | 6, hj => exact hj
    | 7, hj => exact hj
    | j + 8, hj => simp at hj
  | 5, _ =>
    match j, hj with
    | 0, hj => exact hj
    | 1, hj => exact hj
    | 2, hj => exact hj
    | 3, hj => exact hj
    | 4, hj => exact hj
    | 5, hj => exact hj
    | 6, hj => exact hj
    | 7, hj => exact hj
    | j + 8, hj => simp at hj
  | k + 6, hk => omega
theorem arr_new6 (T : TypeId) (w : World) : Arr T (w.alloc (.cells #[Value.int .i64 0, Value.int .i64 0, Value.int .i64 0, Value.int .i64 0, Value.int .u64 0, Value.int .u64 0, Value.int .u64 0, Value.int .u64 0, Value.int .i64 0, Value.int .i64 0, Value.int .i64 0, Value.int .i64 0, Value.int .u64 0, Value.int .u64 0, Value.int .u64 0, Value.int .u64 0, Value.int .i64 0, Value.int .i64 0, Value.int .i64 0, Value.int .i64 0, Value.int .u64 0, Value.int .u64 0, Value.int .u64 0, Value.int .u64 0, Value.int .i64 0, Value.int .i64 0, Value.int .i64 0, Value.int .i64 0, Value.int .u64 0, Value.int .u64 0, Value.int .u64 0, Value.int .u64 0, Value.int .i64 0, Value.int .i64 0, Value.int .i64 0, Value.int .i64 0, Value.int .u64 0, Value.int .u64 0, Value.int .u64 0, Value.int .u64 0, Value.int .i64 0, Value.int .i64 0, Value.int .i64 0, Value.int .i64 0, Value.int .u64 0, Value.int .u64 0, Value.int .u64 0, Value.int .u64 0] T)) w.heap.size 6 (fun _ => noWork) :=
  ⟨_, heap_alloc_new w _, rfl, fun k hk j u hj => zeros6 k hk j u hj⟩
end Go.Proofs.Ytflemmmaakhahaa

/-
  What a tick makes of a work, in plain words.
-/
namespace Go.Proofs.Ytflemmmaakhahaa
open Go.RowKit Go.Maps

theorem wUp_small {x : Int} (h0 : 0 ≤ x) (h1 : x ≤ 4611686018427387904) : wUp x = x + 1 := by unfold wUp; exact IntWalk.i64_in _ (by omega)
/-- One tick of a work that may be stepped. -/
theorem tick_facts {n : Nat} {L : Nat → Int} {id s : Int} {u : Bool} {rel : Int} {k : WK} (hf : Fits id rel k) (h0 : 0 ≤ k.rl) (h1 : k.rl ≤ 4611686018427387904) :
    ∃ dn db rl p q, stepW n L id s u rel k = (⟨dn, k.dm, db, rl, p⟩, q) ∧
      ((q = false ∧ dn = k.dn + 1 ∧ db = 0 ∧ k.db = 0 ∧ rl = k.rl) ∨ (q = true ∧ dn = k.dn ∧ rl = k.rl + 1 ∧ 0 < k.db ∧ db = k.db - 1) ∨ (q = true ∧ dn = k.dn ∧ rl = k.rl + 1 ∧ k.db = 0 ∧ 0 < rel ∧ db = rel - 1)) := by
  have hd : 0 ≤ k.db := hf.2.2.2.2.2
  unfold stepW
  rw [if_pos hf]
  by_cases hp : 0 < k.db
  · rw [if_pos hp]
    exact ⟨_, _, _, _, _, rfl, .inr (.inl ⟨rfl, rfl, wUp_small h0 h1, hp, rfl⟩)⟩
  · rw [if_neg hp]
    have hz : k.db = 0 := by omega
    unfold workW
    split
    · split
      · rename_i hq
        exact ⟨_, _, _, _, _, rfl, .inr (.inr ⟨rfl, rfl, wUp_small h0 h1, hz, hq.2.1, rfl⟩)⟩
      · exact ⟨_, _, _, _, _, rfl, .inl ⟨rfl, rfl, hz, hz, rfl⟩⟩
    · exact ⟨_, _, _, _, _, rfl, .inl ⟨rfl, rfl, hz, hz, rfl⟩⟩
/-- How far a job may have come by the i-th tick. -/
structure Inv (rel : Int) (i : Nat) (k : WK) : Prop where
  d0 : 0 ≤ k.dn
  d1 : k.dn ≤ k.dm
  d2 : k.dm ≤ 24
  b0 : 0 ≤ k.db
  b1 : k.db = 0 ∨ k.db < rel
  r0 : 0 ≤ k.rl
  r1 : k.rl ≤ i
theorem Inv.up {rel : Int} {i : Nat} {k : WK} (h : Inv rel i k) : Inv rel (i + 1) k := ⟨h.d0, h.d1, h.d2, h.b0, h.b1, h.r0, by have := h.r1; omega⟩
theorem inv_none (rel : Int) (i : Nat) : Inv rel i noWork := by
  refine ⟨?_, ?_, ?_, ?_, .inl rfl, ?_, ?_⟩ <;> unfold noWork <;> dsimp only <;> omega
/-- A work that has all to do. -/
def freshW (c : Int) : WK := ⟨0, c, 0, 0, fun _ => false⟩
theorem inv_fresh (rel : Int) (i : Nat) {c : Int} (h0 : 0 ≤ c) (h1 : c ≤ 24) : Inv rel i (freshW c) := by
  refine ⟨?_, ?_, ?_, ?_, .inl rfl, ?_, ?_⟩ <;> unfold freshW <;> dsimp only <;> omega
end Go.Proofs.Ytflemmmaakhahaa

/-
  The walks over the document's own answers: one number put in, taken out.
-/
namespace Go.Proofs.Ytflemmmaakhahaa
open Go.RowKit

theorem set4_results {w : World} {b y0 y1 y2 y3 : Nat} (h : Four w b y0 y1 y2 y3) (x0 x1 x2 x3 : Nat) :
    ((((w.setCell ⟨b, 0, none⟩ (.int .u64 x0)).setCell ⟨b, 1, none⟩ (.int .u64 x1)).setCell ⟨b, 2, none⟩ (.int .u64 x2)).setCell ⟨b, 3, none⟩ (.int .u64 x3)).cell? ⟨b, 0, none⟩ = some (.int .u64 x0) ∧
    ((((w.setCell ⟨b, 0, none⟩ (.int .u64 x0)).setCell ⟨b, 1, none⟩ (.int .u64 x1)).setCell ⟨b, 2, none⟩ (.int .u64 x2)).setCell ⟨b, 3, none⟩ (.int .u64 x3)).cell? ⟨b, 1, none⟩ = some (.int .u64 x1) ∧
    ((((w.setCell ⟨b, 0, none⟩ (.int .u64 x0)).setCell ⟨b, 1, none⟩ (.int .u64 x1)).setCell ⟨b, 2, none⟩ (.int .u64 x2)).setCell ⟨b, 3, none⟩ (.int .u64 x3)).cell? ⟨b, 2, none⟩ = some (.int .u64 x2) ∧
    ((((w.setCell ⟨b, 0, none⟩ (.int .u64 x0)).setCell ⟨b, 1, none⟩ (.int .u64 x1)).setCell ⟨b, 2, none⟩ (.int .u64 x2)).setCell ⟨b, 3, none⟩ (.int .u64 x3)).cell? ⟨b, 3, none⟩ = some (.int .u64 x3) := by
  obtain ⟨s0, s1, s2, s3, _, _, _, _⟩ := h.set4 x0 x1 x2 x3
  unfold set4 at s0 s1 s2 s3
  exact ⟨s0, s1, s2, s3⟩

set_option maxHeartbeats 2000000 in
theorem rwith_low (x0 x1 x2 x3 : Nat) (i : Int) (h : i < 0) (w : World)
    (C : Hid (∀ w, Calls Try.prog 41 #[.agg #[.int .u64 x0, .int .u64 x1, .int .u64 x2, .int .u64 x3], .int .i64 i] w fun e w' => e = .returned (.bool false) ∧ Below w.heap.size w w')) :
    Calls Try.prog 42 #[.agg #[.int .u64 x0, .int .u64 x1, .int .u64 x2, .int .u64 x3], .int .i64 i] w fun e w' => e = .returned (.agg #[.int .u64 x0, .int .u64 x1, .int .u64 x2, .int .u64 x3]) ∧ Below w.heap.size w w' := by
  have FA := Lib.hid ((Four.new w x0 x1 x2 x3 37).alloc (.cells #[.int .u64 0, .int .u64 0, .int .u64 0, .int .u64 0] 37))
  have FZ := Four.new (w.alloc (.cells #[.int .u64 x0, .int .u64 x1, .int .u64 x2, .int .u64 x3] 37)) 0 0 0 0 37
  rw [World.size_alloc] at FZ
  have FZ := Lib.hid FZ
  have HB := Lib.hid (((Below.refl w.heap.size w).alloc (Nat.le_refl _) (.cells #[.int .u64 x0, .int .u64 x1, .int .u64 x2, .int .u64 x3] 37)).alloc (by simp) (.cells #[.int .u64 0, .int .u64 0, .int .u64 0, .int .u64 0] 37))
  go_enter Try.func42, Try.ntmps42
  go_wp2_with (go_at_call 41; (refine (C.out _).mono ?_); rintro e w1 ⟨rfl, hw1⟩; have FA1 := Lib.hid (FA.out.kept hw1); have FZ1 := Lib.hid (FZ.out.kept hw1); have HB1 := Lib.hid (below_next hw1 HB.out (Nat.le_refl _)); obtain ⟨a0, a1, a2, a3, c0, c1, c2, c3⟩ := FA1.out; obtain ⟨z0, z1, z2, z3, v0, v1, v2, v3⟩ := FZ1.out; clear hw1)
  refine bodyPost_ret (v := .agg #[.int .u64 x0, .int .u64 x1, .int .u64 x2, .int .u64 x3]) ?_ rfl ⟨rfl, below_set4 HB1.out (by simp) x0 x1 x2 x3⟩
  obtain ⟨s0, s1, s2, s3⟩ := set4_results FZ1.out x0 x1 x2 x3
  simp [results, Try.results42, go_sem, s0, s1, s2, s3]

set_option maxHeartbeats 2000000 in
theorem rwith_high (x0 x1 x2 x3 : Nat) (i : Int) (h0 : 0 ≤ i) (h : 255 < i) (w : World)
    (C : Hid (∀ w, Calls Try.prog 41 #[.agg #[.int .u64 x0, .int .u64 x1, .int .u64 x2, .int .u64 x3], .int .i64 i] w fun e w' => e = .returned (.bool false) ∧ Below w.heap.size w w')) :
    Calls Try.prog 42 #[.agg #[.int .u64 x0, .int .u64 x1, .int .u64 x2, .int .u64 x3], .int .i64 i] w fun e w' => e = .returned (.agg #[.int .u64 x0, .int .u64 x1, .int .u64 x2, .int .u64 x3]) ∧ Below w.heap.size w w' := by
  have FA := Lib.hid ((Four.new w x0 x1 x2 x3 37).alloc (.cells #[.int .u64 0, .int .u64 0, .int .u64 0, .int .u64 0] 37))
  have FZ := Four.new (w.alloc (.cells #[.int .u64 x0, .int .u64 x1, .int .u64 x2, .int .u64 x3] 37)) 0 0 0 0 37
  rw [World.size_alloc] at FZ
  have FZ := Lib.hid FZ
  have HB := Lib.hid (((Below.refl w.heap.size w).alloc (Nat.le_refl _) (.cells #[.int .u64 x0, .int .u64 x1, .int .u64 x2, .int .u64 x3] 37)).alloc (by simp) (.cells #[.int .u64 0, .int .u64 0, .int .u64 0, .int .u64 0] 37))
  go_enter Try.func42, Try.ntmps42
  go_wp2_with (go_at_call 41; (refine (C.out _).mono ?_); rintro e w1 ⟨rfl, hw1⟩; have FA1 := Lib.hid (FA.out.kept hw1); have FZ1 := Lib.hid (FZ.out.kept hw1); have HB1 := Lib.hid (below_next hw1 HB.out (Nat.le_refl _)); obtain ⟨a0, a1, a2, a3, c0, c1, c2, c3⟩ := FA1.out; obtain ⟨z0, z1, z2, z3, v0, v1, v2, v3⟩ := FZ1.out; clear hw1)
  refine bodyPost_ret (v := .agg #[.int .u64 x0, .int .u64 x1, .int .u64 x2, .int .u64 x3]) ?_ rfl ⟨rfl, below_set4 HB1.out (by simp) x0 x1 x2 x3⟩
  obtain ⟨s0, s1, s2, s3⟩ := set4_results FZ1.out x0 x1 x2 x3
  simp [results, Try.results42, go_sem, s0, s1, s2, s3]

set_option maxHeartbeats 2000000 in
theorem rwith_same (x0 x1 x2 x3 : Nat) (i : Int) (h0 : 0 ≤ i) (h : i ≤ 255) (w : World)
    (C : Hid (∀ w, Calls Try.prog 41 #[.agg #[.int .u64 x0, .int .u64 x1, .int .u64 x2, .int .u64 x3], .int .i64 i] w fun e w' => e = .returned (.bool true) ∧ Below w.heap.size w w')) :
    Calls Try.prog 42 #[.agg #[.int .u64 x0, .int .u64 x1, .int .u64 x2, .int .u64 x3], .int .i64 i] w fun e w' => e = .returned (.agg #[.int .u64 x0, .int .u64 x1, .int .u64 x2, .int .u64 x3]) ∧ Below w.heap.size w w' := by
  have FA := Lib.hid ((Four.new w x0 x1 x2 x3 37).alloc (.cells #[.int .u64 0, .int .u64 0, .int .u64 0, .int .u64 0] 37))
  have FZ := Four.new (w.alloc (.cells #[.int .u64 x0, .int .u64 x1, .int .u64 x2, .int .u64 x3] 37)) 0 0 0 0 37
  rw [World.size_alloc] at FZ
  have FZ := Lib.hid FZ
  have HB := Lib.hid (((Below.refl w.heap.size w).alloc (Nat.le_refl _) (.cells #[.int .u64 x0, .int .u64 x1, .int .u64 x2, .int .u64 x3] 37)).alloc (by simp) (.cells #[.int .u64 0, .int .u64 0, .int .u64 0, .int .u64 0] 37))
  go_enter Try.func42, Try.ntmps42
  go_wp2_with (go_at_call 41; (refine (C.out _).mono ?_); rintro e w1 ⟨rfl, hw1⟩; have FA1 := Lib.hid (FA.out.kept hw1); have FZ1 := Lib.hid (FZ.out.kept hw1); have HB1 := Lib.hid (below_next hw1 HB.out (Nat.le_refl _)); obtain ⟨a0, a1, a2, a3, c0, c1, c2, c3⟩ := FA1.out; obtain ⟨z0, z1, z2, z3, v0, v1, v2, v3⟩ := FZ1.out; clear hw1)
  refine bodyPost_ret (v := .agg #[.int .u64 x0, .int .u64 x1, .int .u64 x2, .int .u64 x3]) ?_ rfl ⟨rfl, below_set4 HB1.out (by simp) x0 x1 x2 x3⟩
  obtain ⟨s0, s1, s2, s3⟩ := set4_results FZ1.out x0 x1 x2 x3
  simp [results, Try.results42, go_sem, s0, s1, s2, s3]

set_option maxHeartbeats 2000000 in
theorem rwith_0 (x0 x1 x2 x3 : Nat) (i : Int) (_h0 : 0 ≤ i) (_h255 : i ≤ 255) (h1 : i / 64 = 0) (j : Nat) (hj : j < 64) (h2 : i % 64 = j) (y : Nat) (hy : x0 + 2 ^ j = y) (hl : y < 18446744073709551616) (w : World)
    (C : Hid (∀ w, Calls Try.prog 41 #[.agg #[.int .u64 x0, .int .u64 x1, .int .u64 x2, .int .u64 x3], .int .i64 i] w fun e w' => e = .returned (.bool false) ∧ Below w.heap.size w w')) :
    Calls Try.prog 42 #[.agg #[.int .u64 x0, .int .u64 x1, .int .u64 x2, .int .u64 x3], .int .i64 i] w fun e w' => e = .returned (.agg #[.int .u64 y, .int .u64 x1, .int .u64 x2, .int .u64 x3]) ∧ Below w.heap.size w w' := by
  have FA := Lib.hid ((Four.new w x0 x1 x2 x3 37).alloc (.cells #[.int .u64 0, .int .u64 0, .int .u64 0, .int .u64 0] 37))
  have FZ := Four.new (w.alloc (.cells #[.int .u64 x0, .int .u64 x1, .int .u64 x2, .int .u64 x3] 37)) 0 0 0 0 37
  rw [World.size_alloc] at FZ
  have FZ := Lib.hid FZ
  have HB := Lib.hid (((Below.refl w.heap.size w).alloc (Nat.le_refl _) (.cells #[.int .u64 x0, .int .u64 x1, .int .u64 x2, .int .u64 x3] 37)).alloc (by simp) (.cells #[.int .u64 0, .int .u64 0, .int .u64 0, .int .u64 0] 37))
  have hs : IntKind.u64.wrap ((x0 : Int) + ((2 ^ j : Nat) : Int)) = (y : Int) := by rw [← Int.natCast_add, hy]; exact u64_nat y hl
  have pw := pow_wrap hj
  clear hl hy
  generalize (2 : Nat) ^ j = z at pw hs
  go_enter Try.func42, Try.ntmps42
  go_wp2_with (go_at_call 41; (refine (C.out _).mono ?_); rintro e w1 ⟨rfl, hw1⟩; have FA1 := Lib.hid (FA.out.kept hw1); have FZ1 := Lib.hid (FZ.out.kept hw1); have HB1 := Lib.hid (below_next hw1 HB.out (Nat.le_refl _)); obtain ⟨a0, a1, a2, a3, c0, c1, c2, c3⟩ := FA1.out; obtain ⟨z0, z1, z2, z3, v0, v1, v2, v3⟩ := FZ1.out; clear hw1)
  refine bodyPost_ret (v := .agg #[.int .u64 y, .int .u64 x1, .int .u64 x2, .int .u64 x3]) ?_ rfl ⟨rfl, below_set4 (HB1.out.setCell (p := ⟨w.heap.size, 0, none⟩) (Nat.le_refl _) _) (by simp) y x1 x2 x3⟩
  obtain ⟨s0, s1, s2, s3⟩ := set4_results (FZ1.out.far (p := ⟨w.heap.size, 0, none⟩) (by simp) (.int .u64 y)) y x1 x2 x3
  simp [results, Try.results42, go_sem, s0, s1, s2, s3]

set_option maxHeartbeats 2000000 in
theorem rwith_1 (x0 x1 x2 x3 : Nat) (i : Int) (_h0 : 0 ≤ i) (_h255 : i ≤ 255) (h1 : i / 64 = 1) (j : Nat) (hj : j < 64) (h2 : i % 64 = j) (y : Nat) (hy : x1 + 2 ^ j = y) (hl : y < 18446744073709551616) (w : World)
    (C : Hid (∀ w, Calls Try.prog 41 #[.agg #[.int .u64 x0, .int .u64 x1, .int .u64 x2, .int .u64 x3], .int .i64 i] w fun e w' => e = .returned (.bool false) ∧ Below w.heap.size w w')) :
    Calls Try.prog 42 #[.agg #[.int .u64 x0, .int .u64 x1, .int .u64 x2, .int .u64 x3], .int .i64 i] w fun e w' => e = .returned (.agg #[.int .u64 x0, .int .u64 y, .int .u64 x2, .int .u64 x3]) ∧ Below w.heap.size w w' := by
  have FA := Lib.hid ((Four.new w x0 x1 x2 x3 37).alloc (.cells #[.int .u64 0, .int .u64 0, .int .u64 0, .int .u64 0] 37))
  have FZ := Four.new (w.alloc (.cells #[.int .u64 x0, .int .u64 x1, .int .u64 x2, .int .u64 x3] 37)) 0 0 0 0 37
  rw [World.size_alloc] at FZ
  have FZ := Lib.hid FZ
  have HB := Lib.hid (((Below.refl w.heap.size w).alloc (Nat.le_refl _) (.cells #[.int .u64 x0, .int .u64 x1, .int .u64 x2, .int .u64 x3] 37)).alloc (by simp) (.cells #[.int .u64 0, .int .u64 0, .int .u64 0, .int .u64 0] 37))
  have hs : IntKind.u64.wrap ((x1 : Int) + ((2 ^ j : Nat) : Int)) = (y : Int) := by rw [← Int.natCast_add, hy]; exact u64_nat y hl
  have pw := pow_wrap hj
  clear hl hy
  generalize (2 : Nat) ^ j = z at pw hs
  go_enter Try.func42, Try.ntmps42
  go_wp2_with (go_at_call 41; (refine (C.out _).mono ?_); rintro e w1 ⟨rfl, hw1⟩; have FA1 := Lib.hid (FA.out.kept hw1); have FZ1 := Lib.hid (FZ.out.kept hw1); have HB1 := Lib.hid (below_next hw1 HB.out (Nat.le_refl _)); obtain ⟨a0, a1, a2, a3, c0, c1, c2, c3⟩ := FA1.out; obtain ⟨z0, z1, z2, z3, v0, v1, v2, v3⟩ := FZ1.out; clear hw1)
  refine bodyPost_ret (v := .agg #[.int .u64 x0, .int .u64 y, .int .u64 x2, .int .u64 x3]) ?_ rfl ⟨rfl, below_set4 (HB1.out.setCell (p := ⟨w.heap.size, 1, none⟩) (Nat.le_refl _) _) (by simp) x0 y x2 x3⟩
  obtain ⟨s0, s1, s2, s3⟩ := set4_results (FZ1.out.far (p := ⟨w.heap.size, 1, none⟩) (by simp) (.int .u64 y)) x0 y x2 x3
  simp [results, Try.results42, go_sem, s0, s1, s2, s3]

set_option maxHeartbeats 2000000 in
theorem rwith_2 (x0 x1 x2 x3 : Nat) (i : Int) (_h0 : 0 ≤ i) (_h255 : i ≤ 255) (h1 : i / 64 = 2) (j : Nat) (hj : j < 64) (h2 : i % 64 = j) (y : Nat) (hy : x2 + 2 ^ j = y) (hl : y < 18446744073709551616) (w : World)
    (C : Hid (∀ w, Calls Try.prog 41 #[.agg #[.int .u64 x0, .int .u64 x1, .int .u64 x2, .int .u64 x3], .int .i64 i] w fun e w' => e = .returned (.bool false) ∧ Below w.heap.size w w')) :
    Calls Try.prog 42 #[.agg #[.int .u64 x0, .int .u64 x1, .int .u64 x2, .int .u64 x3], .int .i64 i] w fun e w' => e = .returned (.agg #[.int .u64 x0, .int .u64 x1, .int .u64 y, .int .u64 x3]) ∧ Below w.heap.size w w' := by
  have FA := Lib.hid ((Four.new w x0 x1 x2 x3 37).alloc (.cells #[.int .u64 0, .int .u64 0, .int .u64 0, .int .u64 0] 37))
  have FZ := Four.new (w.alloc (.cells #[.int .u64 x0, .int .u64 x1, .int .u64 x2, .int .u64 x3] 37)) 0 0 0 0 37
  rw [World.size_alloc] at FZ
  have FZ := Lib.hid FZ
  have HB := Lib.hid (((Below.refl w.heap.size w).alloc (Nat.le_refl _) (.cells #[.int .u64 x0, .int .u64 x1, .int .u64 x2, .int .u64 x3] 37)).alloc (by simp) (.cells #[.int .u64 0, .int .u64 0, .int .u64 0, .int .u64 0] 37))
  have hs : IntKind.u64.wrap ((x2 : Int) + ((2 ^ j : Nat) : Int)) = (y : Int) := by rw [← Int.natCast_add, hy]; exact u64_nat y hl
  have pw := pow_wrap hj
  clear hl hy
  generalize (2 : Nat) ^ j = z at pw hs
  go_enter Try.func42, Try.ntmps42
  go_wp2_with (go_at_call 41; (refine (C.out _).mono ?_); rintro e w1 ⟨rfl, hw1⟩; have FA1 := Lib.hid (FA.out.kept hw1); have FZ1 := Lib.hid (FZ.out.kept hw1); have HB1 := Lib.hid (below_next hw1 HB.out (Nat.le_refl _)); obtain ⟨a0, a1, a2, a3, c0, c1, c2, c3⟩ := FA1.out; obtain ⟨z0, z1, z2, z3, v0, v1, v2, v3⟩ := FZ1.out; clear hw1)
  refine bodyPost_ret (v := .agg #[.int .u64 x0, .int .u64 x1, .int .u64 y, .int .u64 x3]) ?_ rfl ⟨rfl, below_set4 (HB1.out.setCell (p := ⟨w.heap.size, 2, none⟩) (Nat.le_refl _) _) (by simp) x0 x1 y x3⟩
  obtain ⟨s0, s1, s2, s3⟩ := set4_results (FZ1.out.far (p := ⟨w.heap.size, 2, none⟩) (by simp) (.int .u64 y)) x0 x1 y x3
  simp [results, Try.results42, go_sem, s0, s1, s2, s3]

set_option maxHeartbeats 2000000 in
theorem rwith_3 (x0 x1 x2 x3 : Nat) (i : Int) (_h0 : 0 ≤ i) (_h255 : i ≤ 255) (h1 : i / 64 = 3) (j : Nat) (hj : j < 64) (h2 : i % 64 = j) (y : Nat) (hy : x3 + 2 ^ j = y) (hl : y < 18446744073709551616) (w : World)
    (C : Hid (∀ w, Calls Try.prog 41 #[.agg #[.int .u64 x0, .int .u64 x1, .int .u64 x2, .int .u64 x3], .int .i64 i] w fun e w' => e = .returned (.bool false) ∧ Below w.heap.size w w')) :
    Calls Try.prog 42 #[.agg #[.int .u64 x0, .int .u64 x1, .int .u64 x2, .int .u64 x3], .int .i64 i] w fun e w' => e = .returned (.agg #[.int .u64 x0, .int .u64 x1, .int .u64 x2, .int .u64 y]) ∧ Below w.heap.size w w' := by
  have FA := Lib.hid ((Four.new w x0 x1 x2 x3 37).alloc (.cells #[.int .u64 0, .int .u64 0, .int .u64 0, .int .u64 0] 37))
  have FZ := Four.new (w.alloc (.cells #[.int .u64 x0, .int .u64 x1, .int .u64 x2, .int .u64 x3] 37)) 0 0 0 0 37
  rw [World.size_alloc] at FZ
  have FZ := Lib.hid FZ
  have HB := Lib.hid (((Below.refl w.heap.size w).alloc (Nat.le_refl _) (.cells #[.int .u64 x0, .int .u64 x1, .int .u64 x2, .int .u64 x3] 37)).alloc (by simp) (.cells #[.int .u64 0, .int .u64 0, .int .u64 0, .int .u64 0] 37))
  have hs : IntKind.u64.wrap ((x3 : Int) + ((2 ^ j : Nat) : Int)) = (y : Int) := by rw [← Int.natCast_add, hy]; exact u64_nat y hl
  have pw := pow_wrap hj
  clear hl hy
  generalize (2 : Nat) ^ j = z at pw hs
  go_enter Try.func42, Try.ntmps42
  go_wp2_with (go_at_call 41; (refine (C.out _).mono ?_); rintro e w1 ⟨rfl, hw1⟩; have FA1 := Lib.hid (FA.out.kept hw1); have FZ1 := Lib.hid (FZ.out.kept hw1); have HB1 := Lib.hid (below_next hw1 HB.out (Nat.le_refl _)); obtain ⟨a0, a1, a2, a3, c0, c1, c2, c3⟩ := FA1.out; obtain ⟨z0, z1, z2, z3, v0, v1, v2, v3⟩ := FZ1.out; clear hw1)
  refine bodyPost_ret (v := .agg #[.int .u64 x0, .int .u64 x1, .int .u64 x2, .int .u64 y]) ?_ rfl ⟨rfl, below_set4 (HB1.out.setCell (p := ⟨w.heap.size, 3, none⟩) (Nat.le_refl _) _) (by simp) x0 x1 x2 y⟩
  obtain ⟨s0, s1, s2, s3⟩ := set4_results (FZ1.out.far (p := ⟨w.heap.size, 3, none⟩) (by simp) (.int .u64 y)) x0 x1 x2 y
  simp [results, Try.results42, go_sem, s0, s1, s2, s3]

set_option maxHeartbeats 2000000 in
theorem rwithout_same (x0 x1 x2 x3 : Nat) (i : Int)  (w : World)
    (C : Hid (∀ w, Calls Try.prog 41 #[.agg #[.int .u64 x0, .int .u64 x1, .int .u64 x2, .int .u64 x3], .int .i64 i] w fun e w' => e = .returned (.bool false) ∧ Below w.heap.size w w')) :
    Calls Try.prog 52 #[.agg #[.int .u64 x0, .int .u64 x1, .int .u64 x2, .int .u64 x3], .int .i64 i] w fun e w' => e = .returned (.agg #[.int .u64 x0, .int .u64 x1, .int .u64 x2, .int .u64 x3]) ∧ Below w.heap.size w w' := by
  have FA := Lib.hid ((Four.new w x0 x1 x2 x3 37).alloc (.cells #[.int .u64 0, .int .u64 0, .int .u64 0, .int .u64 0] 37))
  have FZ := Four.new (w.alloc (.cells #[.int .u64 x0, .int .u64 x1, .int .u64 x2, .int .u64 x3] 37)) 0 0 0 0 37
  rw [World.size_alloc] at FZ
  have FZ := Lib.hid FZ
  have HB := Lib.hid (((Below.refl w.heap.size w).alloc (Nat.le_refl _) (.cells #[.int .u64 x0, .int .u64 x1, .int .u64 x2, .int .u64 x3] 37)).alloc (by simp) (.cells #[.int .u64 0, .int .u64 0, .int .u64 0, .int .u64 0] 37))
  go_enter Try.func52, Try.ntmps52
  go_wp2_with (go_at_call 41; (refine (C.out _).mono ?_); rintro e w1 ⟨rfl, hw1⟩; have FA1 := Lib.hid (FA.out.kept hw1); have FZ1 := Lib.hid (FZ.out.kept hw1); have HB1 := Lib.hid (below_next hw1 HB.out (Nat.le_refl _)); obtain ⟨a0, a1, a2, a3, c0, c1, c2, c3⟩ := FA1.out; obtain ⟨z0, z1, z2, z3, v0, v1, v2, v3⟩ := FZ1.out; clear hw1)
  refine bodyPost_ret (v := .agg #[.int .u64 x0, .int .u64 x1, .int .u64 x2, .int .u64 x3]) ?_ rfl ⟨rfl, below_set4 HB1.out (by simp) x0 x1 x2 x3⟩
  obtain ⟨s0, s1, s2, s3⟩ := set4_results FZ1.out x0 x1 x2 x3
  simp [results, Try.results52, go_sem, s0, s1, s2, s3]

set_option maxHeartbeats 2000000 in
theorem rwithout_0 (x0 x1 x2 x3 : Nat) (i : Int) (_h0 : 0 ≤ i) (_h255 : i ≤ 255) (h1 : i / 64 = 0) (j : Nat) (hj : j < 64) (h2 : i % 64 = j) (y : Nat) (hy : x0 = y + 2 ^ j) (hl : y < 18446744073709551616) (w : World)
    (C : Hid (∀ w, Calls Try.prog 41 #[.agg #[.int .u64 x0, .int .u64 x1, .int .u64 x2, .int .u64 x3], .int .i64 i] w fun e w' => e = .returned (.bool true) ∧ Below w.heap.size w w')) :
    Calls Try.prog 52 #[.agg #[.int .u64 x0, .int .u64 x1, .int .u64 x2, .int .u64 x3], .int .i64 i] w fun e w' => e = .returned (.agg #[.int .u64 y, .int .u64 x1, .int .u64 x2, .int .u64 x3]) ∧ Below w.heap.size w w' := by
  have FA := Lib.hid ((Four.new w x0 x1 x2 x3 37).alloc (.cells #[.int .u64 0, .int .u64 0, .int .u64 0, .int .u64 0] 37))
  have FZ := Four.new (w.alloc (.cells #[.int .u64 x0, .int .u64 x1, .int .u64 x2, .int .u64 x3] 37)) 0 0 0 0 37
  rw [World.size_alloc] at FZ
  have FZ := Lib.hid FZ
  have HB := Lib.hid (((Below.refl w.heap.size w).alloc (Nat.le_refl _) (.cells #[.int .u64 x0, .int .u64 x1, .int .u64 x2, .int .u64 x3] 37)).alloc (by simp) (.cells #[.int .u64 0, .int .u64 0, .int .u64 0, .int .u64 0] 37))
  have hs : IntKind.u64.wrap ((x0 : Int) - ((2 ^ j : Nat) : Int)) = (y : Int) := by rw [hy, Int.natCast_add, Int.add_sub_cancel]; exact u64_nat y hl
  have pw := pow_wrap hj
  clear hl hy
  generalize (2 : Nat) ^ j = z at pw hs
  go_enter Try.func52, Try.ntmps52
  go_wp2_with (go_at_call 41; (refine (C.out _).mono ?_); rintro e w1 ⟨rfl, hw1⟩; have FA1 := Lib.hid (FA.out.kept hw1); have FZ1 := Lib.hid (FZ.out.kept hw1); have HB1 := Lib.hid (below_next hw1 HB.out (Nat.le_refl _)); obtain ⟨a0, a1, a2, a3, c0, c1, c2, c3⟩ := FA1.out; obtain ⟨z0, z1, z2, z3, v0, v1, v2, v3⟩ := FZ1.out; clear hw1)
  refine bodyPost_ret (v := .agg #[.int .u64 y, .int .u64 x1, .int .u64 x2, .int .u64 x3]) ?_ rfl ⟨rfl, below_set4 (HB1.out.setCell (p := ⟨w.heap.size, 0, none⟩) (Nat.le_refl _) _) (by simp) y x1 x2 x3⟩
  obtain ⟨s0, s1, s2, s3⟩ := set4_results (FZ1.out.far (p := ⟨w.heap.size, 0, none⟩) (by simp) (.int .u64 y)) y x1 x2 x3
  simp [results, Try.results52, go_sem, s0, s1, s2, s3]

set_option maxHeartbeats 2000000 in
theorem rwithout_1 (x0 x1 x2 x3 : Nat) (i : Int) (_h0 : 0 ≤ i) (_h255 : i ≤ 255) (h1 : i / 64 = 1) (j : Nat) (hj : j < 64) (h2 : i % 64 = j) (y : Nat) (hy : x1 = y + 2 ^ j) (hl : y < 18446744073709551616) (w : World)
    (C : Hid (∀ w, Calls Try.prog 41 #[.agg #[.int .u64 x0, .int .u64 x1, .int .u64 x2, .int .u64 x3], .int .i64 i] w fun e w' => e = .returned (.bool true) ∧ Below w.heap.size w w')) :
    Calls Try.prog 52 #[.agg #[.int .u64 x0, .int .u64 x1, .int .u64 x2, .int .u64 x3], .int .i64 i] w fun e w' => e = .returned (.agg #[.int .u64 x0, .int .u64 y, .int .u64 x2, .int .u64 x3]) ∧ Below w.heap.size w w' := by
  have FA := Lib.hid ((Four.new w x0 x1 x2 x3 37).alloc (.cells #[.int .u64 0, .int .u64 0, .int .u64 0, .int .u64 0] 37))
  have FZ := Four.new (w.alloc (.cells #[.int .u64 x0, .int .u64 x1, .int .u64 x2, .int .u64 x3] 37)) 0 0 0 0 37
  rw [World.size_alloc] at FZ
  have FZ := Lib.hid FZ
  have HB := Lib.hid (((Below.refl w.heap.size w).alloc (Nat.le_refl _) (.cells #[.int .u64 x0, .int .u64 x1, .int .u64 x2, .int .u64 x3] 37)).alloc (by simp) (.cells #[.int .u64 0, .int .u64 0, .int .u64 0, .int .u64 0] 37))
  have hs : IntKind.u64.wrap ((x1 : Int) - ((2 ^ j : Nat) : Int)) = (y : Int) := by rw [hy, Int.natCast_add, Int.add_sub_cancel]; exact u64_nat y hl
  have pw := pow_wrap hj
  clear hl hy
  generalize (2 : Nat) ^ j = z at pw hs
  go_enter Try.func52, Try.ntmps52
  go_wp2_with (go_at_call 41; (refine (C.out _).mono ?_); rintro e w1 ⟨rfl, hw1⟩; have FA1 := Lib.hid (FA.out.kept hw1); have FZ1 := Lib.hid (FZ.out.kept hw1); have HB1 := Lib.hid (below_next hw1 HB.out (Nat.le_refl _)); obtain ⟨a0, a1, a2, a3, c0, c1, c2, c3⟩ := FA1.out; obtain ⟨z0, z1, z2, z3, v0, v1, v2, v3⟩ := FZ1.out; clear hw1)
  refine bodyPost_ret (v := .agg #[.int .u64 x0, .int .u64 y, .int .u64 x2, .int .u64 x3]) ?_ rfl ⟨rfl, below_set4 (HB1.out.setCell (p := ⟨w.heap.size, 1, none⟩) (Nat.le_refl _) _) (by simp) x0 y x2 x3⟩
  obtain ⟨s0, s1, s2, s3⟩ := set4_results (FZ1.out.far (p := ⟨w.heap.size, 1, none⟩) (by simp) (.int .u64 y)) x0 y x2 x3
  simp [results, Try.results52, go_sem, s0, s1, s2, s3]

set_option maxHeartbeats 2000000 in
theorem rwithout_2 (x0 x1 x2 x3 : Nat) (i : Int) (_h0 : 0 ≤ i) (_h255 : i ≤ 255) (h1 : i / 64 = 2) (j : Nat) (hj : j < 64) (h2 : i % 64 = j) (y : Nat) (hy : x2 = y + 2 ^ j) (hl : y < 18446744073709551616) (w : World)
    (C : Hid (∀ w, Calls Try.prog 41 #[.agg #[.int .u64 x0, .int .u64 x1, .int .u64 x2, .int .u64 x3], .int .i64 i] w fun e w' => e = .returned (.bool true) ∧ Below w.heap.size w w')) :
    Calls Try.prog 52 #[.agg #[.int .u64 x0, .int .u64 x1, .int .u64 x2, .int .u64 x3], .int .i64 i] w fun e w' => e = .returned (.agg #[.int .u64 x0, .int .u64 x1, .int .u64 y, .int .u64 x3]) ∧ Below w.heap.size w w' := by
  have FA := Lib.hid ((Four.new w x0 x1 x2 x3 37).alloc (.cells #[.int .u64 0, .int .u64 0, .int .u64 0, .int .u64 0] 37))
  have FZ := Four.new (w.alloc (.cells #[.int .u64 x0, .int .u64 x1, .int .u64 x2, .int .u64 x3] 37)) 0 0 0 0 37
  rw [World.size_alloc] at FZ
  have FZ := Lib.hid FZ
  have HB := Lib.hid (((Below.refl w.heap.size w).alloc (Nat.le_refl _) (.cells #[.int .u64 x0, .int .u64 x1, .int .u64 x2, .int .u64 x3] 37)).alloc (by simp) (.cells #[.int .u64 0, .int .u64 0, .int .u64 0, .int .u64 0] 37))
  have hs : IntKind.u64.wrap ((x2 : Int) - ((2 ^ j : Nat) : Int)) = (y : Int) := by rw [hy, Int.natCast_add, Int.add_sub_cancel]; exact u64_nat y hl
  have pw := pow_wrap hj
  clear hl hy
  generalize (2 : Nat) ^ j = z at pw hs
  go_enter Try.func52, Try.ntmps52
  go_wp2_with (go_at_call 41; (refine (C.out _).mono ?_); rintro e w1 ⟨rfl, hw1⟩; have FA1 := Lib.hid (FA.out.kept hw1); have FZ1 := Lib.hid (FZ.out.kept hw1); have HB1 := Lib.hid (below_next hw1 HB.out (Nat.le_refl _)); obtain ⟨a0, a1, a2, a3, c0, c1, c2, c3⟩ := FA1.out; obtain ⟨z0, z1, z2, z3, v0, v1, v2, v3⟩ := FZ1.out; clear hw1)
  refine bodyPost_ret (v := .agg #[.int .u64 x0, .int .u64 x1, .int .u64 y, .int .u64 x3]) ?_ rfl ⟨rfl, below_set4 (HB1.out.setCell (p := ⟨w.heap.size, 2, none⟩) (Nat.le_refl _) _) (by simp) x0 x1 y x3⟩
  obtain ⟨s0, s1, s2, s3⟩ := set4_results (FZ1.out.far (p := ⟨w.heap.size, 2, none⟩) (by simp) (.int .u64 y)) x0 x1 y x3
  simp [results, Try.results52, go_sem, s0, s1, s2, s3]

set_option maxHeartbeats 2000000 in
theorem rwithout_3 (x0 x1 x2 x3 : Nat) (i : Int) (_h0 : 0 ≤ i) (_h255 : i ≤ 255) (h1 : i / 64 = 3) (j : Nat) (hj : j < 64) (h2 : i % 64 = j) (y : Nat) (hy : x3 = y + 2 ^ j) (hl : y < 18446744073709551616) (w : World)
    (C : Hid (∀ w, Calls Try.prog 41 #[.agg #[.int .u64 x0, .int .u64 x1, .int .u64 x2, .int .u64 x3], .int .i64 i] w fun e w' => e = .returned (.bool true) ∧ Below w.heap.size w w')) :
    Calls Try.prog 52 #[.agg #[.int .u64 x0, .int .u64 x1, .int .u64 x2, .int .u64 x3], .int .i64 i] w fun e w' => e = .returned (.agg #[.int .u64 x0, .int .u64 x1, .int .u64 x2, .int .u64 y]) ∧ Below w.heap.size w w' := by
  have FA := Lib.hid ((Four.new w x0 x1 x2 x3 37).alloc (.cells #[.int .u64 0, .int .u64 0, .int .u64 0, .int .u64 0] 37))
  have FZ := Four.new (w.alloc (.cells #[.int .u64 x0, .int .u64 x1, .int .u64 x2, .int .u64 x3] 37)) 0 0 0 0 37
  rw [World.size_alloc] at FZ
  have FZ := Lib.hid FZ
  have HB := Lib.hid (((Below.refl w.heap.size w).alloc (Nat.le_refl _) (.cells #[.int .u64 x0, .int .u64 x1, .int .u64 x2, .int .u64 x3] 37)).alloc (by simp) (.cells #[.int .u64 0, .int .u64 0, .int .u64 0, .int .u64 0] 37))
  have hs : IntKind.u64.wrap ((x3 : Int) - ((2 ^ j : Nat) : Int)) = (y : Int) := by rw [hy, Int.natCast_add, Int.add_sub_cancel]; exact u64_nat y hl
  have pw := pow_wrap hj
  clear hl hy
  generalize (2 : Nat) ^ j = z at pw hs
  go_enter Try.func52, Try.ntmps52
  go_wp2_with (go_at_call 41; (refine (C.out _).mono ?_); rintro e w1 ⟨rfl, hw1⟩; have FA1 := Lib.hid (FA.out.kept hw1); have FZ1 := Lib.hid (FZ.out.kept hw1); have HB1 := Lib.hid (below_next hw1 HB.out (Nat.le_refl _)); obtain ⟨a0, a1, a2, a3, c0, c1, c2, c3⟩ := FA1.out; obtain ⟨z0, z1, z2, z3, v0, v1, v2, v3⟩ := FZ1.out; clear hw1)
  refine bodyPost_ret (v := .agg #[.int .u64 x0, .int .u64 x1, .int .u64 x2, .int .u64 y]) ?_ rfl ⟨rfl, below_set4 (HB1.out.setCell (p := ⟨w.heap.size, 3, none⟩) (Nat.le_refl _) _) (by simp) x0 x1 x2 y⟩
  obtain ⟨s0, s1, s2, s3⟩ := set4_results (FZ1.out.far (p := ⟨w.heap.size, 3, none⟩) (by simp) (.int .u64 y)) x0 x1 x2 y
  simp [results, Try.results52, go_sem, s0, s1, s2, s3]

theorem with_no {p : Nat → Bool} {i : Int} (h : hasP p i = true ∨ i < 0 ∨ 255 < i) {k : Nat} (hk : k < 4) : wd (orP p (oneP i)) k = wd p k :=
  wd_congr (fun x hx => by
    unfold orP oneP
    by_cases e : (x : Int) = i
    · subst e
      rcases h with h | h | h
      · have : p x = true := by simpa [hasP, show (x : Int) ≤ 255 by omega] using h
        simp [this]
      · omega
      · omega
    · simp [e]) hk
theorem with_yes {p : Nat → Bool} {i : Int} {k j : Nat} (hi : i = ((64 * k + j : Nat) : Int)) (hj : j < 64) (hk : k < 4) (h : hasP p i = false) :
    wd p k + 2 ^ j = wd (orP p (oneP i)) k ∧ ∀ k', k' ≠ k → wd (orP p (oneP i)) k' = wd p k' := by
  refine ⟨?_, fun k' hk' => wd_or_far fun j' hj' => by omega⟩
  have h3 : p (64 * k + j) = false := by
    have := h
    unfold hasP at this
    rw [decide_eq_true (⟨by omega, by omega⟩ : 0 ≤ i ∧ i ≤ 255), Bool.true_and] at this
    rw [show 64 * k + j = i.toNat by omega]; exact this
  rw [hi]; exact wd_put hj h3

theorem rwith_any (p : Nat → Bool) (i : Int) (w : World) :
    Calls Try.prog 42 #[.agg #[.int .u64 (wd p 0), .int .u64 (wd p 1), .int .u64 (wd p 2), .int .u64 (wd p 3)], .int .i64 i] w fun e w' => e = .returned (.agg #[.int .u64 (wd (orP p (oneP i)) 0), .int .u64 (wd (orP p (oneP i)) 1), .int .u64 (wd (orP p (oneP i)) 2), .int .u64 (wd (orP p (oneP i)) 3)]) ∧ Below w.heap.size w w' := by
  have C := Lib.hid (fun w => rhas_any p i w)
  rcases (show i < 0 ∨ (0 ≤ i ∧ 255 < i) ∨ (0 ≤ i ∧ i ≤ 255) by omega) with h | ⟨h0, h⟩ | ⟨h0, h1⟩
  · rw [hasP_out (.inl h)] at C
    rw [with_no (.inr (.inl h)) (k := 0) (by omega), with_no (.inr (.inl h)) (k := 1) (by omega), with_no (.inr (.inl h)) (k := 2) (by omega), with_no (.inr (.inl h)) (k := 3) (by omega)]
    exact rwith_low _ _ _ _ i h w C
  · rw [hasP_out (.inr h)] at C
    rw [with_no (.inr (.inr h)) (k := 0) (by omega), with_no (.inr (.inr h)) (k := 1) (by omega), with_no (.inr (.inr h)) (k := 2) (by omega), with_no (.inr (.inr h)) (k := 3) (by omega)]
    exact rwith_high _ _ _ _ i h0 h w C
  · cases hp : hasP p i with
    | true =>
      rw [hp] at C
      rw [with_no (.inl hp) (k := 0) (by omega), with_no (.inl hp) (k := 1) (by omega), with_no (.inl hp) (k := 2) (by omega), with_no (.inl hp) (k := 3) (by omega)]
      exact rwith_same _ _ _ _ i h0 h1 w C
    | false =>
      rw [hp] at C
      obtain ⟨j, hj⟩ : ∃ j : Nat, i % 64 = j := ⟨(i % 64).toNat, by omega⟩
      have hj' : j < 64 := by omega
      rcases (show i / 64 = 0 ∨ i / 64 = 1 ∨ i / 64 = 2 ∨ i / 64 = 3 by omega) with g | g | g | g
      · obtain ⟨e, f⟩ := with_yes (k := 0) (j := j) (by omega) hj' (by omega) hp
        rw [f 1 (by omega), f 2 (by omega), f 3 (by omega)]
        exact rwith_0 _ _ _ _ i h0 h1 g j hj' hj _ e (wd_lt _ _) w C
      · obtain ⟨e, f⟩ := with_yes (k := 1) (j := j) (by omega) hj' (by omega) hp
        rw [f 0 (by omega), f 2 (by omega), f 3 (by omega)]
        exact rwith_1 _ _ _ _ i h0 h1 g j hj' hj _ e (wd_lt _ _) w C
      · obtain ⟨e, f⟩ := with_yes (k := 2) (j := j) (by omega) hj' (by omega) hp
        rw [f 0 (by omega), f 1 (by omega), f 3 (by omega)]
        exact rwith_2 _ _ _ _ i h0 h1 g j hj' hj _ e (wd_lt _ _) w C
      · obtain ⟨e, f⟩ := with_yes (k := 3) (j := j) (by omega) hj' (by omega) hp
        rw [f 0 (by omega), f 1 (by omega), f 2 (by omega)]
        exact rwith_3 _ _ _ _ i h0 h1 g j hj' hj _ e (wd_lt _ _) w C

theorem rwithout_any (p : Nat → Bool) (i : Int) (w : World) :
    Calls Try.prog 52 #[.agg #[.int .u64 (wd p 0), .int .u64 (wd p 1), .int .u64 (wd p 2), .int .u64 (wd p 3)], .int .i64 i] w fun e w' => e = .returned (.agg #[.int .u64 (wd (minusP p (oneP i)) 0), .int .u64 (wd (minusP p (oneP i)) 1), .int .u64 (wd (minusP p (oneP i)) 2), .int .u64 (wd (minusP p (oneP i)) 3)]) ∧ Below w.heap.size w w' := by
  have C := Lib.hid (fun w => rhas_any p i w)
  cases hp : hasP p i with
  | false =>
    rw [hp] at C
    rw [has_no hp (k := 0) (by omega), has_no hp (k := 1) (by omega), has_no hp (k := 2) (by omega), has_no hp (k := 3) (by omega)]
    exact rwithout_same _ _ _ _ i w C
  | true =>
    rw [hp] at C
    obtain ⟨k, j, hk, hj, hi, e, f⟩ := has_yes hp
    rcases (show k = 0 ∨ k = 1 ∨ k = 2 ∨ k = 3 by omega) with rfl | rfl | rfl | rfl
    · rw [f 1 (by omega), f 2 (by omega), f 3 (by omega)]
      exact rwithout_0 _ _ _ _ i (by omega) (by omega) (by omega) j hj (by omega) _ e (wd_lt _ _) w C
    · rw [f 0 (by omega), f 2 (by omega), f 3 (by omega)]
      exact rwithout_1 _ _ _ _ i (by omega) (by omega) (by omega) j hj (by omega) _ e (wd_lt _ _) w C
    · rw [f 0 (by omega), f 1 (by omega), f 3 (by omega)]
      exact rwithout_2 _ _ _ _ i (by omega) (by omega) (by omega) j hj (by omega) _ e (wd_lt _ _) w C
    · rw [f 0 (by omega), f 1 (by omega), f 2 (by omega)]
      exact rwithout_3 _ _ _ _ i (by omega) (by omega) (by omega) j hj (by omega) _ e (wd_lt _ _) w C

end Go.Proofs.Ytflemmmaakhahaa

/-
  The walks over a tick of a job's work.
-/
namespace Go.Proofs.Ytflemmmaakhahaa
open Go.RowKit Go.Maps

set_option maxRecDepth 100000 in
set_option maxHeartbeats 4000000 in
theorem may_step (x : TV) (rel dn dm db rl : Int) (p : Nat → Bool) (w : World) : Calls Try.prog 38 #[.agg #[.int .i64 x.id, .int .i64 x.c, .int .i64 x.d, .int .i64 x.t, .int .i64 x.p, .slice x.a1 x.ch.length x.c1, .slice x.a2 x.us.length x.c2], .int .i64 rel, .agg #[.int .i64 dn, .int .i64 dm, .int .i64 db, .int .i64 rl, .int .u64 (wd p 0), .int .u64 (wd p 1), .int .u64 (wd p 2), .int .u64 (wd p 3)]] w fun e w' => e = .returned (.bool (decide (Fits x.id rel ⟨dn, dm, db, rl, p⟩))) ∧ Below w.heap.size w w' := by
  have M := Lib.hid (may_any x.id)
  obtain ⟨q, hq⟩ : ∃ q, decide (Fits x.id rel ⟨dn, dm, db, rl, p⟩) = q := ⟨_, rfl⟩
  rw [hq]
  have HQ := Lib.hid hq
  clear hq
  generalize wd p = y
  by_cases h0 : okOwn x.id
  · skip
    rw [decide_eq_true h0] at M
    by_cases h1 : 0 ≤ rel
    · skip
      have d1 : decide (0 ≤ rel) = true := decide_eq_true h1
      by_cases h2 : rel ≤ 1000
      · skip
        have d2 : decide (rel ≤ 1000) = true := decide_eq_true h2
        by_cases h3 : 0 ≤ dn
        · skip
          have d3 : decide (0 ≤ dn) = true := decide_eq_true h3
          by_cases h4 : dn < dm
          · skip
            have d4 : decide (dn < dm) = true := decide_eq_true h4
            by_cases h5 : 0 ≤ db
            · skip
              have d5 : decide (0 ≤ db) = true := decide_eq_true h5
              obtain rfl : q = true := by rw [← HQ.out]; exact decide_eq_true ⟨h0, h1, h2, h3, h4, h5⟩
              clear HQ h0
              go_enter Try.func38, Try.ntmps38
              go_wp2_with (go_at_call 37; refine (M.out _).mono ?_; rintro e w1 ⟨rfl, rfl⟩)
              go_ret
              exact ⟨rfl, (by repeat (first | exact Below.refl _ _ | (with_reducible assumption) | refine bw_alloc ?_ _ | refine bw_drew ?_))⟩
            · skip
              obtain rfl : q = false := by rw [← HQ.out]; exact decide_eq_false (fun z => h5 z.2.2.2.2.2)
              have d5 : decide (0 ≤ db) = false := decide_eq_false h5
              clear HQ h0
              go_enter Try.func38, Try.ntmps38
              go_wp2_with (go_at_call 37; refine (M.out _).mono ?_; rintro e w1 ⟨rfl, rfl⟩)
              go_ret
              exact ⟨rfl, (by repeat (first | exact Below.refl _ _ | (with_reducible assumption) | refine bw_alloc ?_ _ | refine bw_drew ?_))⟩
          · skip
            obtain rfl : q = false := by rw [← HQ.out]; exact decide_eq_false (fun z => h4 z.2.2.2.2.1)
            have d4 : decide (dn < dm) = false := decide_eq_false h4
            clear HQ h0
            go_enter Try.func38, Try.ntmps38
            go_wp2_with (go_at_call 37; refine (M.out _).mono ?_; rintro e w1 ⟨rfl, rfl⟩)
            go_ret
            exact ⟨rfl, (by repeat (first | exact Below.refl _ _ | (with_reducible assumption) | refine bw_alloc ?_ _ | refine bw_drew ?_))⟩
        · skip
          obtain rfl : q = false := by rw [← HQ.out]; exact decide_eq_false (fun z => h3 z.2.2.2.1)
          have d3 : decide (0 ≤ dn) = false := decide_eq_false h3
          clear HQ h0
          go_enter Try.func38, Try.ntmps38
          go_wp2_with (go_at_call 37; refine (M.out _).mono ?_; rintro e w1 ⟨rfl, rfl⟩)
          go_ret
          exact ⟨rfl, (by repeat (first | exact Below.refl _ _ | (with_reducible assumption) | refine bw_alloc ?_ _ | refine bw_drew ?_))⟩
      · skip
        obtain rfl : q = false := by rw [← HQ.out]; exact decide_eq_false (fun z => h2 z.2.2.1)
        have d2 : decide (rel ≤ 1000) = false := decide_eq_false h2
        clear HQ h0
        go_enter Try.func38, Try.ntmps38
        go_wp2_with (go_at_call 37; refine (M.out _).mono ?_; rintro e w1 ⟨rfl, rfl⟩)
        go_ret
        exact ⟨rfl, (by repeat (first | exact Below.refl _ _ | (with_reducible assumption) | refine bw_alloc ?_ _ | refine bw_drew ?_))⟩
    · skip
      obtain rfl : q = false := by rw [← HQ.out]; exact decide_eq_false (fun z => h1 z.2.1)
      have d1 : decide (0 ≤ rel) = false := decide_eq_false h1
      clear HQ h0
      go_enter Try.func38, Try.ntmps38
      go_wp2_with (go_at_call 37; refine (M.out _).mono ?_; rintro e w1 ⟨rfl, rfl⟩)
      go_ret
      exact ⟨rfl, (by repeat (first | exact Below.refl _ _ | (with_reducible assumption) | refine bw_alloc ?_ _ | refine bw_drew ?_))⟩
  · skip
    obtain rfl : q = false := by rw [← HQ.out]; exact decide_eq_false (fun z => h0 z.1)
    rw [decide_eq_false h0] at M
    clear HQ h0
    go_enter Try.func38, Try.ntmps38
    go_wp2_with (go_at_call 37; refine (M.out _).mono ?_; rintro e w1 ⟨rfl, rfl⟩)
    go_ret
    exact ⟨rfl, (by repeat (first | exact Below.refl _ _ | (with_reducible assumption) | refine bw_alloc ?_ _ | refine bw_drew ?_))⟩

/-- What a tick has ready to come back. -/
structure Outs (T : TypeId) (w : World) (b r n : Nat) (L : Nat → Int) (W : World) : Prop where
  low : Turn (fun k => k = r) w W
  rb : W.heap[w.heap.size + 1 + 1]? = some (.cells #[.int .i64 0, .int .i64 0, .int .i64 0, .int .i64 0, .int .u64 0, .int .u64 0, .int .u64 0, .int .u64 0] WT (0, 0))
  ch : Ch T W b r n L
  bl : b < w.heap.size
  rl : r < w.heap.size
theorem Outs.put {T : TypeId} {w W : World} {b r n : Nat} {L : Nat → Int} (h : Outs T w b r n L W) (o : Nat) (v : Value) : Outs T w b r n L (W.setCell ⟨w.heap.size + 1, o, none⟩ v) := by
  have h1 := h.bl
  have h2 := h.rl
  refine ⟨h.low.setCell (p := ⟨w.heap.size + 1, o, none⟩) (fun q => absurd q (by show ¬ w.heap.size + 1 < _; omega)) v, (blk_far (a := ⟨w.heap.size + 1, o, none⟩) (by show w.heap.size + 1 + 1 ≠ w.heap.size + 1; omega) v).trans h.rb, ?_, h1, h2⟩
  obtain ⟨cur, h3, h4, h5⟩ := h.ch.row
  exact ⟨(blk_far (a := ⟨w.heap.size + 1, o, none⟩) (by show b ≠ w.heap.size + 1; omega) v).trans h.ch.str, ⟨cur, (blk_far (a := ⟨w.heap.size + 1, o, none⟩) (by show r ≠ w.heap.size + 1; omega) v).trans h3, h4, h5⟩, h.ch.ne, h.ch.few, h.ch.wf⟩
/-- A set is used. -/
theorem used {T : TypeId} {w W : World} {x : TV} {a b c d : Int} {y : Nat → Nat} {g r n : Nat} {L : Nat → Int} (h : StepAt (fun k => k = r) w x a b c d y W) (hc : Ch T W g r n L) (hr : r < w.heap.size) {i : Nat} (hi : i < n) {o : Int} (ho : okOwn o) :
    StepAt (fun k => k = r) w x a b c d y (W.setCell ⟨r, i, none⟩ (.int .i64 o)).drew ∧ Ch T (W.setCell ⟨r, i, none⟩ (.int .i64 o)).drew g r n (putL L i o) :=
  ⟨(h.turn (Turn.setCell (S := fun k => k = r) (p := ⟨r, i, none⟩) (Turn.refl _ W) (fun _ => rfl) _) hr).below (bw_drew (Below.refl _ _)), (hc.put hi ho).below (bw_drew (Below.refl _ _))⟩
theorem Outs.ends {T : TypeId} {w W : World} {b r n : Nat} {L : Nat → Int} (h : Outs T w b r n L W) (y0 y1 y2 y3 y4 y5 y6 y7 : Value) :
    (((((((((W.setCell ⟨(w.heap.size + 1 + 1), 0, none⟩ y0).setCell ⟨(w.heap.size + 1 + 1), 1, none⟩ y1).setCell ⟨(w.heap.size + 1 + 1), 2, none⟩ y2).setCell ⟨(w.heap.size + 1 + 1), 3, none⟩ y3).setCell ⟨(w.heap.size + 1 + 1), 4, none⟩ y4).setCell ⟨(w.heap.size + 1 + 1), 5, none⟩ y5).setCell ⟨(w.heap.size + 1 + 1), 6, none⟩ y6).setCell ⟨(w.heap.size + 1 + 1), 7, none⟩ y7).cell? ⟨w.heap.size + 1 + 1, 0, none⟩ = some y0 ∧ ((((((((W.setCell ⟨(w.heap.size + 1 + 1), 0, none⟩ y0).setCell ⟨(w.heap.size + 1 + 1), 1, none⟩ y1).setCell ⟨(w.heap.size + 1 + 1), 2, none⟩ y2).setCell ⟨(w.heap.size + 1 + 1), 3, none⟩ y3).setCell ⟨(w.heap.size + 1 + 1), 4, none⟩ y4).setCell ⟨(w.heap.size + 1 + 1), 5, none⟩ y5).setCell ⟨(w.heap.size + 1 + 1), 6, none⟩ y6).setCell ⟨(w.heap.size + 1 + 1), 7, none⟩ y7).cell? ⟨w.heap.size + 1 + 1, 1, none⟩ = some y1 ∧ ((((((((W.setCell ⟨(w.heap.size + 1 + 1), 0, none⟩ y0).setCell ⟨(w.heap.size + 1 + 1), 1, none⟩ y1).setCell ⟨(w.heap.size + 1 + 1), 2, none⟩ y2).setCell ⟨(w.heap.size + 1 + 1), 3, none⟩ y3).setCell ⟨(w.heap.size + 1 + 1), 4, none⟩ y4).setCell ⟨(w.heap.size + 1 + 1), 5, none⟩ y5).setCell ⟨(w.heap.size + 1 + 1), 6, none⟩ y6).setCell ⟨(w.heap.size + 1 + 1), 7, none⟩ y7).cell? ⟨w.heap.size + 1 + 1, 2, none⟩ = some y2 ∧ ((((((((W.setCell ⟨(w.heap.size + 1 + 1), 0, none⟩ y0).setCell ⟨(w.heap.size + 1 + 1), 1, none⟩ y1).setCell ⟨(w.heap.size + 1 + 1), 2, none⟩ y2).setCell ⟨(w.heap.size + 1 + 1), 3, none⟩ y3).setCell ⟨(w.heap.size + 1 + 1), 4, none⟩ y4).setCell ⟨(w.heap.size + 1 + 1), 5, none⟩ y5).setCell ⟨(w.heap.size + 1 + 1), 6, none⟩ y6).setCell ⟨(w.heap.size + 1 + 1), 7, none⟩ y7).cell? ⟨w.heap.size + 1 + 1, 3, none⟩ = some y3 ∧ ((((((((W.setCell ⟨(w.heap.size + 1 + 1), 0, none⟩ y0).setCell ⟨(w.heap.size + 1 + 1), 1, none⟩ y1).setCell ⟨(w.heap.size + 1 + 1), 2, none⟩ y2).setCell ⟨(w.heap.size + 1 + 1), 3, none⟩ y3).setCell ⟨(w.heap.size + 1 + 1), 4, none⟩ y4).setCell ⟨(w.heap.size + 1 + 1), 5, none⟩ y5).setCell ⟨(w.heap.size + 1 + 1), 6, none⟩ y6).setCell ⟨(w.heap.size + 1 + 1), 7, none⟩ y7).cell? ⟨w.heap.size + 1 + 1, 4, none⟩ = some y4 ∧ ((((((((W.setCell ⟨(w.heap.size + 1 + 1), 0, none⟩ y0).setCell ⟨(w.heap.size + 1 + 1), 1, none⟩ y1).setCell ⟨(w.heap.size + 1 + 1), 2, none⟩ y2).setCell ⟨(w.heap.size + 1 + 1), 3, none⟩ y3).setCell ⟨(w.heap.size + 1 + 1), 4, none⟩ y4).setCell ⟨(w.heap.size + 1 + 1), 5, none⟩ y5).setCell ⟨(w.heap.size + 1 + 1), 6, none⟩ y6).setCell ⟨(w.heap.size + 1 + 1), 7, none⟩ y7).cell? ⟨w.heap.size + 1 + 1, 5, none⟩ = some y5 ∧ ((((((((W.setCell ⟨(w.heap.size + 1 + 1), 0, none⟩ y0).setCell ⟨(w.heap.size + 1 + 1), 1, none⟩ y1).setCell ⟨(w.heap.size + 1 + 1), 2, none⟩ y2).setCell ⟨(w.heap.size + 1 + 1), 3, none⟩ y3).setCell ⟨(w.heap.size + 1 + 1), 4, none⟩ y4).setCell ⟨(w.heap.size + 1 + 1), 5, none⟩ y5).setCell ⟨(w.heap.size + 1 + 1), 6, none⟩ y6).setCell ⟨(w.heap.size + 1 + 1), 7, none⟩ y7).cell? ⟨w.heap.size + 1 + 1, 6, none⟩ = some y6 ∧ ((((((((W.setCell ⟨(w.heap.size + 1 + 1), 0, none⟩ y0).setCell ⟨(w.heap.size + 1 + 1), 1, none⟩ y1).setCell ⟨(w.heap.size + 1 + 1), 2, none⟩ y2).setCell ⟨(w.heap.size + 1 + 1), 3, none⟩ y3).setCell ⟨(w.heap.size + 1 + 1), 4, none⟩ y4).setCell ⟨(w.heap.size + 1 + 1), 5, none⟩ y5).setCell ⟨(w.heap.size + 1 + 1), 6, none⟩ y6).setCell ⟨(w.heap.size + 1 + 1), 7, none⟩ y7).cell? ⟨w.heap.size + 1 + 1, 7, none⟩ = some y7) ∧ Ch T ((((((((W.setCell ⟨(w.heap.size + 1 + 1), 0, none⟩ y0).setCell ⟨(w.heap.size + 1 + 1), 1, none⟩ y1).setCell ⟨(w.heap.size + 1 + 1), 2, none⟩ y2).setCell ⟨(w.heap.size + 1 + 1), 3, none⟩ y3).setCell ⟨(w.heap.size + 1 + 1), 4, none⟩ y4).setCell ⟨(w.heap.size + 1 + 1), 5, none⟩ y5).setCell ⟨(w.heap.size + 1 + 1), 6, none⟩ y6).setCell ⟨(w.heap.size + 1 + 1), 7, none⟩ y7) b r n L ∧ Turn (fun k => k = r) w ((((((((W.setCell ⟨(w.heap.size + 1 + 1), 0, none⟩ y0).setCell ⟨(w.heap.size + 1 + 1), 1, none⟩ y1).setCell ⟨(w.heap.size + 1 + 1), 2, none⟩ y2).setCell ⟨(w.heap.size + 1 + 1), 3, none⟩ y3).setCell ⟨(w.heap.size + 1 + 1), 4, none⟩ y4).setCell ⟨(w.heap.size + 1 + 1), 5, none⟩ y5).setCell ⟨(w.heap.size + 1 + 1), 6, none⟩ y6).setCell ⟨(w.heap.size + 1 + 1), 7, none⟩ y7) := by
  have h1 := h.bl
  have h2 := h.rl
  exact ⟨cells8 (box_set8 h.rb y0 y1 y2 y3 y4 y5 y6 y7), h.ch.out8 (by omega) (by omega) y0 y1 y2 y3 y4 y5 y6 y7, turn8 h.low (by omega) y0 y1 y2 y3 y4 y5 y6 y7⟩

set_option maxRecDepth 100000 in
set_option maxHeartbeats 8000000 in
theorem work_any (x : TV) (rel dn dm db rl : Int) (p : Nat → Bool) (w : World) {b r n : Nat} {L : Nat → Int} (h : Ch CT w b r n L) (hx : x.ok w) (hf : Fits x.id rel ⟨dn, dm, db, rl, p⟩) (hm : dm ≤ 9223372036854775807) :
    Calls Try.prog 39 #[.pointer (some ⟨b, 0, none⟩), .agg #[.int .i64 x.id, .int .i64 x.c, .int .i64 x.d, .int .i64 x.t, .int .i64 x.p, .slice x.a1 x.ch.length x.c1, .slice x.a2 x.us.length x.c2], .int .i64 rel, .agg #[.int .i64 dn, .int .i64 dm, .int .i64 db, .int .i64 rl, .int .u64 (wd p 0), .int .u64 (wd p 1), .int .u64 (wd p 2), .int .u64 (wd p 3)]] w (StepBack CT b r n (workL n L x.id (accOf x dn).1 (accOf x dn).2) (workW n L x.id (accOf x dn).1 (accOf x dn).2 rel ⟨dn, dm, db, rl, p⟩) w) := by
  obtain ⟨hf0, hf1, hf2, hf3, hf4, hf5⟩ := hf
  dsimp only at hf3 hf4 hf5
  have AC := Lib.hid (fun W (hW : Below w.heap.size w W) => acc_any x dn W (hx.below hW))
  generalize (accOf x dn).2 = u at AC ⊢
  generalize (accOf x dn).1 = s at AC ⊢
  have hn := h.few
  have HC := Lib.hid (fun W (hW : Below w.heap.size w W) => chas_any (h.below hW) s)
  have BL := Lib.hid h.lt.1
  have RL := Lib.hid h.lt.2
  have CH := Lib.hid h
  have H0 := Lib.hid (stepAt_new (fun k => k = r) w x dn dm db rl (wd p))
  obtain ⟨t0, t1, t2, t3, t4, t5, t6, q0, q1, q2, q3, q4, q5, q6, q7, f0, f1, f2, f3, f4, f5, f6, f7, r0, r1, r2, r3, r4, r5, r6, r7, g0, g1, g2, g3, g4, g5, g6, g7⟩ := H0.out.facts
  have u1 : IntKind.i64.wrap (dn + 1) = dn + 1 := IntWalk.i64_in _ (by omega)
  have u2 : IntKind.i64.wrap (rel - 1) = rel - 1 := IntWalk.i64_in _ (by omega)
  obtain ⟨rl', hrl⟩ : ∃ rl', IntKind.i64.wrap (rl + 1) = rl' := ⟨_, rfl⟩
  have HRL := Lib.hid hrl
  clear hx hm hf1 hf2 hf3 hf4 hf5
  by_cases hu : u = true
  · subst hu
    by_cases hs : okSet n s
    · have e2 : workL n L x.id s true = putL L s x.id := by unfold workL; rw [if_pos ⟨rfl, hs⟩]
      have US := Lib.hid (fun W (hW : Below w.heap.size w W) => cuse_any (h.below hW) s x.id)
      unfold UseBack at US
      have e3 : useL n L s x.id = putL L s x.id := by unfold useL; rw [if_pos ⟨hs, hf0⟩]
      have e4 : useB n L s x.id = decide (L s.toNat = x.id) := by unfold useB; rw [if_pos ⟨hs, hf0⟩]
      rw [e3, e4] at US
      have HB := Lib.hid (fun W => has_any p s (by have := hs.2; omega) W)
      have WI := Lib.hid (fun W => with_any p s (by have := hs.2; omega) W)
      rw [decide_eq_true hs] at HC
      rw [e2]
      have HS := Lib.hid hs
      clear e2 e3 e4 h hf0 hs
      by_cases hk : L s.toNat = x.id
      · rw [decide_eq_true hk] at US
        rw [show workW n L x.id s true rel ⟨dn, dm, db, rl, p⟩ = (⟨dn + 1, dm, db, rl, bitUp p s⟩, false) by unfold workW; rw [if_pos ⟨rfl, HS.out⟩, if_neg (fun z => z.1 hk)]]
        unfold StepBack
        dsimp only
        unfold bitUp
        clear HB hk
        generalize wd (orP p (oneP s)) = z at *
        generalize wd p = y at *
        go_enter Try.func39, Try.ntmps39
        go_wp2_with (first
          | (go_at_call 60; (refine (AC.out _ (by repeat (first | exact Below.refl _ _ | (with_reducible assumption) | refine bw_alloc ?_ _ | refine bw_drew ?_))).mono ?_); rintro e w1 ⟨rfl, b1⟩; have H1 := Lib.hid (H0.out.below b1); obtain ⟨t0, t1, t2, t3, t4, t5, t6, q0, q1, q2, q3, q4, q5, q6, q7, f0, f1, f2, f3, f4, f5, f6, f7, r0, r1, r2, r3, r4, r5, r6, r7, g0, g1, g2, g3, g4, g5, g6, g7⟩ := H1.out.facts; have B1 := Lib.hid (below_up ((by repeat (first | exact Below.refl _ _ | (with_reducible assumption) | refine bw_alloc ?_ _ | refine bw_drew ?_)) : Below w.heap.size w _) b1); clear b1)
          | (go_at_call 36; (refine (HC.out _ B1.out).mono ?_); rintro e w2 ⟨rfl, rfl⟩)
          | (go_at_call 13; (refine (US.out _ B1.out).mono ?_); rintro e w3 ⟨rfl, c3, k3⟩; have H3 := Lib.hid (H1.out.turn k3 RL.out); have C3 := Lib.hid c3; obtain ⟨t0, t1, t2, t3, t4, t5, t6, q0, q1, q2, q3, q4, q5, q6, q7, f0, f1, f2, f3, f4, f5, f6, f7, r0, r1, r2, r3, r4, r5, r6, r7, g0, g1, g2, g3, g4, g5, g6, g7⟩ := H3.out.facts; clear c3 k3)
          | (go_at_call 61; (refine (HB.out _).mono ?_); rintro e w4 ⟨rfl, b4⟩; have H4 := Lib.hid (H3.out.below b4); have C4 := Lib.hid (C3.out.below b4); obtain ⟨t0, t1, t2, t3, t4, t5, t6, q0, q1, q2, q3, q4, q5, q6, q7, f0, f1, f2, f3, f4, f5, f6, f7, r0, r1, r2, r3, r4, r5, r6, r7, g0, g1, g2, g3, g4, g5, g6, g7⟩ := H4.out.facts; clear b4)
          | (go_at_call 44; (refine (WI.out _).mono ?_); rintro e w5 ⟨rfl, b5⟩; have H5 := Lib.hid (H3.out.below b5); have C5 := Lib.hid (C3.out.below b5); obtain ⟨t0, t1, t2, t3, t4, t5, t6, q0, q1, q2, q3, q4, q5, q6, q7, f0, f1, f2, f3, f4, f5, f6, f7, r0, r1, r2, r3, r4, r5, r6, r7, g0, g1, g2, g3, g4, g5, g6, g7⟩ := H5.out.facts; clear b5))
        obtain ⟨⟨s0, s1, s2, s3, s4, s5, s6, s7⟩, hC, hT⟩ := ((((((⟨H5.out.low, H5.out.rb, C5.out, BL.out, RL.out⟩ : Outs CT w b r n (putL L s x.id) w5).put 4 (.int .u64 (z 0))).put 5 (.int .u64 (z 1))).put 6 (.int .u64 (z 2))).put 7 (.int .u64 (z 3))).put 0 (.int .i64 (dn + 1))).ends (.int .i64 (dn + 1)) (.int .i64 dm) (.int .i64 db) (.int .i64 rl) (.int .u64 (z 0)) (.int .u64 (z 1)) (.int .u64 (z 2)) (.int .u64 (z 3))
        exact bodyPost_ret (v := .tuple #[.agg #[.int .i64 (dn + 1), .int .i64 dm, .int .i64 (db), .int .i64 rl, .int .u64 (z 0), .int .u64 (z 1), .int .u64 (z 2), .int .u64 (z 3)], .bool false]) (by simp [results, Try.results39, go_sem, s0, s1, s2, s3, s4, s5, s6, s7]) rfl ⟨rfl, hC, hT⟩
      · rw [decide_eq_false hk] at US
        have CASES : (rel ≤ 0 ∧ True) ∨ (0 < rel ∧ hasP p s = false) ∨ (0 < rel ∧ hasP p s = true) := by
          by_cases q : rel ≤ 0
          · exact .inl ⟨q, trivial⟩
          · cases e : hasP p s
            · exact .inr (.inl ⟨by omega, rfl⟩)
            · exact .inr (.inr ⟨by omega, rfl⟩)
        rcases CASES with ⟨hr, _⟩ | ⟨hr, hq⟩ | ⟨hr, hq⟩
        · rw [show workW n L x.id s true rel ⟨dn, dm, db, rl, p⟩ = (⟨dn + 1, dm, db, rl, bitUp p s⟩, false) by unfold workW; rw [if_pos ⟨rfl, HS.out⟩, if_neg (fun z => absurd z.2.1 (by omega))]]
          unfold StepBack
          dsimp only
          unfold bitUp
          have d1 : decide (0 < rel) = false := decide_eq_false (by omega)
          have d2 : ¬ 0 < rel := by omega
          clear HB hk
          generalize wd (orP p (oneP s)) = z at *
          generalize wd p = y at *
          go_enter Try.func39, Try.ntmps39
          go_wp2_with (first
            | (go_at_call 60; (refine (AC.out _ (by repeat (first | exact Below.refl _ _ | (with_reducible assumption) | refine bw_alloc ?_ _ | refine bw_drew ?_))).mono ?_); rintro e w1 ⟨rfl, b1⟩; have H1 := Lib.hid (H0.out.below b1); obtain ⟨t0, t1, t2, t3, t4, t5, t6, q0, q1, q2, q3, q4, q5, q6, q7, f0, f1, f2, f3, f4, f5, f6, f7, r0, r1, r2, r3, r4, r5, r6, r7, g0, g1, g2, g3, g4, g5, g6, g7⟩ := H1.out.facts; have B1 := Lib.hid (below_up ((by repeat (first | exact Below.refl _ _ | (with_reducible assumption) | refine bw_alloc ?_ _ | refine bw_drew ?_)) : Below w.heap.size w _) b1); clear b1)
            | (go_at_call 36; (refine (HC.out _ B1.out).mono ?_); rintro e w2 ⟨rfl, rfl⟩)
            | (go_at_call 13; (refine (US.out _ B1.out).mono ?_); rintro e w3 ⟨rfl, c3, k3⟩; have H3 := Lib.hid (H1.out.turn k3 RL.out); have C3 := Lib.hid c3; obtain ⟨t0, t1, t2, t3, t4, t5, t6, q0, q1, q2, q3, q4, q5, q6, q7, f0, f1, f2, f3, f4, f5, f6, f7, r0, r1, r2, r3, r4, r5, r6, r7, g0, g1, g2, g3, g4, g5, g6, g7⟩ := H3.out.facts; clear c3 k3)
            | (go_at_call 61; (refine (HB.out _).mono ?_); rintro e w4 ⟨rfl, b4⟩; have H4 := Lib.hid (H3.out.below b4); have C4 := Lib.hid (C3.out.below b4); obtain ⟨t0, t1, t2, t3, t4, t5, t6, q0, q1, q2, q3, q4, q5, q6, q7, f0, f1, f2, f3, f4, f5, f6, f7, r0, r1, r2, r3, r4, r5, r6, r7, g0, g1, g2, g3, g4, g5, g6, g7⟩ := H4.out.facts; clear b4)
            | (go_at_call 44; (refine (WI.out _).mono ?_); rintro e w5 ⟨rfl, b5⟩; have H5 := Lib.hid (H3.out.below b5); have C5 := Lib.hid (C3.out.below b5); obtain ⟨t0, t1, t2, t3, t4, t5, t6, q0, q1, q2, q3, q4, q5, q6, q7, f0, f1, f2, f3, f4, f5, f6, f7, r0, r1, r2, r3, r4, r5, r6, r7, g0, g1, g2, g3, g4, g5, g6, g7⟩ := H5.out.facts; clear b5))
          obtain ⟨⟨s0, s1, s2, s3, s4, s5, s6, s7⟩, hC, hT⟩ := ((((((⟨H5.out.low, H5.out.rb, C5.out, BL.out, RL.out⟩ : Outs CT w b r n (putL L s x.id) w5).put 4 (.int .u64 (z 0))).put 5 (.int .u64 (z 1))).put 6 (.int .u64 (z 2))).put 7 (.int .u64 (z 3))).put 0 (.int .i64 (dn + 1))).ends (.int .i64 (dn + 1)) (.int .i64 dm) (.int .i64 db) (.int .i64 rl) (.int .u64 (z 0)) (.int .u64 (z 1)) (.int .u64 (z 2)) (.int .u64 (z 3))
          exact bodyPost_ret (v := .tuple #[.agg #[.int .i64 (dn + 1), .int .i64 dm, .int .i64 (db), .int .i64 rl, .int .u64 (z 0), .int .u64 (z 1), .int .u64 (z 2), .int .u64 (z 3)], .bool false]) (by simp [results, Try.results39, go_sem, s0, s1, s2, s3, s4, s5, s6, s7]) rfl ⟨rfl, hC, hT⟩
        · rw [show workW n L x.id s true rel ⟨dn, dm, db, rl, p⟩ = (⟨dn + 1, dm, db, rl, bitUp p s⟩, false) by unfold workW; rw [if_pos ⟨rfl, HS.out⟩, if_neg (fun z => by rw [hq] at z; cases z.2.2)]]
          unfold StepBack
          dsimp only
          unfold bitUp
          rw [hq] at HB
          clear hk hq
          generalize wd (orP p (oneP s)) = z at *
          generalize wd p = y at *
          go_enter Try.func39, Try.ntmps39
          go_wp2_with (first
            | (go_at_call 60; (refine (AC.out _ (by repeat (first | exact Below.refl _ _ | (with_reducible assumption) | refine bw_alloc ?_ _ | refine bw_drew ?_))).mono ?_); rintro e w1 ⟨rfl, b1⟩; have H1 := Lib.hid (H0.out.below b1); obtain ⟨t0, t1, t2, t3, t4, t5, t6, q0, q1, q2, q3, q4, q5, q6, q7, f0, f1, f2, f3, f4, f5, f6, f7, r0, r1, r2, r3, r4, r5, r6, r7, g0, g1, g2, g3, g4, g5, g6, g7⟩ := H1.out.facts; have B1 := Lib.hid (below_up ((by repeat (first | exact Below.refl _ _ | (with_reducible assumption) | refine bw_alloc ?_ _ | refine bw_drew ?_)) : Below w.heap.size w _) b1); clear b1)
            | (go_at_call 36; (refine (HC.out _ B1.out).mono ?_); rintro e w2 ⟨rfl, rfl⟩)
            | (go_at_call 13; (refine (US.out _ B1.out).mono ?_); rintro e w3 ⟨rfl, c3, k3⟩; have H3 := Lib.hid (H1.out.turn k3 RL.out); have C3 := Lib.hid c3; obtain ⟨t0, t1, t2, t3, t4, t5, t6, q0, q1, q2, q3, q4, q5, q6, q7, f0, f1, f2, f3, f4, f5, f6, f7, r0, r1, r2, r3, r4, r5, r6, r7, g0, g1, g2, g3, g4, g5, g6, g7⟩ := H3.out.facts; clear c3 k3)
            | (go_at_call 61; (refine (HB.out _).mono ?_); rintro e w4 ⟨rfl, b4⟩; have H4 := Lib.hid (H3.out.below b4); have C4 := Lib.hid (C3.out.below b4); obtain ⟨t0, t1, t2, t3, t4, t5, t6, q0, q1, q2, q3, q4, q5, q6, q7, f0, f1, f2, f3, f4, f5, f6, f7, r0, r1, r2, r3, r4, r5, r6, r7, g0, g1, g2, g3, g4, g5, g6, g7⟩ := H4.out.facts; clear b4)
            | (go_at_call 44; (refine (WI.out _).mono ?_); rintro e w5 ⟨rfl, b5⟩; have H5 := Lib.hid (H4.out.below b5); have C5 := Lib.hid (C4.out.below b5); obtain ⟨t0, t1, t2, t3, t4, t5, t6, q0, q1, q2, q3, q4, q5, q6, q7, f0, f1, f2, f3, f4, f5, f6, f7, r0, r1, r2, r3, r4, r5, r6, r7, g0, g1, g2, g3, g4, g5, g6, g7⟩ := H5.out.facts; clear b5))
          obtain ⟨⟨s0, s1, s2, s3, s4, s5, s6, s7⟩, hC, hT⟩ := ((((((⟨H5.out.low, H5.out.rb, C5.out, BL.out, RL.out⟩ : Outs CT w b r n (putL L s x.id) w5).put 4 (.int .u64 (z 0))).put 5 (.int .u64 (z 1))).put 6 (.int .u64 (z 2))).put 7 (.int .u64 (z 3))).put 0 (.int .i64 (dn + 1))).ends (.int .i64 (dn + 1)) (.int .i64 dm) (.int .i64 db) (.int .i64 rl) (.int .u64 (z 0)) (.int .u64 (z 1)) (.int .u64 (z 2)) (.int .u64 (z 3))
          exact bodyPost_ret (v := .tuple #[.agg #[.int .i64 (dn + 1), .int .i64 dm, .int .i64 (db), .int .i64 rl, .int .u64 (z 0), .int .u64 (z 1), .int .u64 (z 2), .int .u64 (z 3)], .bool false]) (by simp [results, Try.results39, go_sem, s0, s1, s2, s3, s4, s5, s6, s7]) rfl ⟨rfl, hC, hT⟩
        · rw [show workW n L x.id s true rel ⟨dn, dm, db, rl, p⟩ = (⟨dn, dm, rel - 1, wUp rl, p⟩, true) by unfold workW; rw [if_pos ⟨rfl, HS.out⟩, if_pos ⟨hk, hr, hq⟩]]
          unfold StepBack
          dsimp only
          unfold wUp
          rw [hrl]
          rw [hq] at HB
          clear WI hk hq
          generalize wd p = y at *
          go_enter Try.func39, Try.ntmps39
          go_wp2_with (first
            | (go_at_call 60; (refine (AC.out _ (by repeat (first | exact Below.refl _ _ | (with_reducible assumption) | refine bw_alloc ?_ _ | refine bw_drew ?_))).mono ?_); rintro e w1 ⟨rfl, b1⟩; have H1 := Lib.hid (H0.out.below b1); obtain ⟨t0, t1, t2, t3, t4, t5, t6, q0, q1, q2, q3, q4, q5, q6, q7, f0, f1, f2, f3, f4, f5, f6, f7, r0, r1, r2, r3, r4, r5, r6, r7, g0, g1, g2, g3, g4, g5, g6, g7⟩ := H1.out.facts; have B1 := Lib.hid (below_up ((by repeat (first | exact Below.refl _ _ | (with_reducible assumption) | refine bw_alloc ?_ _ | refine bw_drew ?_)) : Below w.heap.size w _) b1); clear b1)
            | (go_at_call 36; (refine (HC.out _ B1.out).mono ?_); rintro e w2 ⟨rfl, rfl⟩)
            | (go_at_call 13; (refine (US.out _ B1.out).mono ?_); rintro e w3 ⟨rfl, c3, k3⟩; have H3 := Lib.hid (H1.out.turn k3 RL.out); have C3 := Lib.hid c3; obtain ⟨t0, t1, t2, t3, t4, t5, t6, q0, q1, q2, q3, q4, q5, q6, q7, f0, f1, f2, f3, f4, f5, f6, f7, r0, r1, r2, r3, r4, r5, r6, r7, g0, g1, g2, g3, g4, g5, g6, g7⟩ := H3.out.facts; clear c3 k3)
            | (go_at_call 61; (refine (HB.out _).mono ?_); rintro e w4 ⟨rfl, b4⟩; have H4 := Lib.hid (H3.out.below b4); have C4 := Lib.hid (C3.out.below b4); obtain ⟨t0, t1, t2, t3, t4, t5, t6, q0, q1, q2, q3, q4, q5, q6, q7, f0, f1, f2, f3, f4, f5, f6, f7, r0, r1, r2, r3, r4, r5, r6, r7, g0, g1, g2, g3, g4, g5, g6, g7⟩ := H4.out.facts; clear b4)
            | (go_at_call 44; (refine (WI.out _).mono ?_); rintro e w5 ⟨rfl, b5⟩; have H5 := Lib.hid (H4.out.below b5); have C5 := Lib.hid (C4.out.below b5); obtain ⟨t0, t1, t2, t3, t4, t5, t6, q0, q1, q2, q3, q4, q5, q6, q7, f0, f1, f2, f3, f4, f5, f6, f7, r0, r1, r2, r3, r4, r5, r6, r7, g0, g1, g2, g3, g4, g5, g6, g7⟩ := H5.out.facts; clear b5))
          obtain ⟨⟨s0, s1, s2, s3, s4, s5, s6, s7⟩, hC, hT⟩ := (((⟨H4.out.low, H4.out.rb, C4.out, BL.out, RL.out⟩ : Outs CT w b r n (putL L s x.id) w4).put 2 (.int .i64 (rel - 1))).put 3 (.int .i64 rl')).ends (.int .i64 dn) (.int .i64 dm) (.int .i64 (rel - 1)) (.int .i64 rl') (.int .u64 (y 0)) (.int .u64 (y 1)) (.int .u64 (y 2)) (.int .u64 (y 3))
          exact bodyPost_ret (v := .tuple #[.agg #[.int .i64 (dn), .int .i64 dm, .int .i64 (rel - 1), .int .i64 rl', .int .u64 (y 0), .int .u64 (y 1), .int .u64 (y 2), .int .u64 (y 3)], .bool true]) (by simp [results, Try.results39, go_sem, s0, s1, s2, s3, s4, s5, s6, s7]) rfl ⟨rfl, hC, hT⟩
    · rw [show workL n L x.id s true = L by unfold workL; rw [if_neg (fun z => hs z.2)]]
      rw [show workW n L x.id s true rel ⟨dn, dm, db, rl, p⟩ = (⟨dn + 1, dm, db, rl, p⟩, false) by unfold workW; rw [if_neg (fun z => hs z.2)]]
      unfold StepBack
      dsimp only
      rw [decide_eq_false hs] at HC
      clear h hf0 hs
      generalize wd p = y at *
      go_enter Try.func39, Try.ntmps39
      go_wp2_with (first
        | (go_at_call 60; (refine (AC.out _ (by repeat (first | exact Below.refl _ _ | (with_reducible assumption) | refine bw_alloc ?_ _ | refine bw_drew ?_))).mono ?_); rintro e w1 ⟨rfl, b1⟩; have H1 := Lib.hid (H0.out.below b1); obtain ⟨t0, t1, t2, t3, t4, t5, t6, q0, q1, q2, q3, q4, q5, q6, q7, f0, f1, f2, f3, f4, f5, f6, f7, r0, r1, r2, r3, r4, r5, r6, r7, g0, g1, g2, g3, g4, g5, g6, g7⟩ := H1.out.facts; have B1 := Lib.hid (below_up ((by repeat (first | exact Below.refl _ _ | (with_reducible assumption) | refine bw_alloc ?_ _ | refine bw_drew ?_)) : Below w.heap.size w _) b1); clear b1)
        | (go_at_call 36; (refine (HC.out _ B1.out).mono ?_); rintro e w2 ⟨rfl, rfl⟩))
      obtain ⟨⟨s0, s1, s2, s3, s4, s5, s6, s7⟩, hC, hT⟩ := ((⟨H1.out.low, H1.out.rb, CH.out.below B1.out, BL.out, RL.out⟩ : Outs CT w b r n L w2).put 0 (.int .i64 (dn + 1))).ends (.int .i64 (dn + 1)) (.int .i64 dm) (.int .i64 db) (.int .i64 rl) (.int .u64 (y 0)) (.int .u64 (y 1)) (.int .u64 (y 2)) (.int .u64 (y 3))
      exact bodyPost_ret (v := .tuple #[.agg #[.int .i64 (dn + 1), .int .i64 dm, .int .i64 (db), .int .i64 rl, .int .u64 (y 0), .int .u64 (y 1), .int .u64 (y 2), .int .u64 (y 3)], .bool false]) (by simp [results, Try.results39, go_sem, s0, s1, s2, s3, s4, s5, s6, s7]) rfl ⟨rfl, hC, hT⟩
  · obtain rfl : u = false := by cases u; rfl; exact absurd rfl hu
    rw [show workL n L x.id s false = L by unfold workL; rw [if_neg (fun z => by cases z.1)]]
    rw [show workW n L x.id s false rel ⟨dn, dm, db, rl, p⟩ = (⟨dn + 1, dm, db, rl, p⟩, false) by unfold workW; rw [if_neg (fun z => by cases z.1)]]
    unfold StepBack
    dsimp only
    clear h hf0 hu HC
    generalize wd p = y at *
    go_enter Try.func39, Try.ntmps39
    go_wp2_with (go_at_call 60; (refine (AC.out _ (by repeat (first | exact Below.refl _ _ | (with_reducible assumption) | refine bw_alloc ?_ _ | refine bw_drew ?_))).mono ?_); rintro e w1 ⟨rfl, b1⟩; have H1 := Lib.hid (H0.out.below b1); obtain ⟨t0, t1, t2, t3, t4, t5, t6, q0, q1, q2, q3, q4, q5, q6, q7, f0, f1, f2, f3, f4, f5, f6, f7, r0, r1, r2, r3, r4, r5, r6, r7, g0, g1, g2, g3, g4, g5, g6, g7⟩ := H1.out.facts; have B1 := Lib.hid (below_up ((by repeat (first | exact Below.refl _ _ | (with_reducible assumption) | refine bw_alloc ?_ _ | refine bw_drew ?_)) : Below w.heap.size w _) b1); clear b1)
    obtain ⟨⟨s0, s1, s2, s3, s4, s5, s6, s7⟩, hC, hT⟩ := ((⟨H1.out.low, H1.out.rb, CH.out.below B1.out, BL.out, RL.out⟩ : Outs CT w b r n L w1).put 0 (.int .i64 (dn + 1))).ends (.int .i64 (dn + 1)) (.int .i64 dm) (.int .i64 db) (.int .i64 rl) (.int .u64 (y 0)) (.int .u64 (y 1)) (.int .u64 (y 2)) (.int .u64 (y 3))
    exact bodyPost_ret (v := .tuple #[.agg #[.int .i64 (dn + 1), .int .i64 dm, .int .i64 (db), .int .i64 rl, .int .u64 (y 0), .int .u64 (y 1), .int .u64 (y 2), .int .u64 (y 3)], .bool false]) (by simp [results, Try.results39, go_sem, s0, s1, s2, s3, s4, s5, s6, s7]) rfl ⟨rfl, hC, hT⟩
end Go.Proofs.Ytflemmmaakhahaa

/-
  The walk over a tick.
-/
namespace Go.Proofs.Ytflemmmaakhahaa
open Go.RowKit Go.Maps

set_option maxRecDepth 100000 in
set_option maxHeartbeats 8000000 in
theorem cstep_any (x : TV) (rel dn dm db rl : Int) (p : Nat → Bool) (w : World) {b r n : Nat} {L : Nat → Int} (h : Ch CT w b r n L) (hx : x.ok w) (hm : dm ≤ 9223372036854775807) (hd : db ≤ 9223372036854775807) :
    Calls Try.prog 17 #[.pointer (some ⟨b, 0, none⟩), .agg #[.int .i64 x.id, .int .i64 x.c, .int .i64 x.d, .int .i64 x.t, .int .i64 x.p, .slice x.a1 x.ch.length x.c1, .slice x.a2 x.us.length x.c2], .int .i64 rel, .agg #[.int .i64 dn, .int .i64 dm, .int .i64 db, .int .i64 rl, .int .u64 (wd p 0), .int .u64 (wd p 1), .int .u64 (wd p 2), .int .u64 (wd p 3)]] w (StepBack CT b r n (stepL n L x.id (accOf x dn).1 (accOf x dn).2 rel ⟨dn, dm, db, rl, p⟩) (stepW n L x.id (accOf x dn).1 (accOf x dn).2 rel ⟨dn, dm, db, rl, p⟩) w) := by
  have MS := Lib.hid (fun W => may_step x rel dn dm db rl p W)
  have BL := Lib.hid h.lt.1
  have RL := Lib.hid h.lt.2
  have CH := Lib.hid h
  have H0 := Lib.hid (stepAt_new (fun k => k = r) w x dn dm db rl (wd p))
  obtain ⟨t0, t1, t2, t3, t4, t5, t6, q0, q1, q2, q3, q4, q5, q6, q7, f0, f1, f2, f3, f4, f5, f6, f7, r0, r1, r2, r3, r4, r5, r6, r7, g0, g1, g2, g3, g4, g5, g6, g7⟩ := H0.out.facts
  obtain ⟨rl', hrl⟩ : ∃ rl', IntKind.i64.wrap (rl + 1) = rl' := ⟨_, rfl⟩
  have HRL := Lib.hid hrl
  by_cases hf : Fits x.id rel ⟨dn, dm, db, rl, p⟩
  · have hf5 : 0 ≤ db := hf.2.2.2.2.2
    have u2 : IntKind.i64.wrap (db - 1) = db - 1 := IntWalk.i64_in _ (by omega)
    rw [decide_eq_true hf] at MS
    by_cases hp : 0 < db
    · rw [show stepL n L x.id (accOf x dn).1 (accOf x dn).2 rel ⟨dn, dm, db, rl, p⟩ = L by unfold stepL; rw [if_neg (fun z => z.2 hp)]]
      rw [show stepW n L x.id (accOf x dn).1 (accOf x dn).2 rel ⟨dn, dm, db, rl, p⟩ = (⟨dn, dm, db - 1, wUp rl, p⟩, true) by unfold stepW; rw [if_pos hf, if_pos hp]]
      unfold StepBack
      dsimp only
      unfold wUp
      rw [hrl]
      clear hf h hx
      generalize wd p = y at *
      go_enter Try.func17, Try.ntmps17
      go_wp2_with (go_at_call 38; (refine (MS.out _).mono ?_); rintro e w1 ⟨rfl, b1⟩; have H1 := Lib.hid (H0.out.below b1); obtain ⟨t0, t1, t2, t3, t4, t5, t6, q0, q1, q2, q3, q4, q5, q6, q7, f0, f1, f2, f3, f4, f5, f6, f7, r0, r1, r2, r3, r4, r5, r6, r7, g0, g1, g2, g3, g4, g5, g6, g7⟩ := H1.out.facts; have B1 := Lib.hid (below_up ((by repeat (first | exact Below.refl _ _ | (with_reducible assumption) | refine bw_alloc ?_ _ | refine bw_drew ?_)) : Below w.heap.size w _) b1); clear b1)
      obtain ⟨⟨s0, s1, s2, s3, s4, s5, s6, s7⟩, hC, hT⟩ := (((⟨H1.out.low, H1.out.rb, CH.out.below B1.out, BL.out, RL.out⟩ : Outs CT w b r n L w1).put 2 (.int .i64 (db - 1))).put 3 (.int .i64 rl')).ends (.int .i64 dn) (.int .i64 dm) (.int .i64 (db - 1)) (.int .i64 rl') (.int .u64 (y 0)) (.int .u64 (y 1)) (.int .u64 (y 2)) (.int .u64 (y 3))
      exact bodyPost_ret (v := .tuple #[.agg #[.int .i64 (dn), .int .i64 dm, .int .i64 (db - 1), .int .i64 rl', .int .u64 (y 0), .int .u64 (y 1), .int .u64 (y 2), .int .u64 (y 3)], .bool true]) (by simp [results, Try.results17, go_sem, s0, s1, s2, s3, s4, s5, s6, s7]) rfl ⟨rfl, hC, hT⟩
    · rw [show stepL n L x.id (accOf x dn).1 (accOf x dn).2 rel ⟨dn, dm, db, rl, p⟩ = workL n L x.id (accOf x dn).1 (accOf x dn).2 by unfold stepL; rw [if_pos ⟨hf, hp⟩]]
      rw [show stepW n L x.id (accOf x dn).1 (accOf x dn).2 rel ⟨dn, dm, db, rl, p⟩ = workW n L x.id (accOf x dn).1 (accOf x dn).2 rel ⟨dn, dm, db, rl, p⟩ by unfold stepW; rw [if_pos hf, if_neg hp]]
      have WA := Lib.hid (fun W (hW : Below w.heap.size w W) => work_any x rel dn dm db rl p W (h.below hW) (hx.below hW) hf hm)
      unfold StepBack at *
      generalize workL n L x.id (accOf x dn).1 (accOf x dn).2 = L' at *
      generalize workW n L x.id (accOf x dn).1 (accOf x dn).2 rel ⟨dn, dm, db, rl, p⟩ = oo at *
      obtain ⟨⟨a', b', c', d', p'⟩, fl⟩ := oo
      dsimp only at *
      generalize wd p' = z at *
      clear hf h hx
      generalize wd p = y at *
      go_enter Try.func17, Try.ntmps17
      go_wp2_with (first
        | (go_at_call 38; (refine (MS.out _).mono ?_); rintro e w1 ⟨rfl, b1⟩; have H1 := Lib.hid (H0.out.below b1); obtain ⟨t0, t1, t2, t3, t4, t5, t6, q0, q1, q2, q3, q4, q5, q6, q7, f0, f1, f2, f3, f4, f5, f6, f7, r0, r1, r2, r3, r4, r5, r6, r7, g0, g1, g2, g3, g4, g5, g6, g7⟩ := H1.out.facts; have B1 := Lib.hid (below_up ((by repeat (first | exact Below.refl _ _ | (with_reducible assumption) | refine bw_alloc ?_ _ | refine bw_drew ?_)) : Below w.heap.size w _) b1); clear b1)
        | (go_at_call 39; (refine (WA.out _ B1.out).mono ?_); rintro e w3 ⟨rfl, c3, k3⟩; have H3 := Lib.hid (H1.out.turn k3 RL.out); have C3 := Lib.hid c3; obtain ⟨t0, t1, t2, t3, t4, t5, t6, q0, q1, q2, q3, q4, q5, q6, q7, f0, f1, f2, f3, f4, f5, f6, f7, r0, r1, r2, r3, r4, r5, r6, r7, g0, g1, g2, g3, g4, g5, g6, g7⟩ := H3.out.facts; clear c3 k3))
      obtain ⟨⟨s0, s1, s2, s3, s4, s5, s6, s7⟩, hC, hT⟩ := ((⟨H3.out.low, H3.out.rb, C3.out, BL.out, RL.out⟩ : Outs CT w b r n L' w3)).ends (.int .i64 (a')) (.int .i64 b') (.int .i64 (c')) (.int .i64 d') (.int .u64 (z 0)) (.int .u64 (z 1)) (.int .u64 (z 2)) (.int .u64 (z 3))
      exact bodyPost_ret (v := .tuple #[.agg #[.int .i64 (a'), .int .i64 b', .int .i64 (c'), .int .i64 d', .int .u64 (z 0), .int .u64 (z 1), .int .u64 (z 2), .int .u64 (z 3)], .bool fl]) (by simp [results, Try.results17, go_sem, s0, s1, s2, s3, s4, s5, s6, s7]) rfl ⟨rfl, hC, hT⟩
  · rw [show stepL n L x.id (accOf x dn).1 (accOf x dn).2 rel ⟨dn, dm, db, rl, p⟩ = L by unfold stepL; rw [if_neg (fun z => hf z.1)]]
    rw [show stepW n L x.id (accOf x dn).1 (accOf x dn).2 rel ⟨dn, dm, db, rl, p⟩ = (⟨dn, dm, db, rl, p⟩, false) by unfold stepW; rw [if_neg hf]]
    rw [decide_eq_false hf] at MS
    unfold StepBack
    dsimp only
    clear hf h hx
    generalize wd p = y at *
    go_enter Try.func17, Try.ntmps17
    go_wp2_with (go_at_call 38; (refine (MS.out _).mono ?_); rintro e w1 ⟨rfl, b1⟩; have H1 := Lib.hid (H0.out.below b1); obtain ⟨t0, t1, t2, t3, t4, t5, t6, q0, q1, q2, q3, q4, q5, q6, q7, f0, f1, f2, f3, f4, f5, f6, f7, r0, r1, r2, r3, r4, r5, r6, r7, g0, g1, g2, g3, g4, g5, g6, g7⟩ := H1.out.facts; have B1 := Lib.hid (below_up ((by repeat (first | exact Below.refl _ _ | (with_reducible assumption) | refine bw_alloc ?_ _ | refine bw_drew ?_)) : Below w.heap.size w _) b1); clear b1)
    obtain ⟨⟨s0, s1, s2, s3, s4, s5, s6, s7⟩, hC, hT⟩ := ((⟨H1.out.low, H1.out.rb, CH.out.below B1.out, BL.out, RL.out⟩ : Outs CT w b r n L w1)).ends (.int .i64 dn) (.int .i64 dm) (.int .i64 db) (.int .i64 rl) (.int .u64 (y 0)) (.int .u64 (y 1)) (.int .u64 (y 2)) (.int .u64 (y 3))
    exact bodyPost_ret (v := .tuple #[.agg #[.int .i64 (dn), .int .i64 dm, .int .i64 (db), .int .i64 rl, .int .u64 (y 0), .int .u64 (y 1), .int .u64 (y 2), .int .u64 (y 3)], .bool false]) (by simp [results, Try.results17, go_sem, s0, s1, s2, s3, s4, s5, s6, s7]) rfl ⟨rfl, hC, hT⟩
set_option maxRecDepth 100000 in
set_option maxHeartbeats 4000000 in
theorem cstep_nil (x : TV) (rel dn dm db rl : Int) (y : Nat → Nat) (w : World) :
    Calls Try.prog 17 #[.pointer none, .agg #[.int .i64 x.id, .int .i64 x.c, .int .i64 x.d, .int .i64 x.t, .int .i64 x.p, .slice x.a1 x.ch.length x.c1, .slice x.a2 x.us.length x.c2], .int .i64 rel, .agg #[.int .i64 dn, .int .i64 dm, .int .i64 db, .int .i64 rl, .int .u64 (y 0), .int .u64 (y 1), .int .u64 (y 2), .int .u64 (y 3)]] w fun e w' => e = .returned (.tuple #[.agg #[.int .i64 dn, .int .i64 dm, .int .i64 db, .int .i64 rl, .int .u64 (y 0), .int .u64 (y 1), .int .u64 (y 2), .int .u64 (y 3)], .bool false]) ∧ Below w.heap.size w w' := by
  have H0 := Lib.hid (stepAt_new (fun _ => False) w x dn dm db rl y)
  obtain ⟨t0, t1, t2, t3, t4, t5, t6, q0, q1, q2, q3, q4, q5, q6, q7, f0, f1, f2, f3, f4, f5, f6, f7, r0, r1, r2, r3, r4, r5, r6, r7, g0, g1, g2, g3, g4, g5, g6, g7⟩ := H0.out.facts
  go_enter Try.func17, Try.ntmps17
  go_wp2
  exact bodyPost_ret (v := .tuple #[.agg #[.int .i64 dn, .int .i64 dm, .int .i64 db, .int .i64 rl, .int .u64 (y 0), .int .u64 (y 1), .int .u64 (y 2), .int .u64 (y 3)], .bool false]) (by
    have e := cells8 (heap_alloc_new ((w.alloc (.cells #[.int .i64 x.id, .int .i64 x.c, .int .i64 x.d, .int .i64 x.t, .int .i64 x.p, .slice x.a1 x.ch.length x.c1, .slice x.a2 x.us.length x.c2] TT)).alloc (.cells #[.int .i64 dn, .int .i64 dm, .int .i64 db, .int .i64 rl, .int .u64 (y 0), .int .u64 (y 1), .int .u64 (y 2), .int .u64 (y 3)] WT)) (.cells #[.int .i64 dn, .int .i64 dm, .int .i64 db, .int .i64 rl, .int .u64 (y 0), .int .u64 (y 1), .int .u64 (y 2), .int .u64 (y 3)] WT))
    rw [World.size_alloc, World.size_alloc] at e
    obtain ⟨s0, s1, s2, s3, s4, s5, s6, s7⟩ := e
    clear H0 t0 t1 t2 t3 t4 t5 t6 q0 q1 q2 q3 q4 q5 q6 q7 f0 f1 f2 f3 f4 f5 f6 f7 r0 r1 r2 r3 r4 r5 r6 r7 g0 g1 g2 g3 g4 g5 g6 g7
    simp [results, Try.results17, go_sem, s0, s1, s2, s3, s4, s5, s6, s7]) rfl ⟨rfl, (by repeat (first | exact Below.refl _ _ | (with_reducible assumption) | refine bw_alloc ?_ _ | refine bw_drew ?_))⟩
end Go.Proofs.Ytflemmmaakhahaa

/-
  The walks over the sets that belong to one, told one by one; a flush.
-/
namespace Go.Proofs.Ytflemmmaakhahaa
open Go.RowKit Go.Maps Go.Shelf
attribute [local go_sem] Oper.semAt_some

/-! ### all made nobody's -/
theorem clear_ch {w : World} {b r n : Nat} {L : Nat → Int} (h : Ch CT w b r n L) :
    ∃ w', (∀ ty, (Builtin.clear_ #[45] ty #[.slice (some ⟨r, 0, none⟩) n n]).run Try.prog w = .ok (.tuple #[]) w') ∧ Ch CT w' b r n (fun _ => 0) ∧ Turn (fun k => k = r) w w' := by
  obtain ⟨cur, hb, h1, h2⟩ := h.row
  have hz : ∀ w : World, (zeroValue 3).run Try.prog w = .ok (.int .i64 0) w := fun w => by kernel_rfl
  have hzc : Builtin.zeroCells (Value.int .i64 0).cells n = madeCells #[.int .i64 0] n := by
    unfold Builtin.zeroCells madeCells
    simp [Value.cells]
  by_cases hn : n = 0
  · subst hn
    refine ⟨w, fun ty => ?_, ⟨h.str, ⟨cur, hb, h1, fun i hi => by omega⟩, h.ne, h.few, fun _ => by unfold I64; omega⟩, Turn.refl _ _⟩
    simp [Builtin.clear_, run_underlying Try.underlying45]
  obtain ⟨Z, hZ, hzl, hz1, hz2⟩ : ∃ Z : List Value, (Builtin.zeroCells (Value.int .i64 0).cells n).toList = Z ∧ Z.length = n ∧ (∀ v ∈ Z, v.oneCell' = true) ∧ ∀ i, i < n → Z[i]? = some (.int .i64 0) := by
    refine ⟨_, rfl, ?_, ?_, ?_⟩
    · rw [hzc, Array.length_toList, size_madeCells]
    · intro v hv
      rw [hzc] at hv
      obtain ⟨i, hi, e⟩ := List.getElem_of_mem hv
      have hi' : i < n := by rw [Array.length_toList, size_madeCells] at hi; exact hi
      have := made_at hi'
      rw [← Array.getElem?_toList, List.getElem?_eq_getElem hi, e] at this
      cases this; rfl
    · intro i hi
      rw [hzc, Array.getElem?_toList]; exact made_at hi
  have hfit : 0 + 0 + Z.length ≤ cur.size := by omega
  have hst := run_storeCells_at Try.prog r 0 3 Z 0 cur w hb hfit hz1
  have hrow : RowC (w.setRow r (cur.toList.take (0 + 0) ++ Z ++ cur.toList.drop (0 + 0 + Z.length)).toArray) r n (fun _ => 0) := by
    refine ⟨_, setRow_heap w r cur _ 3 (0, 0) hb, ?_, fun i hi => ?_⟩
    · simp; omega
    · have := hz2 i hi
      have hzl' : i < Z.length := by omega
      simp [List.getElem?_append_left hzl', this]
  refine ⟨w.setRow r (cur.toList.take (0 + 0) ++ Z ++ cur.toList.drop (0 + 0 + Z.length)).toArray, fun ty => ?_, ⟨(setRow_other w r b _ h.ne).trans h.str, hrow, h.ne, h.few, fun _ => by unfold I64; omega⟩, ⟨rfl, rfl, rfl, by simp, fun k hk hne => setRow_other w r k _ hne⟩⟩
  obtain ⟨m, hm⟩ : ∃ m, n = m + 1 := ⟨n - 1, by omega⟩
  rw [hm] at hZ ⊢
  simp [Builtin.clear_, run_underlying Try.underlying45, hz, hZ, hst]
set_option maxHeartbeats 1000000 in
theorem cflush_any {w : World} {b r n : Nat} {L : Nat → Int} (h : Ch CT w b r n L) : Calls Try.prog 15 #[.pointer (some ⟨b, 0, none⟩)] w fun e w' => e = .returned (.tuple #[]) ∧ Ch CT w' b r n (fun _ => 0) ∧ Turn (fun k => k = r) w w' := by
  obtain ⟨w9, hcl, h9, t9⟩ := clear_ch h
  have c0 := h.slice
  have H9 := Lib.hid h9
  have T9 := Lib.hid t9
  clear h h9 t9
  go_enter Try.func15, Try.ntmps15
  go_wp2
  go_end0
  exact ⟨rfl, H9.out, T9.out⟩
set_option maxHeartbeats 1000000 in
theorem cflush_nil (w : World) : Calls Try.prog 15 #[.pointer none] w fun e w' => e = .returned (.tuple #[]) ∧ w' = w := by
  go_enter Try.func15, Try.ntmps15
  go_wp2
  go_end0
  exact ⟨rfl, rfl⟩
end Go.Proofs.Ytflemmmaakhahaa

/-
  Two works held against each other; is the program awake.
-/
namespace Go.Proofs.Ytflemmmaakhahaa
open Go.RowKit Go.Maps

theorem workGuard : Try.prog.eqGuardType Try.prog.depth 39 = false := by kernel_rfl
theorem workFields : Try.prog.underlying 39 = some (.struct (Try.prog.fieldsOf 39)) := by kernel_rfl
theorem workStood : Try.prog.stoodInHeld 39 = false := by kernel_rfl
theorem bits_same (d : Nat) (x0 x1 x2 x3 : Nat) (w : World) : (Op.equalIn (d + 1 + 1) 37 (.agg #[.int .u64 x0, .int .u64 x1, .int .u64 x2, .int .u64 x3]) (.agg #[.int .u64 x0, .int .u64 x1, .int .u64 x2, .int .u64 x3])).run Try.prog w = .ok true w := by
  rw [set_eq_d, eq4_self]
theorem part_bits (a b c d : Int) (x0 x1 x2 x3 : Nat) (w : World) : (part 37 #[.int .i64 a, .int .i64 b, .int .i64 c, .int .i64 d, .int .u64 x0, .int .u64 x1, .int .u64 x2, .int .u64 x3] 4).run Try.prog w = .ok (.agg #[.int .u64 x0, .int .u64 x1, .int .u64 x2, .int .u64 x3]) w := by kernel_rfl
set_option maxHeartbeats 1000000 in
theorem work_same (a b c d : Int) (x : Nat → Nat) (w : World) : (Op.equalIn 10000 39 (.agg #[.int .i64 a, .int .i64 b, .int .i64 c, .int .i64 d, .int .u64 (x 0), .int .u64 (x 1), .int .u64 (x 2), .int .u64 (x 3)]) (.agg #[.int .i64 a, .int .i64 b, .int .i64 c, .int .i64 d, .int .u64 (x 0), .int .u64 (x 1), .int .u64 (x 2), .int .u64 (x 3)])).run Try.prog w = .ok true w := by
  have u1 := Try.underlying2
  have h1 : ∀ (y : Int) (w : World), (Op.equalIn 9999 2 (.int .i64 y) (.int .i64 y)).run Try.prog w = .ok true w := fun y w => by
    rw [show (9999 : Nat) = 9998 + 1 from rfl, run_equalIn_int w 9998 2 .i64 .i64 y y u1]; simp
  have h2 : ∀ w : World, (Op.equalIn 9999 37 (.agg #[.int .u64 (x 0), .int .u64 (x 1), .int .u64 (x 2), .int .u64 (x 3)]) (.agg #[.int .u64 (x 0), .int .u64 (x 1), .int .u64 (x 2), .int .u64 (x 3)])).run Try.prog w = .ok true w := fun w => bits_same 9997 _ _ _ _ w
  have p0 : ∀ w : World, (part 2 (#[.int .i64 a, .int .i64 b, .int .i64 c, .int .i64 d, .int .u64 (x 0), .int .u64 (x 1), .int .u64 (x 2), .int .u64 (x 3)]) 0).run Try.prog w = .ok (.int .i64 a) w := fun w => by kernel_rfl
  have p1 : ∀ w : World, (part 2 (#[.int .i64 a, .int .i64 b, .int .i64 c, .int .i64 d, .int .u64 (x 0), .int .u64 (x 1), .int .u64 (x 2), .int .u64 (x 3)]) 1).run Try.prog w = .ok (.int .i64 b) w := fun w => by kernel_rfl
  have p2 : ∀ w : World, (part 2 (#[.int .i64 a, .int .i64 b, .int .i64 c, .int .i64 d, .int .u64 (x 0), .int .u64 (x 1), .int .u64 (x 2), .int .u64 (x 3)]) 2).run Try.prog w = .ok (.int .i64 c) w := fun w => by kernel_rfl
  have p3 : ∀ w : World, (part 2 (#[.int .i64 a, .int .i64 b, .int .i64 c, .int .i64 d, .int .u64 (x 0), .int .u64 (x 1), .int .u64 (x 2), .int .u64 (x 3)]) 3).run Try.prog w = .ok (.int .i64 d) w := fun w => by kernel_rfl
  have p4 := fun w => part_bits a b c d (x 0) (x 1) (x 2) (x 3) w
  rw [show (10000 : Nat) = 9999 + 1 from rfl, run_equalIn_struct w 9999 _ _ _ workFields workStood]
  simp only [Program.fieldsOf, Try.underlying39]
  simp [Op.eqFields, Sem.run_bind, p0, p1, p2, p3, p4, h1, h2, Result.andThen_ok]

theorem work_eql (a b c d : Int) (x : Nat → Nat) (w : World) : (binOp .eql 39 (.agg #[.int .i64 a, .int .i64 b, .int .i64 c, .int .i64 d, .int .u64 (x 0), .int .u64 (x 1), .int .u64 (x 2), .int .u64 (x 3)]) (.agg #[.int .i64 a, .int .i64 b, .int .i64 c, .int .i64 d, .int .u64 (x 0), .int .u64 (x 1), .int .u64 (x 2), .int .u64 (x 3)])).run Try.prog w = .ok (.bool true) w := by
  rw [run_eql_struct, work_same]; rfl
theorem bitsGuard : Try.prog.eqGuardType Try.prog.depth 37 = false := by kernel_rfl
theorem bits_eql (x0 x1 x2 x3 y0 y1 y2 y3 : Nat) (w : World) : (binOp .eql 37 (.agg #[.int .u64 x0, .int .u64 x1, .int .u64 x2, .int .u64 x3]) (.agg #[.int .u64 y0, .int .u64 y1, .int .u64 y2, .int .u64 y3])).run Try.prog w = .ok (.bool (eq4 x0 x1 x2 x3 y0 y1 y2 y3)) w := by
  rw [run_eql_struct, set_eq]; rfl
theorem bits_neq (x0 x1 x2 x3 y0 y1 y2 y3 : Nat) (w : World) : (binOp .neq 37 (.agg #[.int .u64 x0, .int .u64 x1, .int .u64 x2, .int .u64 x3]) (.agg #[.int .u64 y0, .int .u64 y1, .int .u64 y2, .int .u64 y3])).run Try.prog w = .ok (.bool (!eq4 x0 x1 x2 x3 y0 y1 y2 y3)) w := by
  rw [run_neq_struct, set_eq]; rfl
theorem none_eql (w : World) : (binOp .eql 37 (.agg #[.int .u64 0, .int .u64 0, .int .u64 0, .int .u64 0]) (.agg #[.int .u64 0, .int .u64 0, .int .u64 0, .int .u64 0])).run Try.prog w = .ok (.bool true) w := bits_eql 0 0 0 0 0 0 0 0 w
theorem none_neq (w : World) : (binOp .neq 37 (.agg #[.int .u64 0, .int .u64 0, .int .u64 0, .int .u64 0]) (.agg #[.int .u64 0, .int .u64 0, .int .u64 0, .int .u64 0])).run Try.prog w = .ok (.bool false) w := bits_neq 0 0 0 0 0 0 0 0 w
theorem work_neq (a b c d : Int) (x : Nat → Nat) (w : World) : (binOp .neq 39 (.agg #[.int .i64 a, .int .i64 b, .int .i64 c, .int .i64 d, .int .u64 (x 0), .int .u64 (x 1), .int .u64 (x 2), .int .u64 (x 3)]) (.agg #[.int .i64 a, .int .i64 b, .int .i64 c, .int .i64 d, .int .u64 (x 0), .int .u64 (x 1), .int .u64 (x 2), .int .u64 (x 3)])).run Try.prog w = .ok (.bool false) w := by
  rw [run_neq_struct, work_same]; rfl

set_option maxRecDepth 100000 in
set_option maxHeartbeats 4000000 in
theorem cawake_any (w : World) : Calls Try.prog 9 #[] w fun e w' => e = .returned (.bool true) ∧ Below w.heap.size w w' := by
  have C0 := Lib.hid (show Calls Try.prog 11 #[.int .i64 4] w (CacheBack CT 4 w) from cnew_some 4 (by omega) w)
  have E1 : useB 4 (fun _ => 0) 3 1 = false := by decide +kernel
  have E2 : useB 4 (useL 4 (fun _ => 0) 3 1) 3 1 = true := by decide +kernel
  have E3 : useB 4 (useL 4 (useL 4 (fun _ => 0) 3 1) 3 1) 3 2 = false := by decide +kernel
  have E4 : useB 4 (useL 4 (useL 4 (useL 4 (fun _ => 0) 3 1) 3 1) 3 2) 3 1 = false := by decide +kernel
  have HE := Lib.hid (And.intro E1 (And.intro E2 (And.intro E3 E4)))
  clear E1 E2 E3 E4
  go_enter Try.func9, Try.ntmps9
  go_upto_region 4 with (go_at_call 11; refine C0.out.mono ?_; rintro e w1 ⟨b, r, rfl, h1, hb, hr, b1⟩; have U1 := cuse_any h1 3 1; unfold UseBack at U1; rw [HE.out.1] at U1; have D1 := Lib.hid U1; have B1 := Lib.hid b1; have HB := Lib.hid hb; have HR := Lib.hid hr; clear U1 h1 hb hr b1)
  go_upto_region 5 with (go_at_call 13; refine D1.out.mono ?_; rintro e w2 ⟨rfl, h2, t2⟩; have U2 := cuse_any h2 3 1; unfold UseBack at U2; rw [HE.out.2.1] at U2; have D2 := Lib.hid U2; have T2 := Lib.hid t2; clear U2 h2 t2)
  go_upto_region 6 with (go_at_call 13; refine D2.out.mono ?_; rintro e w3 ⟨rfl, h3, t3⟩; have U3 := cuse_any h3 3 2; unfold UseBack at U3; rw [HE.out.2.2.1] at U3; have D3 := Lib.hid U3; have T3 := Lib.hid (T2.out.then t3); clear U3 h3 t3)
  go_upto_region 7 with (go_at_call 13; refine D3.out.mono ?_; rintro e w4 ⟨rfl, h4, t4⟩; have U4 := cuse_any h4 3 1; unfold UseBack at U4; rw [HE.out.2.2.2] at U4; have D4 := Lib.hid U4; have T4 := Lib.hid (T3.out.then t4); clear U4 h4 t4)
  go_wp2_with (go_at_call 13; refine D4.out.mono ?_; rintro e w5 ⟨rfl, h5, t5⟩; have T5 := Lib.hid (T4.out.then t5); clear h5 t5)
  go_ret
  exact ⟨rfl, B1.out.trans (T5.out.below (B := w.heap.size) B1.out.size (fun i q => by subst q; exact HR.out))⟩
end Go.Proofs.Ytflemmmaakhahaa

/-
  Tasks by plain numbers: what a number's task is, in words.
-/
namespace Go.Proofs.Ytflemmmaakhahaa
open Go.RowKit Go.Maps

/-- A task's plain numbers as they stand in memory. -/
structure NV where
  C : Int
  D : Int
  T : Int
  P : Int
  K : Int
  a : Option Addr
  us : List Int
  c : Nat
def NV.cells (x : NV) : List Value := [.int .i64 x.C, .int .i64 x.D, .int .i64 x.T, .int .i64 x.P, .int .i64 x.K, .slice x.a x.us.length x.c]
structure NV.ok (w : World) (x : NV) : Prop where
  row : Ints w x.a x.us
  le : x.us.length ≤ x.c
  small : (x.c : Int) ≤ 9223372036854775807
theorem NV.ok.below {w w' : World} {x : NV} (h : x.ok w) (hb : Below w.heap.size w w') : x.ok w' := ⟨h.row.below hb, h.le, h.small⟩
/-- The cells of a task's plain numbers, from a place on. -/
structure NAt (w : World) (g o : Nat) (x : NV) : Prop where
  c0 : w.cell? ⟨g, o, none⟩ = some (.int .i64 x.C)
  c1 : w.cell? ⟨g, o + 1, none⟩ = some (.int .i64 x.D)
  c2 : w.cell? ⟨g, o + 2, none⟩ = some (.int .i64 x.T)
  c3 : w.cell? ⟨g, o + 3, none⟩ = some (.int .i64 x.P)
  c4 : w.cell? ⟨g, o + 4, none⟩ = some (.int .i64 x.K)
  c5 : w.cell? ⟨g, o + 5, none⟩ = some (.slice x.a x.us.length x.c)
theorem NAt.below {w w' : World} {g o : Nat} {x : NV} (h : NAt w g o x) (hb : Below w.heap.size w w') : NAt w' g o x :=
  ⟨kept_cell hb h.c0, kept_cell hb h.c1, kept_cell hb h.c2, kept_cell hb h.c3, kept_cell hb h.c4, kept_cell hb h.c5⟩

/-- What is promised of the task that a number means: at place i, for so many sets. -/
structure Good (i : Int) (sets : Int) (y : TV) : Prop where
  id : y.id = i + 1
  c1 : 1 ≤ y.c
  cd : y.c ≤ y.d
  dt : y.d ≤ y.t
  t24 : y.t ≤ 24
  p1 : 10 ≤ y.p
  p99 : y.p ≤ 90 + i
  pi : (y.p - i) % 10 = 0
  ch : y.ch = [] ∨ fillB y.ch y.c = true
  us : ∀ u ∈ y.us, 0 ≤ u ∧ u < sets
  us5 : y.us.length ≤ 5

theorem fill_sum : ∀ (l : List Int) (c : Int), (∀ x ∈ l, 1 ≤ x) → l.sum = c → fillB l c = true
  | [], c, _, h => by simp at h; subst h; rfl
  | x :: l, c, hp, h => by
    have h1 : 1 ≤ x := hp x (by simp)
    have hs : ∀ (l : List Int), (∀ x ∈ l, 1 ≤ x) → 0 ≤ l.sum := by
      intro l
      induction l with
      | nil => intro _; simp
      | cons y l ih =>
        intro hl
        have := ih (fun z hz => hl z (by simp [hz]))
        have := hl y (by simp)
        simp only [List.sum_cons]; omega
    have h2 := hs l (fun z hz => hp z (by simp [hz]))
    simp only [List.sum_cons] at h
    rw [fillB, if_pos ⟨h1, by omega⟩]
    exact fill_sum l (c - x) (fun z hz => hp z (by simp [hz])) (by omega)

theorem and_small (n : Int) (m : Nat) (hm : m < 1000) : ∃ j : Nat, j ≤ m ∧ bits .and .i64 n (m : Int) = (j : Int) := by
  have hm2 : (BitVec.ofInt 64 (m : Int)).toNat = m := by
    rw [BitVec.toNat_ofInt]; omega
  have h : (BitVec.ofInt 64 n &&& BitVec.ofInt 64 (m : Int)).toNat ≤ m := by
    rw [BitVec.toNat_and, hm2]; exact Nat.and_le_right
  refine ⟨_, h, ?_⟩
  show IntKind.i64.wrap _ = _
  exact IntWalk.i64_in _ (by show _ ∧ ((BitVec.ofInt 64 n &&& BitVec.ofInt 64 (m : Int)).toNat : Int) ≤ _; omega)
theorem and7 (n : Int) : ∃ j : Nat, j < 8 ∧ bits .and .i64 n 7 = (j : Int) := by
  obtain ⟨j, h1, h2⟩ := and_small n 7 (by omega)
  exact ⟨j, by omega, h2⟩
theorem period (j : Nat) (hj : j < 8) : ∃ t : Int, [(4 : Int), 5, 6, 8, 10, 12, 20, 24][j]? = some t ∧ 4 ≤ t ∧ t ≤ 24 := by
  match j, hj with
  | 0, _ => exact ⟨4, rfl, by omega, by omega⟩
  | 1, _ => exact ⟨5, rfl, by omega, by omega⟩
  | 2, _ => exact ⟨6, rfl, by omega, by omega⟩
  | 3, _ => exact ⟨8, rfl, by omega, by omega⟩
  | 4, _ => exact ⟨10, rfl, by omega, by omega⟩
  | 5, _ => exact ⟨12, rfl, by omega, by omega⟩
  | 6, _ => exact ⟨20, rfl, by omega, by omega⟩
  | 7, _ => exact ⟨24, rfl, by omega, by omega⟩
theorem ints_block (w : World) (l : List Int) (T : TypeId) : Ints (w.alloc (.cells (vi l).toArray T)) (some ⟨w.heap.size, 0, none⟩) l :=
  .inr ⟨_, 0, rfl, fun j u hj => by rw [Nat.zero_add, World.cell?_alloc_new]; simpa using vi_at hj⟩

/-- The plain numbers in a box; the task that comes back in another one. -/
structure NumAt (w : World) (x : NV) (W : World) : Prop where
  low : Below w.heap.size w W
  c0 : W.cell? ⟨w.heap.size, 0, none⟩ = some (.int .i64 x.C)
  c1 : W.cell? ⟨w.heap.size, 1, none⟩ = some (.int .i64 x.D)
  c2 : W.cell? ⟨w.heap.size, 2, none⟩ = some (.int .i64 x.T)
  c3 : W.cell? ⟨w.heap.size, 3, none⟩ = some (.int .i64 x.P)
  c4 : W.cell? ⟨w.heap.size, 4, none⟩ = some (.int .i64 x.K)
  c5 : W.cell? ⟨w.heap.size, 5, none⟩ = some (.slice x.a x.us.length x.c)
  res : W.heap[w.heap.size + 1]? = some (.cells #[.int .i64 0, .int .i64 0, .int .i64 0, .int .i64 0, .int .i64 0, .slice none 0 0, .slice none 0 0] TT (0, 0))
theorem NumAt.below {w W W' : World} {x : NV} (h : NumAt w x W) (hb : Below W.heap.size W W') : NumAt w x W' :=
  ⟨below_up h.low hb, kept_cell hb h.c0, kept_cell hb h.c1, kept_cell hb h.c2, kept_cell hb h.c3, kept_cell hb h.c4, kept_cell hb h.c5, kept_obj hb h.res⟩
theorem NumAt.belowB {B : Nat} {w W W' : World} {x : NV} (h : NumAt w x W) (hB : w.heap.size + 1 < B) (hb : Below B W W') : NumAt w x W' :=
  ⟨h.low.trans (hb.mono (by omega)), kept_cellB hb (by omega) h.c0, kept_cellB hb (by omega) h.c1, kept_cellB hb (by omega) h.c2, kept_cellB hb (by omega) h.c3, kept_cellB hb (by omega) h.c4, kept_cellB hb (by omega) h.c5, (hb.block _ hB).trans h.res⟩
theorem numAt_new {w : World} {x : NV} {T : TypeId} : NumAt w x ((w.alloc (.cells #[.int .i64 x.C, .int .i64 x.D, .int .i64 x.T, .int .i64 x.P, .int .i64 x.K, .slice x.a x.us.length x.c] T)).alloc (.cells #[.int .i64 0, .int .i64 0, .int .i64 0, .int .i64 0, .int .i64 0, .slice none 0 0, .slice none 0 0] TT)) := by
  refine ⟨(by repeat (first | exact Below.refl _ _ | (with_reducible assumption) | refine bw_alloc ?_ _ | refine bw_drew ?_)), (new_first w _ _ _ 0).trans rfl, (new_first w _ _ _ 1).trans rfl, (new_first w _ _ _ 2).trans rfl, (new_first w _ _ _ 3).trans rfl, (new_first w _ _ _ 4).trans rfl, (new_first w _ _ _ 5).trans rfl, ?_⟩
  have := heap_alloc_new (w.alloc (.cells #[.int .i64 x.C, .int .i64 x.D, .int .i64 x.T, .int .i64 x.P, .int .i64 x.K, .slice x.a x.us.length x.c] T)) (.cells #[.int .i64 0, .int .i64 0, .int .i64 0, .int .i64 0, .int .i64 0, .slice none 0 0, .slice none 0 0] TT)
  rwa [World.size_alloc] at this

/-- A task that is being made, in a box of its own. -/
structure TaskAt (w : World) (x : NV) (g : Nat) (id c d t p : Int) (v1 : Value) (R1 : List Int) (v2 : Value) (R2 : List Int) (W : World) : Prop where
  num : NumAt w x W
  gl : w.heap.size + 1 < g
  box : W.heap[g]? = some (.cells #[.int .i64 id, .int .i64 c, .int .i64 d, .int .i64 t, .int .i64 p, v1, v2] TT (0, 0))
  own1 : OwnI W 2 (g + 1) v1 R1
  own2 : OwnI W 3 (g + 1) v2 R2
theorem TaskAt.below {w W W' : World} {x : NV} {g : Nat} {id c d t p : Int} {v1 v2 : Value} {R1 R2 : List Int} (h : TaskAt w x g id c d t p v1 R1 v2 R2 W) (hb : Below W.heap.size W W') : TaskAt w x g id c d t p v1 R1 v2 R2 W' :=
  ⟨h.num.below hb, h.gl, kept_obj hb h.box, h.own1.below hb, h.own2.below hb⟩
theorem OwnI.set {w : World} {e : TypeId} {B : Nat} {v : Value} {l : List Int} (h : OwnI w e B v l) {a : Addr} (ha : a.block < B) (u : Value) : OwnI (w.setCell a u) e B v l := ownsRow_setCell_below h ha u
theorem own_set7 {w : World} {e : TypeId} {B b : Nat} {v : Value} {l : List Int} (h : OwnI w e B v l) (hb : b < B) (x0 x1 x2 x3 x4 x5 x6 : Value) : OwnI ((((((((w.setCell ⟨b, 0, none⟩ x0).setCell ⟨b, 1, none⟩ x1).setCell ⟨b, 2, none⟩ x2).setCell ⟨b, 3, none⟩ x3).setCell ⟨b, 4, none⟩ x4).setCell ⟨b, 5, none⟩ x5).setCell ⟨b, 6, none⟩ x6)) e B v l := by
  have h0 := h.set (a := ⟨b, 0, none⟩) hb x0
  have h1 := h0.set (a := ⟨b, 1, none⟩) hb x1
  have h2 := h1.set (a := ⟨b, 2, none⟩) hb x2
  have h3 := h2.set (a := ⟨b, 3, none⟩) hb x3
  have h4 := h3.set (a := ⟨b, 4, none⟩) hb x4
  have h5 := h4.set (a := ⟨b, 5, none⟩) hb x5
  exact h5.set (a := ⟨b, 6, none⟩) hb x6
theorem below_set7 {W w : World} {B b : Nat} (h : Below B W w) (hb : B ≤ b) (x0 x1 x2 x3 x4 x5 x6 : Value) : Below B W ((((((((w.setCell ⟨b, 0, none⟩ x0).setCell ⟨b, 1, none⟩ x1).setCell ⟨b, 2, none⟩ x2).setCell ⟨b, 3, none⟩ x3).setCell ⟨b, 4, none⟩ x4).setCell ⟨b, 5, none⟩ x5).setCell ⟨b, 6, none⟩ x6)) := by
  have h0 := h.setCell (p := ⟨b, 0, none⟩) hb x0
  have h1 := h0.setCell (p := ⟨b, 1, none⟩) hb x1
  have h2 := h1.setCell (p := ⟨b, 2, none⟩) hb x2
  have h3 := h2.setCell (p := ⟨b, 3, none⟩) hb x3
  have h4 := h3.setCell (p := ⟨b, 4, none⟩) hb x4
  have h5 := h4.setCell (p := ⟨b, 5, none⟩) hb x5
  exact h5.setCell (p := ⟨b, 6, none⟩) hb x6
theorem NumAt.set {w W : World} {x : NV} (h : NumAt w x W) {g o : Nat} (hg : w.heap.size + 1 < g) (u : Value) : NumAt w x (W.setCell ⟨g, o, none⟩ u) :=
  h.belowB (B := g) hg ((Below.refl _ _).setCell (p := ⟨g, o, none⟩) (Nat.le_refl _) u)
theorem TaskAt.push1 {w W w3 : World} {x : NV} {g : Nat} {id c d t p : Int} {v1 v' : Value} {R1 R' : List Int} (h : TaskAt w x g id c d t p v1 R1 (.slice none 0 0) [] W) (hg : W.grownBy w3 v1.ownBlock) (ho : OwnI w3 2 (g + 1) v' R') :
    TaskAt w x g id c d t p v' R' (.slice none 0 0) [] (w3.setCell ⟨g, 5, none⟩ v') ∧ w3.cell? ⟨g, 5, none⟩ = some v1 ∧ w3.frozen? ⟨g, 5, none⟩ = false := by
  have hs : g + 1 ≤ W.heap.size := lt_of_block h.box
  have hb : Below (g + 1) W w3 := (Below.refl _ W).grown hg hs (fun k hk => (h.own1.new hk).1)
  have h3 := kept_objB hb (by omega) h.box
  exact ⟨⟨(h.num.belowB (by have := h.gl; omega) hb).set h.gl _, h.gl, (blk_set h3 _).trans rfl, ho.set (by simp) _, OwnI.nil _ _ _⟩, by rw [blk_cell h3]; rfl, blk_free h3 5⟩
theorem TaskAt.push2 {w W w3 : World} {x : NV} {g : Nat} {id c d t p : Int} {v1 v2 v' : Value} {R1 R2 R' : List Int} (h : TaskAt w x g id c d t p v1 R1 v2 R2 W) (hg : W.grownBy w3 v2.ownBlock) (ho : OwnI w3 3 (g + 1) v' R') :
    TaskAt w x g id c d t p v1 R1 v' R' (w3.setCell ⟨g, 6, none⟩ v') ∧ w3.cell? ⟨g, 6, none⟩ = some v2 ∧ w3.frozen? ⟨g, 6, none⟩ = false := by
  have hs : g + 1 ≤ W.heap.size := lt_of_block h.box
  have hb : Below (g + 1) W w3 := (Below.refl _ W).grown hg hs (fun k hk => (h.own2.new hk).1)
  have h3 := kept_objB hb (by omega) h.box
  have h1 : OwnI w3 2 (g + 1) v1 R1 := by
    rcases h.own1 with ⟨h0, q | ⟨k, cap, cur, e, hB, h3, r⟩⟩
    · exact ⟨h0, .inl q⟩
    · refine ⟨h0, .inr ⟨k, cap, cur, e, hB, ?_, r⟩⟩
      rw [hg.block k (lt_of_block h3) ?_]; exact h3
      intro z
      rcases h.own2 with ⟨_, q | ⟨k', cap', cur', e', hB', h3', _⟩⟩
      · rw [q.1] at z; cases z
      · rw [e'] at z
        simp [Value.ownBlock] at z
        subst z
        rw [h3] at h3'
        simp at h3'
  exact ⟨⟨(h.num.belowB (by have := h.gl; omega) hb).set h.gl _, h.gl, (blk_set h3 _).trans rfl, h1.set (by simp) _, ho.set (by simp) _⟩, by rw [blk_cell h3]; rfl, blk_free h3 6⟩
theorem taskAt_new {w W : World} {x : NV} {id c d t p : Int} (h : NumAt w x W) (hg : w.heap.size + 1 < W.heap.size) : TaskAt w x W.heap.size id c d t p (.slice none 0 0) [] (.slice none 0 0) [] (W.alloc (.cells #[.int .i64 id, .int .i64 c, .int .i64 d, .int .i64 t, .int .i64 p, .slice none 0 0, .slice none 0 0] TT)) :=
  ⟨h.below (by repeat (first | exact Below.refl _ _ | (with_reducible assumption) | refine bw_alloc ?_ _ | refine bw_drew ?_)), hg, heap_alloc_new W _, OwnI.nil _ _ _, OwnI.nil _ _ _⟩
/-- Chunks so far: from 1 on, of that sum. -/
def Chunks (R : List Int) (f : Int) : Prop := (∀ x ∈ R, 1 ≤ x) ∧ R.sum = f
theorem Chunks.push {R : List Int} {f k : Int} (h : Chunks R f) (hk : f < k) : Chunks (R ++ [k - f]) k := by
  refine ⟨fun x hx => ?_, ?_⟩
  · rcases List.mem_append.1 hx with q | q
    · exact h.1 x q
    · simp at q; omega
  · rw [List.sum_append, h.2]; simp; omega
theorem Chunks.len {R : List Int} {f : Int} (h : Chunks R f) (hf : 0 ≤ f) : (R.length : Int) ≤ f := fill_len R f hf (fill_sum R f h.1 h.2)
/-- The row lies in a block of numbers. -/
def IsI (w : World) (a : Option Addr) (l : List Int) : Prop := l = [] ∨ ∀ g o, a = some ⟨g, o, none⟩ → ∃ cs T fr, w.heap[g]? = some (.cells cs T fr) ∧ (T = 2 ∨ T = 3)
theorem IsI.below {w w' : World} {a : Option Addr} {l : List Int} (h : IsI w a l) (hb : Below w.heap.size w w') : IsI w' a l := by
  rcases h with h | h
  · exact .inl h
  · refine .inr fun g o e => ?_
    obtain ⟨cs, T, fr, h1, h2⟩ := h g o e
    exact ⟨cs, T, fr, kept_obj hb h1, h2⟩
theorem OwnI.isI {w : World} {e : TypeId} {B n c : Nat} {a : Option Addr} {l : List Int} (h : OwnI w e B (.slice a n c) l) (he : e = 2 ∨ e = 3) : IsI w a l := by
  rcases h.2 with ⟨h1, h0⟩ | ⟨g, cap, cur, h1, _, h3, _⟩
  · exact .inl (List.length_eq_zero_iff.1 h0)
  · refine .inr fun g' o e' => ?_
    cases h1; cases e'
    exact ⟨_, _, _, h3, he⟩
/-- The task that comes back. -/
def TaskBack (i sets : Int) (w : World) (e : Ending) (w' : World) : Prop :=
  ∃ y : TV, e = .returned (.agg #[.int .i64 y.id, .int .i64 y.c, .int .i64 y.d, .int .i64 y.t, .int .i64 y.p, .slice y.a1 y.ch.length y.c1, .slice y.a2 y.us.length y.c2]) ∧ y.ok w' ∧ Good i sets y ∧ Below w.heap.size w w' ∧ IsI w' y.a1 y.ch ∧ IsI w' y.a2 y.us

set_option maxRecDepth 100000 in
set_option maxHeartbeats 4000000 in
theorem task_any (x : NV) (i sets : Int) (hi : 0 ≤ i ∧ i < 6) (hs : 1 ≤ sets ∧ sets ≤ 8) (w : World) (hx : x.ok w) : Calls Try.prog 59 #[.agg #[.int .i64 x.C, .int .i64 x.D, .int .i64 x.T, .int .i64 x.P, .int .i64 x.K, .slice x.a x.us.length x.c], .int .i64 i, .int .i64 sets] w (TaskBack i sets w) := by
  have hz := zeroTask
  obtain ⟨j, hj, hj2⟩ := and7 x.T
  obtain ⟨t, ht, ht1, ht2⟩ := period j hj
  go_enter Try.func59, Try.ntmps59
  go_upto_region 1 with fail
  refine gen_world (NumAt w x) numAt_new ?_
  intro W1 hw1
  have H1 := Lib.hid hw1
  clear hw1
  go_upto_region 2 with fail
  have hcell : (W1.alloc (.cells #[.int .i64 4, .int .i64 5, .int .i64 6, .int .i64 8, .int .i64 10, .int .i64 12, .int .i64 20, .int .i64 24] 108)).cell? ⟨W1.heap.size, j, none⟩ = some (.int .i64 t) := by
    obtain ⟨g, o, e, h⟩ := (ints_block W1 [4, 5, 6, 8, 10, 12, 20, 24] 108).at_ ht
    cases e; rw [Nat.zero_add] at h; exact h
  refine gen_world (fun v => NumAt w x v ∧ v.cell? ⟨W1.heap.size, j, none⟩ = some (.int .i64 t)) ⟨H1.out.below (by repeat (first | exact Below.refl _ _ | (with_reducible assumption) | refine bw_alloc ?_ _ | refine bw_drew ?_)), hcell⟩ ?_
  intro W2 ⟨hw2, hcell2⟩
  clear hcell
  have H2 := Lib.hid hw2
  obtain ⟨_, c0, c1, c2, c3, c4, c5, _⟩ := hw2
  have hj1 : (j : Int) < 8 := by omega
  have hj0 : (0 : Int) ≤ (j : Int) := by omega
  have HT := Lib.hid ht
  clear ht
  obtain ⟨d, hd⟩ : ∃ d, restI x.D t = d := ⟨_, rfl⟩
  have R1 := Lib.hid (fun w => hd ▸ rest_any x.D t (by omega) (by omega) w)
  have hd0 : 0 ≤ d := by rw [← hd]; exact Int.emod_nonneg _ (by omega)
  have hd1 : d < t := by rw [← hd]; exact Int.emod_lt_of_pos _ (by omega)
  have hw1 : IntKind.i64.wrap (1 + d) = 1 + d := IntWalk.i64_in _ (by omega)
  obtain ⟨c, hc⟩ : ∃ c, restI x.C (1 + d) = c := ⟨_, rfl⟩
  have R2 := Lib.hid (fun w => hc ▸ rest_any x.C (1 + d) (by omega) (by omega) w)
  have hc0 : 0 ≤ c := by rw [← hc]; exact Int.emod_nonneg _ (by omega)
  have hc1 : c < 1 + d := by rw [← hc]; exact Int.emod_lt_of_pos _ (by omega)
  have hw2 : IntKind.i64.wrap (1 + c) = 1 + c := IntWalk.i64_in _ (by omega)
  obtain ⟨p, hp⟩ : ∃ p, restI x.P 9 = p := ⟨_, rfl⟩
  have R3 := Lib.hid (fun w => hp ▸ rest_any x.P 9 (by omega) (by omega) w)
  have hp0 : 0 ≤ p := by rw [← hp]; exact Int.emod_nonneg _ (by omega)
  have hp1 : p < 9 := by rw [← hp]; exact Int.emod_lt_of_pos _ (by omega)
  have hw3 : IntKind.i64.wrap (1 + p) = 1 + p := IntWalk.i64_in _ (by omega)
  have hw4 : IntKind.i64.wrap (10 * (1 + p)) = 10 * (1 + p) := IntWalk.i64_in _ (by omega)
  have hw5 : IntKind.i64.wrap (10 * (1 + p) + i) = 10 * (1 + p) + i := IntWalk.i64_in _ (by omega)
  have hw6 : IntKind.i64.wrap (i + 1) = i + 1 := IntWalk.i64_in _ (by omega)
  clear hd hc hp
  go_upto_region 6 with (first
    | (go_at_call 58; (with_reducible refine (R1.out _).mono ?_); rintro e w3 ⟨rfl, rfl⟩)
    | (go_at_call 58; (with_reducible refine (R2.out _).mono ?_); rintro e w3 ⟨rfl, rfl⟩)
    | (go_at_call 58; (with_reducible refine (R3.out _).mono ?_); rintro e w3 ⟨rfl, rfl⟩))
  have hgl0 : w.heap.size + 1 < W2.heap.size := lt_of_block H2.out.res
  refine gen_world (TaskAt w x W2.heap.size (i + 1) (1 + c) (1 + d) t (10 * (1 + p) + i) (.slice none 0 0) [] (.slice none 0 0) []) (taskAt_new H2.out hgl0) ?_
  intro W3 hw3s
  have H3 := Lib.hid hw3s
  have hp9 : (10 * (1 + p) + i - i) % 10 = 0 := by omega
  have hp10 : 10 ≤ 10 * (1 + p) + i := by omega
  have hp99 : 10 * (1 + p) + i ≤ 90 + i := by omega
  have HP9 := Lib.hid hp9
  have HM : Hid (∀ sx : Unit, IntKind.i64.wrap (i + 1) = i + 1) := fun _ => hw6
  have HX := Lib.hid hx
  have hcc : 1 ≤ 1 + c := by omega
  have hcd : 1 + c ≤ 1 + d := by omega
  have hdt : 1 + d ≤ t := by omega
  have HI : Hid (i + 1 = i + 1) := rfl
  clear hw3s hw1 hw2 hw3 hw4 hw5 hw6 hp9 HT hcell2 c0 c1 c2 c3 c4 c5 R1 R2 R3 hj0 hj1 hj2 hj hx hc0 hc1 hd0 hd1 hp0 hp1 H1 H2
  generalize 1 + c = C at *
  generalize 1 + d = D at *
  generalize 10 * (1 + p) + i = P at *
  generalize W2.heap.size = g at *
  clear hgl0
  go_wp2_with fail
  go_loopw [12, 13] (fun u v wr => ∃ (f k : Int) (v1 : Value) (R1 : List Int), 1 ≤ k ∧ k ≤ C ∧ 0 ≤ f ∧ f < k ∧ v = .int .i64 k ∧ u = .int .i64 f ∧ Hid (Chunks R1 f) ∧ Hid (TaskAt w x g (i + 1) C D t P v1 R1 (.slice none 0 0) [] wr)) (fun _ v _ => (C - intOf v).toNat)
  case atStart => exact ⟨0, 1, _, [], by omega, hcc, by omega, by omega, rfl, rfl, ⟨(fun x hx => by cases hx), rfl⟩, H3⟩
  case round =>
    obtain ⟨f, k, v1, R1, hk1, hkC, hf0, hfk, rfl, rfl, HC, HP⟩ := hrel
    clear H3
    have c4 := HP.out.num.c4
    have b5 : wr.cell? ⟨g, 5, none⟩ = some v1 := by rw [blk_cell HP.out.box]; rfl
    have hgw : g < wr.heap.size := lt_of_block HP.out.box
    by_cases hlt : k < C
    · have hu : IntKind.u64.wrap k = k := by rw [IntKind.wrap_u64]; omega
      have hk24 : k ≤ 64 := by omega
      have hk0 : 0 ≤ k := by omega
      have hku : k ≤ 18446744073709551615 := by omega
      obtain ⟨q, hq⟩ : ∃ q, bits .and .i64 (x.K / 2 ^ k.toNat) 1 = q := ⟨_, rfl⟩
      by_cases hq1 : q = 1
      · obtain ⟨a5, cp5, rfl, _⟩ := HP.out.own1.slice
        have HLN := Lib.hid (HC.out.len hf0)
        have HSM : Hid (((R1.length : Int) + ((1 : Nat) : Int)) ≤ 17592186044416) := by show _ ≤ _; have := HLN.out; omega
        have HSZ : Hid (g + 1 ≤ (wr.alloc (.cells #[.int .i64 (k - f)] 2)).heap.size) := by show _ ≤ _; rw [World.size_alloc]; omega
        have HW : Hid (IntKind.i64.wrap (k - f) = k - f) := IntWalk.i64_in _ (by omega)
        have HC2 := Lib.hid (HC.out.push hfk)
        have d1 : (q == 1) = true := by rw [beq_iff_eq]; exact hq1
        have hkk : k < k + 1 := by omega
        have hk2 : k + 1 ≤ C := by omega
        have hk3 : 1 ≤ k + 1 := by omega
        have HMS : Hid ((C - (k + 1)).toNat < (C - k).toNat) := by show _ < _; omega
        have HW1 : Hid (IntKind.i64.wrap (k + 1) = k + 1) := IntWalk.i64_in _ (by omega)
        clear hq1
        have hw := HW.out
        have hw1 := HW1.out
        go_wp2_with (at_builtin; refine wp_ints (m := 1) (l := [k - f]) numL rfl _ _ rfl rfl rfl (HP.out.below (by repeat (first | exact Below.refl _ _ | (with_reducible assumption) | refine bw_alloc ?_ _ | refine bw_drew ?_))).own1 HSZ.out (ints_new _ _ _) rfl HSM.out (fun z => by cases z) (R1.length + 1) rfl ?_; intro a3 k3 w3 o3 g3 l3; obtain ⟨hn, z1, z2⟩ := (HP.out.below (by repeat (first | exact Below.refl _ _ | (with_reducible assumption) | refine bw_alloc ?_ _ | refine bw_drew ?_))).push1 g3 o3; have HN := Lib.hid hn; clear hn o3 g3 l3)
        go_roundw
        case rel => exact ⟨k, k + 1, _, R1 ++ [k - f], hk3, hk2, hk0, hkk, by first | rfl | (rw [hw1]), rfl, HC2, HN⟩
        case measure => simp only [intOf]; exact HMS.out
      · have d1 : (q == 1) = false := by rw [beq_eq_false_iff_ne]; exact hq1
        have hfk2 : f < k + 1 := by omega
        have hk2 : k + 1 ≤ C := by omega
        have hk3 : 1 ≤ k + 1 := by omega
        have HMS : Hid ((C - (k + 1)).toNat < (C - k).toNat) := by show _ < _; omega
        have HW1 : Hid (IntKind.i64.wrap (k + 1) = k + 1) := IntWalk.i64_in _ (by omega)
        clear hq1
        have hw1 := HW1.out
        go_wp2_with fail
        go_roundw
        case rel => exact ⟨f, k + 1, _, R1, hk3, hk2, hf0, hfk2, by first | rfl | (rw [hw1]), rfl, HC, HP⟩
        case measure => simp only [intOf]; exact HMS.out
    · go_upto_region 13 with fail
      obtain rfl : C = k := by omega
      by_cases hf : 0 < f
      · obtain ⟨a5, cp5, rfl, _⟩ := HP.out.own1.slice
        have HLN := Lib.hid (HC.out.len hf0)
        have HSM : Hid (((R1.length : Int) + ((1 : Nat) : Int)) ≤ 17592186044416) := by show _ ≤ _; have := HLN.out; omega
        have HSZ : Hid (g + 1 ≤ (wr.alloc (.cells #[.int .i64 (C - f)] 2)).heap.size) := by show _ ≤ _; rw [World.size_alloc]; omega
        have HW : Hid (IntKind.i64.wrap (C - f) = C - f) := IntWalk.i64_in _ (by omega)
        have HC2 := Lib.hid (HC.out.push hfk)
        have hw := HW.out
        go_upto_region 16 with (at_builtin; refine wp_ints (m := 1) (l := [C - f]) numL rfl _ _ rfl rfl rfl (HP.out.below (by repeat (first | exact Below.refl _ _ | (with_reducible assumption) | refine bw_alloc ?_ _ | refine bw_drew ?_))).own1 HSZ.out (ints_new _ _ _) rfl HSM.out (fun z => by cases z) (R1.length + 1) rfl ?_; intro a3 k3 w3 o3 g3 l3; obtain ⟨hn, z1, z2⟩ := (HP.out.below (by repeat (first | exact Below.refl _ _ | (with_reducible assumption) | refine bw_alloc ?_ _ | refine bw_drew ?_))).push1 g3 o3; have HQ := Lib.hid hn; clear hn o3 g3 l3)
        have HCH : Hid (R1 ++ [C - f] = [] ∨ fillB (R1 ++ [C - f]) C = true) := .inr (fill_sum _ _ HC2.out.1 HC2.out.2)
        clear HP HC HC2 HLN HSM HSZ hw HW b5 c4 z1 z2
        generalize R1 ++ [C - f] = R1 at *
        generalize Value.slice a3 _ k3 = v1 at *
        obtain ⟨m, hm⟩ : ∃ m, m = min x.us.length 5 := ⟨_, rfl⟩
        have hm1 : m ≤ x.us.length := by omega
        have hm5 : m ≤ 5 := by omega
        have hor : m = x.us.length ∨ (m = 5 ∧ 5 < x.us.length) := by omega
        have hul : (x.us.length : Int) ≤ 9223372036854775807 := by have := HX.out.le; have := HX.out.small; omega
        have HOR := Lib.hid hor
        clear hm hor
        go_loopw [14] (fun u wr => ∃ (k : Nat) (v2 : Value) (R2 : List Int), k ≤ m ∧ u = .int .i64 k ∧ Hid (R2.length = k) ∧ Hid (∀ u ∈ R2, 0 ≤ u ∧ u < sets) ∧ Hid (TaskAt w x g (i + 1) C D t P v1 R1 v2 R2 wr)) (fun u _ => (m - intOf u).toNat)
        case atStart => exact ⟨0, _, [], by omega, rfl, rfl, (fun u hu => by cases hu), HQ⟩
        case round =>
          obtain ⟨k, v2, R2, hk, rfl, HR2, HU, HP⟩ := hrel
          clear HQ
          have c5 := HP.out.num.c5
          have b6 : wr.cell? ⟨g, 6, none⟩ = some v2 := by rw [blk_cell HP.out.box]; rfl
          have hgw : g < wr.heap.size := lt_of_block HP.out.box
          by_cases hlt : k < m
          · obtain ⟨u, hu⟩ := nth_of (rfl : x.us.length = x.us.length) (show k < x.us.length by omega)
            obtain ⟨g', o', ea, z0⟩ := (HX.out.row.below HP.out.num.low).at_ hu
            have hk1 : (k : Int) < (x.us.length : Int) := by omega
            have hk5 : (k : Int) < 5 := by omega
            have hk0 : (0 : Int) ≤ (k : Int) := by omega
            obtain ⟨r, hr⟩ : ∃ r, restI u sets = r := ⟨_, rfl⟩
            have R4 := Lib.hid (fun w => hr ▸ rest_any u sets (by omega) (by omega) w)
            have HRR : Hid (0 ≤ r ∧ r < sets) := by
              show _ ∧ _
              rw [← hr]; exact ⟨Int.emod_nonneg _ (by omega), Int.emod_lt_of_pos _ (by omega)⟩
            rw [ea] at c5
            obtain ⟨a6, cp6, rfl, _⟩ := HP.out.own2.slice
            rw [HR2.out] at b6
            have HPK : Hid (TaskAt w x g (i + 1) C D t P v1 R1 (.slice a6 k cp6) R2 wr) := by
              have := HP.out; rw [HR2.out] at this; exact this
            have HSM : Hid (((R2.length : Int) + ((1 : Nat) : Int)) ≤ 17592186044416) := by show _ ≤ _; have := HR2.out; omega
            have HSZ : Hid (g + 1 ≤ wr.heap.size) := hgw
            have HNN : Hid (R2.length + 1 = k + 1) := by show _ = _; rw [HR2.out]
            have HU2 : Hid (∀ u ∈ R2 ++ [r], 0 ≤ u ∧ u < sets) := fun u hu => by
              rcases List.mem_append.1 hu with q | q
              · exact HU.out u q
              · simp at q; rw [q]; exact HRR.out
            have HL2 : Hid ((R2 ++ [r]).length = k + 1) := by show _ = _; rw [List.length_append, HR2.out]; rfl
            clear hr hu HP HU ea
            go_upto_region 18 with fail
            go_region_law (first
              | (refine step_ints (m := 1) (l := [r]) numI rfl (.tmp 87) (.tmp 95) rfl (by rfl) (by rfl) (HPK.out.below (by repeat (first | exact Below.refl _ _ | (with_reducible assumption) | refine bw_alloc ?_ _ | refine bw_drew ?_))).own2 (Nat.le_trans HSZ.out ((by repeat (first | exact Below.refl _ _ | (with_reducible assumption) | refine bw_alloc ?_ _ | refine bw_drew ?_)) : Below wr.heap.size wr _).size) (by first | exact ints_new _ _ _ | exact (ints_new _ _ _).below (by repeat (first | exact Below.refl _ _ | (with_reducible assumption) | refine bw_alloc ?_ _ | refine bw_drew ?_))) rfl HSM.out (fun z => by cases z) (k + 1) HNN.out ?_
                 intro a3 k3 w3 o3 g3 l3
                 obtain ⟨hn, z1, z2⟩ := (HPK.out.below (by repeat (first | exact Below.refl _ _ | (with_reducible assumption) | refine bw_alloc ?_ _ | refine bw_drew ?_))).push2 g3 o3
                 have HN := Lib.hid hn
                 clear hn o3 g3 l3)
              | (go_simp; (with_reducible refine (R4.out _).mono ?_); rintro e w3 ⟨rfl, rfl⟩))
            all_goals
              go_wp2
              go_roundw
              case rel => exact ⟨k + 1, _, R2 ++ [r], by omega, by go_num, HL2, HU2, HN⟩
              case measure => simp [intOf]; omega
          · obtain rfl : m = k := by omega
            obtain ⟨a5, cp5, rfl, i5, l5, m5⟩ := HP.out.own1.slice
            obtain ⟨a6, cp6, rfl, i6, l6, m6⟩ := HP.out.own2.slice
            have HFIN : Hid (∀ x0 x1 x2 x3 x4 x5 x6, TaskBack i sets w (.returned (.agg #[.int .i64 (i + 1), .int .i64 C, .int .i64 D, .int .i64 t, .int .i64 P, .slice a5 R1.length cp5, .slice a6 R2.length cp6])) ((((((((wr.setCell ⟨w.heap.size + 1, 0, none⟩ x0).setCell ⟨w.heap.size + 1, 1, none⟩ x1).setCell ⟨w.heap.size + 1, 2, none⟩ x2).setCell ⟨w.heap.size + 1, 3, none⟩ x3).setCell ⟨w.heap.size + 1, 4, none⟩ x4).setCell ⟨w.heap.size + 1, 5, none⟩ x5).setCell ⟨w.heap.size + 1, 6, none⟩ x6))) := by
              intro x0 x1 x2 x3 x4 x5 x6
              have hlow := HP.out.num.low
              have hb : Below w.heap.size w ((((((((wr.setCell ⟨w.heap.size + 1, 0, none⟩ x0).setCell ⟨w.heap.size + 1, 1, none⟩ x1).setCell ⟨w.heap.size + 1, 2, none⟩ x2).setCell ⟨w.heap.size + 1, 3, none⟩ x3).setCell ⟨w.heap.size + 1, 4, none⟩ x4).setCell ⟨w.heap.size + 1, 5, none⟩ x5).setCell ⟨w.heap.size + 1, 6, none⟩ x6)) := below_set7 hlow (Nat.le_succ _) x0 x1 x2 x3 x4 x5 x6
              have hg9 := HP.out.gl
              have o1 : OwnI ((((((((wr.setCell ⟨w.heap.size + 1, 0, none⟩ x0).setCell ⟨w.heap.size + 1, 1, none⟩ x1).setCell ⟨w.heap.size + 1, 2, none⟩ x2).setCell ⟨w.heap.size + 1, 3, none⟩ x3).setCell ⟨w.heap.size + 1, 4, none⟩ x4).setCell ⟨w.heap.size + 1, 5, none⟩ x5).setCell ⟨w.heap.size + 1, 6, none⟩ x6)) 2 (g + 1) (.slice a5 R1.length cp5) R1 := own_set7 HP.out.own1 (Nat.lt_succ_of_lt hg9) x0 x1 x2 x3 x4 x5 x6
              have o2 : OwnI ((((((((wr.setCell ⟨w.heap.size + 1, 0, none⟩ x0).setCell ⟨w.heap.size + 1, 1, none⟩ x1).setCell ⟨w.heap.size + 1, 2, none⟩ x2).setCell ⟨w.heap.size + 1, 3, none⟩ x3).setCell ⟨w.heap.size + 1, 4, none⟩ x4).setCell ⟨w.heap.size + 1, 5, none⟩ x5).setCell ⟨w.heap.size + 1, 6, none⟩ x6)) 3 (g + 1) (.slice a6 R2.length cp6) R2 := own_set7 HP.out.own2 (Nat.lt_succ_of_lt hg9) x0 x1 x2 x3 x4 x5 x6
              obtain ⟨a5', cp5', e5, i5, l5, m5⟩ := o1.slice
              cases e5
              obtain ⟨a6', cp6', e6, i6, l6, m6⟩ := o2.slice
              cases e6
              exact ⟨⟨i + 1, C, D, t, P, a5, R1, cp5, a6, R2, cp6⟩, rfl, ⟨i5, i6, l5, m5, l6, m6⟩, ⟨rfl, hcc, hcd, hdt, ht2, hp10, hp99, HP9.out, HCH.out, HU.out, by have := HR2.out; show R2.length ≤ 5; omega⟩, hb, o1.isI (.inl rfl), o2.isI (.inr rfl)⟩
            have hr1 : w.heap.size + 1 < wr.heap.size := lt_of_block HP.out.num.res
            have b0 : wr.cell? ⟨g, 0, none⟩ = some (.int .i64 (i + 1)) := by rw [blk_cell HP.out.box]; rfl
            have b1 : wr.cell? ⟨g, 1, none⟩ = some (.int .i64 C) := by rw [blk_cell HP.out.box]; rfl
            have b2 : wr.cell? ⟨g, 2, none⟩ = some (.int .i64 D) := by rw [blk_cell HP.out.box]; rfl
            have b3 : wr.cell? ⟨g, 3, none⟩ = some (.int .i64 t) := by rw [blk_cell HP.out.box]; rfl
            have b4 : wr.cell? ⟨g, 4, none⟩ = some (.int .i64 P) := by rw [blk_cell HP.out.box]; rfl
            have b5 : wr.cell? ⟨g, 5, none⟩ = some (.slice a5 R1.length cp5) := by rw [blk_cell HP.out.box]; rfl
            have r0 : wr.cell? ⟨w.heap.size + 1, 0, none⟩ = some (.int .i64 0) := by rw [blk_cell HP.out.num.res]; rfl
            have r1 : wr.cell? ⟨w.heap.size + 1, 1, none⟩ = some (.int .i64 0) := by rw [blk_cell HP.out.num.res]; rfl
            have r2 : wr.cell? ⟨w.heap.size + 1, 2, none⟩ = some (.int .i64 0) := by rw [blk_cell HP.out.num.res]; rfl
            have r3 : wr.cell? ⟨w.heap.size + 1, 3, none⟩ = some (.int .i64 0) := by rw [blk_cell HP.out.num.res]; rfl
            have r4 : wr.cell? ⟨w.heap.size + 1, 4, none⟩ = some (.int .i64 0) := by rw [blk_cell HP.out.num.res]; rfl
            have r5 : wr.cell? ⟨w.heap.size + 1, 5, none⟩ = some (.slice none 0 0) := by rw [blk_cell HP.out.num.res]; rfl
            have r6 : wr.cell? ⟨w.heap.size + 1, 6, none⟩ = some (.slice none 0 0) := by rw [blk_cell HP.out.num.res]; rfl
            have f0 := blk_free HP.out.num.res 0
            have f1 := blk_free HP.out.num.res 1
            have f2 := blk_free HP.out.num.res 2
            have f3 := blk_free HP.out.num.res 3
            have f4 := blk_free HP.out.num.res 4
            have f5 := blk_free HP.out.num.res 5
            have f6 := blk_free HP.out.num.res 6
            have q1 : ¬ ((m : Int) < (x.us.length : Int)) ∨ ((m : Int) < (x.us.length : Int) ∧ ¬ ((m : Int) < 5)) := by
              rcases HOR.out with h | ⟨h1, h2⟩
              · left; omega
              · right; omega
            clear HCH HU
            rcases q1 with q1 | ⟨q1, q2⟩
            all_goals
              go_wp2_with fail
              exact bodyPost_ret (v := .agg #[.int .i64 (i + 1), .int .i64 C, .int .i64 D, .int .i64 t, .int .i64 P, .slice a5 R1.length cp5, .slice a6 R2.length cp6]) (by simp [results, Try.results59, go_sem, r0, r1, r2, r3, r4, r5, r6]) rfl (HFIN.out _ _ _ _ _ _ _)
      · obtain rfl : f = 0 := by omega
        have HCH : Hid (R1 = [] ∨ fillB R1 C = true) := .inl (List.length_eq_zero_iff.1 (by have := HC.out.len (Int.le_refl 0); omega))
        have HQ := HP
        go_upto_region 16 with fail
        clear HP HC b5 c4
        obtain ⟨m, hm⟩ : ∃ m, m = min x.us.length 5 := ⟨_, rfl⟩
        have hm1 : m ≤ x.us.length := by omega
        have hm5 : m ≤ 5 := by omega
        have hor : m = x.us.length ∨ (m = 5 ∧ 5 < x.us.length) := by omega
        have hul : (x.us.length : Int) ≤ 9223372036854775807 := by have := HX.out.le; have := HX.out.small; omega
        have HOR := Lib.hid hor
        clear hm hor
        go_loopw [14] (fun u wr => ∃ (k : Nat) (v2 : Value) (R2 : List Int), k ≤ m ∧ u = .int .i64 k ∧ Hid (R2.length = k) ∧ Hid (∀ u ∈ R2, 0 ≤ u ∧ u < sets) ∧ Hid (TaskAt w x g (i + 1) C D t P v1 R1 v2 R2 wr)) (fun u _ => (m - intOf u).toNat)
        case atStart => exact ⟨0, _, [], by omega, rfl, rfl, (fun u hu => by cases hu), HQ⟩
        case round =>
          obtain ⟨k, v2, R2, hk, rfl, HR2, HU, HP⟩ := hrel
          clear HQ
          have c5 := HP.out.num.c5
          have b6 : wr.cell? ⟨g, 6, none⟩ = some v2 := by rw [blk_cell HP.out.box]; rfl
          have hgw : g < wr.heap.size := lt_of_block HP.out.box
          by_cases hlt : k < m
          · obtain ⟨u, hu⟩ := nth_of (rfl : x.us.length = x.us.length) (show k < x.us.length by omega)
            obtain ⟨g', o', ea, z0⟩ := (HX.out.row.below HP.out.num.low).at_ hu
            have hk1 : (k : Int) < (x.us.length : Int) := by omega
            have hk5 : (k : Int) < 5 := by omega
            have hk0 : (0 : Int) ≤ (k : Int) := by omega
            obtain ⟨r, hr⟩ : ∃ r, restI u sets = r := ⟨_, rfl⟩
            have R4 := Lib.hid (fun w => hr ▸ rest_any u sets (by omega) (by omega) w)
            have HRR : Hid (0 ≤ r ∧ r < sets) := by
              show _ ∧ _
              rw [← hr]; exact ⟨Int.emod_nonneg _ (by omega), Int.emod_lt_of_pos _ (by omega)⟩
            rw [ea] at c5
            obtain ⟨a6, cp6, rfl, _⟩ := HP.out.own2.slice
            rw [HR2.out] at b6
            have HPK : Hid (TaskAt w x g (i + 1) C D t P v1 R1 (.slice a6 k cp6) R2 wr) := by
              have := HP.out; rw [HR2.out] at this; exact this
            have HSM : Hid (((R2.length : Int) + ((1 : Nat) : Int)) ≤ 17592186044416) := by show _ ≤ _; have := HR2.out; omega
            have HSZ : Hid (g + 1 ≤ wr.heap.size) := hgw
            have HNN : Hid (R2.length + 1 = k + 1) := by show _ = _; rw [HR2.out]
            have HU2 : Hid (∀ u ∈ R2 ++ [r], 0 ≤ u ∧ u < sets) := fun u hu => by
              rcases List.mem_append.1 hu with q | q
              · exact HU.out u q
              · simp at q; rw [q]; exact HRR.out
            have HL2 : Hid ((R2 ++ [r]).length = k + 1) := by show _ = _; rw [List.length_append, HR2.out]; rfl
            clear hr hu HP HU ea
            go_upto_region 18 with fail
            go_region_law (first
              | (refine step_ints (m := 1) (l := [r]) numI rfl (.tmp 87) (.tmp 95) rfl (by rfl) (by rfl) (HPK.out.below (by repeat (first | exact Below.refl _ _ | (with_reducible assumption) | refine bw_alloc ?_ _ | refine bw_drew ?_))).own2 (Nat.le_trans HSZ.out ((by repeat (first | exact Below.refl _ _ | (with_reducible assumption) | refine bw_alloc ?_ _ | refine bw_drew ?_)) : Below wr.heap.size wr _).size) (by first | exact ints_new _ _ _ | exact (ints_new _ _ _).below (by repeat (first | exact Below.refl _ _ | (with_reducible assumption) | refine bw_alloc ?_ _ | refine bw_drew ?_))) rfl HSM.out (fun z => by cases z) (k + 1) HNN.out ?_
                 intro a3 k3 w3 o3 g3 l3
                 obtain ⟨hn, z1, z2⟩ := (HPK.out.below (by repeat (first | exact Below.refl _ _ | (with_reducible assumption) | refine bw_alloc ?_ _ | refine bw_drew ?_))).push2 g3 o3
                 have HN := Lib.hid hn
                 clear hn o3 g3 l3)
              | (go_simp; (with_reducible refine (R4.out _).mono ?_); rintro e w3 ⟨rfl, rfl⟩))
            all_goals
              go_wp2
              go_roundw
              case rel => exact ⟨k + 1, _, R2 ++ [r], by omega, by go_num, HL2, HU2, HN⟩
              case measure => simp [intOf]; omega
          · obtain rfl : m = k := by omega
            obtain ⟨a5, cp5, rfl, i5, l5, m5⟩ := HP.out.own1.slice
            obtain ⟨a6, cp6, rfl, i6, l6, m6⟩ := HP.out.own2.slice
            have HFIN : Hid (∀ x0 x1 x2 x3 x4 x5 x6, TaskBack i sets w (.returned (.agg #[.int .i64 (i + 1), .int .i64 C, .int .i64 D, .int .i64 t, .int .i64 P, .slice a5 R1.length cp5, .slice a6 R2.length cp6])) ((((((((wr.setCell ⟨w.heap.size + 1, 0, none⟩ x0).setCell ⟨w.heap.size + 1, 1, none⟩ x1).setCell ⟨w.heap.size + 1, 2, none⟩ x2).setCell ⟨w.heap.size + 1, 3, none⟩ x3).setCell ⟨w.heap.size + 1, 4, none⟩ x4).setCell ⟨w.heap.size + 1, 5, none⟩ x5).setCell ⟨w.heap.size + 1, 6, none⟩ x6))) := by
              intro x0 x1 x2 x3 x4 x5 x6
              have hlow := HP.out.num.low
              have hb : Below w.heap.size w ((((((((wr.setCell ⟨w.heap.size + 1, 0, none⟩ x0).setCell ⟨w.heap.size + 1, 1, none⟩ x1).setCell ⟨w.heap.size + 1, 2, none⟩ x2).setCell ⟨w.heap.size + 1, 3, none⟩ x3).setCell ⟨w.heap.size + 1, 4, none⟩ x4).setCell ⟨w.heap.size + 1, 5, none⟩ x5).setCell ⟨w.heap.size + 1, 6, none⟩ x6)) := below_set7 hlow (Nat.le_succ _) x0 x1 x2 x3 x4 x5 x6
              have hg9 := HP.out.gl
              have o1 : OwnI ((((((((wr.setCell ⟨w.heap.size + 1, 0, none⟩ x0).setCell ⟨w.heap.size + 1, 1, none⟩ x1).setCell ⟨w.heap.size + 1, 2, none⟩ x2).setCell ⟨w.heap.size + 1, 3, none⟩ x3).setCell ⟨w.heap.size + 1, 4, none⟩ x4).setCell ⟨w.heap.size + 1, 5, none⟩ x5).setCell ⟨w.heap.size + 1, 6, none⟩ x6)) 2 (g + 1) (.slice a5 R1.length cp5) R1 := own_set7 HP.out.own1 (Nat.lt_succ_of_lt hg9) x0 x1 x2 x3 x4 x5 x6
              have o2 : OwnI ((((((((wr.setCell ⟨w.heap.size + 1, 0, none⟩ x0).setCell ⟨w.heap.size + 1, 1, none⟩ x1).setCell ⟨w.heap.size + 1, 2, none⟩ x2).setCell ⟨w.heap.size + 1, 3, none⟩ x3).setCell ⟨w.heap.size + 1, 4, none⟩ x4).setCell ⟨w.heap.size + 1, 5, none⟩ x5).setCell ⟨w.heap.size + 1, 6, none⟩ x6)) 3 (g + 1) (.slice a6 R2.length cp6) R2 := own_set7 HP.out.own2 (Nat.lt_succ_of_lt hg9) x0 x1 x2 x3 x4 x5 x6
              obtain ⟨a5', cp5', e5, i5, l5, m5⟩ := o1.slice
              cases e5
              obtain ⟨a6', cp6', e6, i6, l6, m6⟩ := o2.slice
              cases e6
              exact ⟨⟨i + 1, C, D, t, P, a5, R1, cp5, a6, R2, cp6⟩, rfl, ⟨i5, i6, l5, m5, l6, m6⟩, ⟨rfl, hcc, hcd, hdt, ht2, hp10, hp99, HP9.out, HCH.out, HU.out, by have := HR2.out; show R2.length ≤ 5; omega⟩, hb, o1.isI (.inl rfl), o2.isI (.inr rfl)⟩
            have hr1 : w.heap.size + 1 < wr.heap.size := lt_of_block HP.out.num.res
            have b0 : wr.cell? ⟨g, 0, none⟩ = some (.int .i64 (i + 1)) := by rw [blk_cell HP.out.box]; rfl
            have b1 : wr.cell? ⟨g, 1, none⟩ = some (.int .i64 C) := by rw [blk_cell HP.out.box]; rfl
            have b2 : wr.cell? ⟨g, 2, none⟩ = some (.int .i64 D) := by rw [blk_cell HP.out.box]; rfl
            have b3 : wr.cell? ⟨g, 3, none⟩ = some (.int .i64 t) := by rw [blk_cell HP.out.box]; rfl
            have b4 : wr.cell? ⟨g, 4, none⟩ = some (.int .i64 P) := by rw [blk_cell HP.out.box]; rfl
            have b5 : wr.cell? ⟨g, 5, none⟩ = some (.slice a5 R1.length cp5) := by rw [blk_cell HP.out.box]; rfl
            have r0 : wr.cell? ⟨w.heap.size + 1, 0, none⟩ = some (.int .i64 0) := by rw [blk_cell HP.out.num.res]; rfl
            have r1 : wr.cell? ⟨w.heap.size + 1, 1, none⟩ = some (.int .i64 0) := by rw [blk_cell HP.out.num.res]; rfl
            have r2 : wr.cell? ⟨w.heap.size + 1, 2, none⟩ = some (.int .i64 0) := by rw [blk_cell HP.out.num.res]; rfl
            have r3 : wr.cell? ⟨w.heap.size + 1, 3, none⟩ = some (.int .i64 0) := by rw [blk_cell HP.out.num.res]; rfl
            have r4 : wr.cell? ⟨w.heap.size + 1, 4, none⟩ = some (.int .i64 0) := by rw [blk_cell HP.out.num.res]; rfl
            have r5 : wr.cell? ⟨w.heap.size + 1, 5, none⟩ = some (.slice none 0 0) := by rw [blk_cell HP.out.num.res]; rfl
            have r6 : wr.cell? ⟨w.heap.size + 1, 6, none⟩ = some (.slice none 0 0) := by rw [blk_cell HP.out.num.res]; rfl
            have f0 := blk_free HP.out.num.res 0
            have f1 := blk_free HP.out.num.res 1
            have f2 := blk_free HP.out.num.res 2
            have f3 := blk_free HP.out.num.res 3
            have f4 := blk_free HP.out.num.res 4
            have f5 := blk_free HP.out.num.res 5
            have f6 := blk_free HP.out.num.res 6
            have q1 : ¬ ((m : Int) < (x.us.length : Int)) ∨ ((m : Int) < (x.us.length : Int) ∧ ¬ ((m : Int) < 5)) := by
              rcases HOR.out with h | ⟨h1, h2⟩
              · left; omega
              · right; omega
            clear HCH HU
            rcases q1 with q1 | ⟨q1, q2⟩
            all_goals
              go_wp2_with fail
              exact bodyPost_ret (v := .agg #[.int .i64 (i + 1), .int .i64 C, .int .i64 D, .int .i64 t, .int .i64 P, .slice a5 R1.length cp5, .slice a6 R2.length cp6]) (by simp [results, Try.results59, go_sem, r0, r1, r2, r3, r4, r5, r6]) rfl (HFIN.out _ _ _ _ _ _ _)
end Go.Proofs.Ytflemmmaakhahaa
