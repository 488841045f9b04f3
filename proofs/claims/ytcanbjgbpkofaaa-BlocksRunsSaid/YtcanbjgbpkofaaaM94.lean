/- Texts of this claim, put together: EGrow, EBr, EGrow2, BMore, EW2, EMost, EAll, CW5, CW6, CW2, CEq, EAwk, KW16, KW17. -/
import Derived.Test.YtcanbjgbpkofaaaM93
import Derived.RangeFuncWrites
import Derived.Deep.RegionHeldLaw
import Derived.Deep.RegionHeld3
import Derived.Deep.CutBlock
import Derived.Deep.CutRange
import Derived.Deep.DeepCutAuto
import Derived.Laws.CopyRow
import Derived.RangeFuncNested
import Derived.RangeFuncBound
import Derived.RangeFuncCalls
import Derived.RangeFuncLeaves
import Derived.RangeFuncBox
import Derived.Shelf.RegionOpen
import Derived.Laws.StructEq
set_option linter.unusedVariables false
set_option linter.unusedSimpArgs false

/-
  The walk over the row of sets that grows with the ticks that are told.
-/
namespace Go.Proofs.Ytcanbjgbpkofaaa
open Go.RowKit Go.Maps Go.Shelf
attribute [local go_sem] Oper.semAt_some

/-- The walk within a fence goes on in a world of which only so much is known. -/
theorem gen_worldI {F : Fence} {n : Nat} {P : Program} {c : Code} {Q : Exit → Act → World → Prop} {a : Act} {w : World} (S : World → Prop) (h : S w) (k : ∀ w', S w' → c.wpIn F n P Q a w') : c.wpIn F n P Q a w := k w h
/-- The row so far, wherever it lies. -/
def Grown (w0 : World) (bt br bf : Nat) (T : TV) (l : List Nat) (W : World) : Prop := (∃ a c, GrowAt w0 bt br bf T l a c W) ∧ l.length ≤ T.us.length
theorem GrowAt.own {w0 : World} {bt br bf : Nat} {T : TV} {l : List Nat} {a : Option Addr} {c : Nat} {B : Nat} {X Y : World} {row : Option Nat} (hB : w0.heap.size ≤ B) (h : GrowAt w0 bt br bf T l a c X) (hg : X.grownBy Y row) (hr : ∀ k, row = some k → B ≤ k ∧ ∃ o, X.heap[k]? = some o ∧ o.isCells = false) : GrowAt w0 bt br bf T l a c Y := by
  have e : ∀ (b : Nat) (cs : Array Value) (U : TypeId) (fr : Nat × Nat), X.heap[b]? = some (.cells cs U fr) → Y.heap[b]? = some (.cells cs U fr) := fun b cs U fr hb => by
    refine (hg.block b (lt_of_block hb) (fun e => ?_)).trans hb
    obtain ⟨_, o, ho, hc⟩ := hr b e.symm
    rw [hb] at ho
    cases ho
    cases hc
  refine ⟨h.low.grown hg h.low.size (fun k hk => Nat.le_trans hB (hr k hk).1), e _ _ _ _ h.tb, e _ _ _ _ h.fb, e _ _ _ _ h.rb, ?_, h.tr, h.fr, h.lr⟩
  rcases h.row with ⟨h0, q | ⟨g, cap, cur, q, hb, h3, r⟩⟩
  · exact ⟨h0, .inl q⟩
  · exact ⟨h0, .inr ⟨g, cap, cur, q, hb, e _ _ _ _ h3, r⟩⟩
theorem Grown.own {w0 : World} {bt br bf : Nat} {T : TV} {B : Nat} (hB : w0.heap.size ≤ B) : OwnFrom B (Grown w0 bt br bf T) := fun s X Y row ⟨⟨a, c, h⟩, hl⟩ hg hr =>
  ⟨⟨a, c, h.own hB hg hr⟩, hl⟩
/-- The row is whole: as many sets as a round takes. -/
def Full (w0 : World) (bt br bf : Nat) (T : TV) (c : Code) (l : List Nat) (W : World) : Prop := c = .exit 0 ∧ ∃ pre x, l = pre ++ [x] ∧ pre.length = T.us.length ∧ ∃ a c, GrowAt w0 bt br bf T pre a c W
theorem Full.own {w0 : World} {bt br bf : Nat} {T : TV} {B : Nat} (hB : w0.heap.size ≤ B) (c : Code) : OwnFrom B (Full w0 bt br bf T c) := fun s X Y row ⟨e, pre, x, hp, hl, a, c, h⟩ hg hr =>
  ⟨e, pre, x, hp, hl, a, c, h.own hB hg hr⟩
theorem turn_keeps {S : Nat → Prop} {B : Nat} {W W' : World} (h : Turn S W W') (hS : ∀ i, S i → ∀ o, W.heap[i]? = some o → o.isCells = true) : KeepsFrom B W W' :=
  ⟨h.size, fun k o _ ho hc => h.obj ho (fun q => by rw [hS k q o ho] at hc; cases hc)⟩
theorem turn_walks {S : Nat → Prop} {W W' : World} (h : Turn S W W') (hS : ∀ i, S i → ∀ o, W.heap[i]? = some o → o.isCells = true) : KeepsWalks W W' :=
  ⟨h.size, fun k o ho hw => h.obj ho (fun q => by have := hS k q o ho; rw [Obj.not_cells_of_walk hw] at this; cases this)⟩
/-- What comes back. -/
def GrowBack (T : TV) (ticks : List Nat) (w : World) (e : Ending) (w' : World) : Prop :=
  (∃ a c, e = .returned (.slice a (min ticks.length T.us.length + 1) c) ∧ SView w' a (rowsOf T.us (ticks.take T.us.length))) ∧ Below w.heap.size w w'
theorem made_own (w : World) (us : List Int) (n : Nat) (hn : n ≤ 5) : OwnS (w.alloc (.cells (madeCells #[.int .u64 0, .int .u64 0, .int .u64 0, .int .u64 0] ((1 + n) * 4)) ST4)) w.heap.size (.slice (some ⟨w.heap.size, 0, none⟩) 1 (1 + n)) (rowsOf us []) := by
  refine ⟨by rw [rows_nil]; rfl, .inr ⟨w.heap.size, 1 + n, _, rfl, Nat.le_refl _, heap_alloc_new w _, by rw [rows_nil]; simp, by unfold maxLen; omega, ?_, ?_⟩⟩
  · rw [size_madeCells]
  · rw [rows_nil]
    simp only [sflat, scells, wd_none]
    rcases (show n = 0 ∨ n = 1 ∨ n = 2 ∨ n = 3 ∨ n = 4 ∨ n = 5 by omega) with rfl | rfl | rfl | rfl | rfl | rfl <;> kernel_rfl
theorem sinfo4 : (Try.prog.info? ST4).map (fun i => (i.zero, i.size, i.bytes)) = some (some (.agg #[.int .u64 0, .int .u64 0, .int .u64 0, .int .u64 0]), 4, 32) := by kernel_rfl
theorem make_sets (n : Nat) (hn : n ≤ 5) (w : World) : (Instr.makeSlice 39 (.int .i64 1) (.int .i64 ((1 : Int) + n))).run Try.prog w = .ok (.slice (some ⟨w.heap.size, 0, none⟩) 1 (1 + n)) (w.alloc (.cells (madeCells #[.int .u64 0, .int .u64 0, .int .u64 0, .int .u64 0] ((1 + n) * 4)) ST4)) := by
  obtain ⟨i0, hi, hz0, hz1, hz2⟩ := info_parts sinfo4
  have h := run_make w 39 ST4 i0 _ Try.underlying39 hi hz0 .i64 .i64 1 (1 + n) (by omega) (by omega) (by rw [hz2]; omega) (by omega)
  have e : ((1 : Int) + (n : Int)).toNat = 1 + n := by omega
  rw [hz1, e] at h
  simpa [Value.cells] using h
end Go.Proofs.Ytcanbjgbpkofaaa

/-
  A region that draws its order, in a round of a range over a function.
-/
namespace Go.Proofs.Ytcanbjgbpkofaaa
open Go.RowKit Go.Maps

section
variable {P : Program} {ops : Array Oper} {Q : Exit → Act → World → Prop} {l n : Nat}
theorem rows_round {row : String} {args : Array Value} {w : World} {R R' : Value → World → Prop} (h : _root_.Go.Rows P row args w R) (hr : ∀ v w, R v w → R' v w) : RowsIn (Fence.wide.inRound l) n P row args w R' := fun c cs _ => by
  obtain ⟨v, w', h1, h2⟩ := h c cs
  exact ⟨v, w', hr _ _ h1, stepsIn_wide.2 h2⟩
theorem oper_round {o : Oper} {a : Act} {w : World} {K K' : Act → World → Prop} (hd : ∀ c, o.op ≠ .defer c) (hK : ∀ a w, K a w → K' a w) (hlo : ¬ LetsOut Q) (h : o.wp P a w K Q) : o.wpIn (Fence.wide.inRound l) n P a w K' Q := by
  refine ⟨fun _ _ => trivial, ?_⟩
  unfold Oper.wp at h
  rw [show (o.semAt (Fence.wide.inRound l).round a.eval) = execOp a.eval o from Oper.semAt_eq _ _ _ hd]
  generalize (execOp a.eval o).run P w = r at h ⊢
  cases r with
  | ok x w' =>
    cases x with
    | value v => exact hK _ _ h
    | skip => exact hK _ _ h
    | defer d => exact hK _ _ h
    | enter f args =>
      refine ⟨(fun z => by cases z), CallsIn.inRound l (callsIn_wide.2 (Calls.mono h fun e w'' he => ?_))⟩
      cases e with
      | returned v => exact hK _ _ he
      | panicked c => exact he
      | outgrown => exact absurd he hlo
    | row name args => exact ⟨(fun z => by cases z), rows_round h (fun _ _ => hK _ _)⟩
    | _ => exact h.elim
  | halt x w' =>
    cases x with
    | panic v => exact h
    | _ => exact h.elim
theorem any_round {md : Region.Mode} (hd : ∀ (i : Nat) (o : Oper), ops[i]? = some o → ∀ c, o.op ≠ .defer c) (hlo : ¬ LetsOut Q) : ∀ (fuel : Nat) (listed : Array Bool) (a : Act) (w : World), wpAny P md ops Q fuel listed a w → wpAnyIn (Fence.wide.inRound l) n P md ops Q fuel listed a w
  | 0, _, _, _, h => h
  | fuel + 1, listed, a, w, h => by
    refine ⟨h.1, fun i hi => ?_⟩
    have hs := h.2 i hi
    unfold wpOp at hs
    unfold wpOpIn
    cases ho : ops[i]? with
    | none =>
      rw [ho] at hs
      exact any_round hd hlo fuel _ a w hs
    | some o =>
      rw [ho] at hs
      simp only [] at hs ⊢
      split
      · rename_i hw
        rw [if_pos hw] at hs
        rcases hs with hs | ⟨_, hs⟩
        · exact oper_round (hd i o ho) (fun a w => any_round hd hlo fuel _ a w) hlo hs
        · exact absurd hs hlo
      · rename_i hw
        rw [if_neg hw] at hs
        exact ⟨fun _ _ => trivial, any_round hd hlo fuel _ _ w hs⟩
def noDefer (ops : Array Oper) : Bool := ops.all fun o => match o.op with
  | .defer _ => false
  | _ => true
theorem noDefer_spec (h : noDefer ops = true) : ∀ (i : Nat) (o : Oper), ops[i]? = some o → ∀ c, o.op ≠ .defer c := fun i o ho c e => by
  have h1 := Array.all_eq_true_iff_forall_mem.1 h o (Array.mem_of_getElem? ho)
  rw [e] at h1
  cases h1
theorem region_round {id : Nat} {a : Act} {w : World} (S : World → Prop) (hm : P.follows .mixedOrders = true) (hd : noDefer ops = true) (hlo : ¬ LetsOut Q)
    (h : wpAnyH P .any ops Q S ops.size (Array.replicate ops.size false) a w.drew) : (Code.region id ops true).wpIn (Fence.wide.inRound l) n P Q a w :=
  wpIn_region_any hm (any_round (noDefer_spec hd) hlo _ _ _ _ (wpAny_of_held _ _ _ _ h))
end
end Go.Proofs.Ytcanbjgbpkofaaa

/-
  The walk over the row of sets that grows: the loop over the ticks.
-/
namespace Go.Proofs.Ytcanbjgbpkofaaa
open Go.RowKit Go.Maps Go.Shelf
attribute [local go_sem] Oper.semAt_some make_sets

set_option maxRecDepth 100000 in
set_option maxHeartbeats 8000000 in
theorem growing_any {w : World} {T : TV} (hT : Told T) (hok : T.ok w) {ticks : List Nat} {gf : Nat} {lb : Array Value} {S : Nat → Prop} (hS : ∀ k, S k → k < w.heap.size) (ht : Tells gf lb S ticks w) (hgf : ∀ args w, (callFunc gf args).run Try.prog w = .ok (.enter gf args) w) :
    Calls Try.prog 26 #[.agg #[.int .i64 T.id, .int .i64 T.c, .int .i64 T.d, .int .i64 T.t, .int .i64 T.p, .slice T.a1 T.ch.length T.c1, .slice T.a2 T.us.length T.c2], .func (.func gf) #[] lb] w (GrowBack T ticks w) := by
  have TC := Lib.hid (fun w => told_any T hT w)
  have RC := Lib.hid (fun w => round_any T hT w)
  obtain ⟨N, hN⟩ : ∃ N, T.us.length = N := ⟨_, rfl⟩
  have HNE := Lib.hid hN
  have hn5 : N ≤ 5 := by have := hT.n5; omega
  have hmf : ∀ (fn : Fn) (first cap : Array Value) (w : World), (Instr.makeFunc fn first cap).run Try.prog w = .ok (.func fn first cap) w := fun _ _ _ _ => rfl
  have e1 : IntKind.i64.wrap ((1 : Int) + (N : Int)) = 1 + (N : Int) := IntWalk.i64_in _ (by omega)
  have mk := fun w => make_sets N hn5 w
  have HOK := Lib.hid hok
  have HTT := Lib.hid hT
  have HTE := Lib.hid ht
  have HSS := Lib.hid hS
  clear hT hok ht hS
  rw [hN] at TC RC ⊢
  refine (callsIn_wide (n := 3)).1 ?_
  refine callsIn_of_wp_marks Try.func26 rfl trivial ?_ rfl
  simp only [Try.ntmps26, List.size_toArray, List.length_cons, List.length_nil, Nat.reduceAdd, Nat.reduceSub, Array.replicate_succ, Array.replicate_zero, List.push_toArray, List.append_toArray, List.nil_append, List.cons_append]
  gi_wp2
  refine wpIn_wide.2 ?_
  refine wp_scope_straight ?_
  go_upto_region 3 with (go_at_call 34; (refine (TC.out _).mono ?_); rintro e w1 ⟨rfl, b1⟩; have HB1 := Lib.hid b1; have HT0 := Lib.hid (kept_obj b1 (heap_alloc_new w _)); clear b1)
  have c0 : w1.cell? ⟨w.heap.size, 0, none⟩ = some (.int .i64 T.id) := by rw [blk_cell HT0.out]; rfl
  have c1 : w1.cell? ⟨w.heap.size, 1, none⟩ = some (.int .i64 T.c) := by rw [blk_cell HT0.out]; rfl
  have c2 : w1.cell? ⟨w.heap.size, 2, none⟩ = some (.int .i64 T.d) := by rw [blk_cell HT0.out]; rfl
  have c3 : w1.cell? ⟨w.heap.size, 3, none⟩ = some (.int .i64 T.t) := by rw [blk_cell HT0.out]; rfl
  have c4 : w1.cell? ⟨w.heap.size, 4, none⟩ = some (.int .i64 T.p) := by rw [blk_cell HT0.out]; rfl
  have c5 : w1.cell? ⟨w.heap.size, 5, none⟩ = some (.slice T.a1 T.ch.length T.c1) := by rw [blk_cell HT0.out]; rfl
  have c6 : w1.cell? ⟨w.heap.size, 6, none⟩ = some (.slice T.a2 N T.c2) := by rw [blk_cell HT0.out]; rfl
  go_upto_region 4 with (go_at_call 35; (refine (RC.out _).mono ?_); rintro e w2 ⟨rfl, b2⟩; have HB2 := Lib.hid b2; clear b2)
  have HL2 : Hid (Below w.heap.size w w2) := below_up (below_up ((Below.refl w.heap.size w).alloc (Nat.le_refl _) _) HB1.out) HB2.out
  have HT2 := Lib.hid (kept_obj HB2.out HT0.out)
  clear TC RC HB1 HB2 HT0 c0 c1 c2 c3 c4 c5 c6 mk
  go_wp2
  go_step3
  go_wp2
  refine gen_world (GrowAt w w.heap.size (w2.heap.size + 1) (w2.heap.size + 1 + 1) T [] (some ⟨w2.heap.size, 0, none⟩) (1 + N)) ?_ ?_
  · have hb1 : Below w2.heap.size w2 (w2.alloc (.cells (madeCells #[.int .u64 0, .int .u64 0, .int .u64 0, .int .u64 0] ((1 + N) * 4)) ST4)) := (Below.refl _ _).alloc (Nat.le_refl _) _
    have hlt := lt_of_block HT2.out
    refine ⟨below_up HL2.out ((by repeat (first | exact Below.refl _ _ | (with_reducible assumption) | refine bw_alloc ?_ _ | refine bw_drew ?_))), ?_, ?_, ?_, ?_, by omega, by omega, by omega⟩
    · rw [HNE.out]; exact kept_obj (w := w2) ((by repeat (first | exact Below.refl _ _ | (with_reducible assumption) | refine bw_alloc ?_ _ | refine bw_drew ?_))) HT2.out
    · have := heap_alloc_new ((w2.alloc (.cells (madeCells #[.int .u64 0, .int .u64 0, .int .u64 0, .int .u64 0] ((1 + N) * 4)) ST4)).alloc (.cells #[.slice (some ⟨w2.heap.size, 0, none⟩) 1 (1 + N)] RB4)) (.cells #[.func (.func 46) #[] #[.pointer (some ⟨w2.heap.size + 1, 0, none⟩), .pointer (some ⟨w.heap.size, 0, none⟩)]] 88)
      rw [World.size_alloc, World.size_alloc] at this
      exact this
    · have := heap_alloc_new (w2.alloc (.cells (madeCells #[.int .u64 0, .int .u64 0, .int .u64 0, .int .u64 0] ((1 + N) * 4)) ST4)) (.cells #[.slice (some ⟨w2.heap.size, 0, none⟩) 1 (1 + N)] RB4)
      rw [World.size_alloc] at this
      exact kept_obj ((Below.refl _ _).alloc (Nat.le_refl _) _) this
    · exact ((made_own w2 T.us N hn5).low HL2.out.size).below (w := w2.alloc (.cells (madeCells #[.int .u64 0, .int .u64 0, .int .u64 0, .int .u64 0] ((1 + N) * 4)) ST4)) ((by repeat (first | exact Below.refl _ _ | (with_reducible assumption) | refine bw_alloc ?_ _ | refine bw_drew ?_)))
  intro W hw
  have HW := Lib.hid hw
  clear hw
  refine (wpIn_wide (n := 3)).1 ?_
  refine wpIn_rangeFunc_ownG rfl (by omega) (gf := gf) (lb := lb) rfl trivial hgf (HTE.out.below HW.out.low 2 (by omega)) kpS_t kpS_b (Below.refl _ _) (fun _ => rfl)
    (fun pre V => Grown w w.heap.size (w2.heap.size + 1) (w2.heap.size + 1 + 1) T pre V) (fun c pre V => Full w w.heap.size (w2.heap.size + 1) (w2.heap.size + 1 + 1) T c pre V) (Grown.own HW.out.low.size) (fun c => Full.own HW.out.low.size c) ⟨⟨_, _, HW.out⟩, Nat.zero_le _⟩
    (fun x => { tmps := #[.agg #[.int .i64 T.id, .int .i64 T.c, .int .i64 T.d, .int .i64 T.t, .int .i64 T.p, .slice T.a1 T.ch.length T.c1, .slice T.a2 N T.c2], .func (.func gf) #[] lb, .pointer (some ⟨w.heap.size, 0, none⟩), undef, .slice none 0 0, .pointer (some ⟨w2.heap.size + 1, 0, none⟩), .pointer (some ⟨w2.heap.size + 1 + 1, 0, none⟩), .int .i64 (x : Int), .agg #[.int .i64 T.id, .int .i64 T.c, .int .i64 T.d, .int .i64 T.t, .int .i64 T.p, .slice T.a1 T.ch.length T.c1, .slice T.a2 N T.c2], .bool true, .bool false, undef, .agg #[.int .i64 T.id, .int .i64 T.c, .int .i64 T.d, .int .i64 T.t, .int .i64 T.p, .slice T.a1 T.ch.length T.c1, .slice T.a2 N T.c2], .int .i64 N, .int .i64 (1 + (N : Int)), .slice (some ⟨w2.heap.size, 0, none⟩) 1 (1 + N), .func (.func 46) #[] #[.pointer (some ⟨w2.heap.size + 1, 0, none⟩), .pointer (some ⟨w.heap.size, 0, none⟩)], .func (.func gf) #[] lb, .int .i64 (x : Int), undef, undef, undef, undef, undef, undef, undef, undef, undef, undef], defers := [] }) ?assign ?body ?done ?stop
  case assign =>
    intro l x V K hK
    gi_wp2
    exact hK
  case body =>
    rintro l pre x V ⟨⟨a, c, hI⟩, hle⟩ hlt
    have HI := Lib.hid hI
    have HLE := Lib.hid hle
    have r0 : V.cell? ⟨w2.heap.size + 1, 0, none⟩ = some (.slice a (pre.length + 1) c) := by rw [blk_cell hI.rb]; rfl
    have c0 : V.cell? ⟨w.heap.size, 0, none⟩ = some (.int .i64 T.id) := by rw [blk_cell hI.tb]; rfl
    have c1 : V.cell? ⟨w.heap.size, 1, none⟩ = some (.int .i64 T.c) := by rw [blk_cell hI.tb]; rfl
    have c2 : V.cell? ⟨w.heap.size, 2, none⟩ = some (.int .i64 T.d) := by rw [blk_cell hI.tb]; rfl
    have c3 : V.cell? ⟨w.heap.size, 3, none⟩ = some (.int .i64 T.t) := by rw [blk_cell hI.tb]; rfl
    have c4 : V.cell? ⟨w.heap.size, 4, none⟩ = some (.int .i64 T.p) := by rw [blk_cell hI.tb]; rfl
    have c5 : V.cell? ⟨w.heap.size, 5, none⟩ = some (.slice T.a1 T.ch.length T.c1) := by rw [blk_cell hI.tb]; rfl
    have c6 : V.cell? ⟨w.heap.size, 6, none⟩ = some (.slice T.a2 N T.c2) := by rw [blk_cell hI.tb, ← HNE.out]; rfl
    have RC := Lib.hid (fun w => round_any T HTT.out w)
    rw [hN] at RC
    clear hI hle HTE
    obtain ⟨q, hq⟩ : ∃ q, decide ((N : Int) < (pre.length : Int) + 1) = q := ⟨_, rfl⟩
    have HQ := Lib.hid hq
    gi_wp2
    have hS : (fun w' : World => w'.cell? ⟨w2.heap.size + 1, 0, none⟩ = some (.slice a (pre.length + 1) c) ∧ w'.cell? ⟨w.heap.size, 0, none⟩ = some (.int .i64 T.id) ∧ w'.cell? ⟨w.heap.size, 1, none⟩ = some (.int .i64 T.c) ∧ w'.cell? ⟨w.heap.size, 2, none⟩ = some (.int .i64 T.d) ∧ w'.cell? ⟨w.heap.size, 3, none⟩ = some (.int .i64 T.t) ∧ w'.cell? ⟨w.heap.size, 4, none⟩ = some (.int .i64 T.p) ∧ w'.cell? ⟨w.heap.size, 5, none⟩ = some (.slice T.a1 T.ch.length T.c1) ∧ w'.cell? ⟨w.heap.size, 6, none⟩ = some (.slice T.a2 N T.c2)) V.drew := ⟨r0, c0, c1, c2, c3, c4, c5, c6⟩
    refine region_round (fun w' : World => w'.cell? ⟨w2.heap.size + 1, 0, none⟩ = some (.slice a (pre.length + 1) c) ∧ w'.cell? ⟨w.heap.size, 0, none⟩ = some (.int .i64 T.id) ∧ w'.cell? ⟨w.heap.size, 1, none⟩ = some (.int .i64 T.c) ∧ w'.cell? ⟨w.heap.size, 2, none⟩ = some (.int .i64 T.d) ∧ w'.cell? ⟨w.heap.size, 3, none⟩ = some (.int .i64 T.t) ∧ w'.cell? ⟨w.heap.size, 4, none⟩ = some (.int .i64 T.p) ∧ w'.cell? ⟨w.heap.size, 5, none⟩ = some (.slice T.a1 T.ch.length T.c1) ∧ w'.cell? ⟨w.heap.size, 6, none⟩ = some (.slice T.a2 N T.c2)) (by kernel_rfl) (by kernel_rfl) (by rintro ⟨_, _, h⟩; exact h) ?_
    refine wpAnyH_take (i := 0) (oi := { dst := some 23, op := .load RB4 (.tmp 5), type := RB4, pos := _, after := _, guard := none }) (v := Value.slice a (pre.length + 1) c) rfl (by kernel_rfl) (by kernel_rfl) (by kernel_rfl) (fun _ _ _ h => h) (Or.inl ⟨by rfl, ?_⟩) hS ?_
    · rintro w' ⟨z0, z1, z2, z3, z4, z5, z6, z7⟩
      go_simp
    simp only [Act.put, List.setIfInBounds_toArray, List.set_cons_zero, List.set_cons_succ]
    refine wpAnyH_take (i := 1) (oi := { dst := some 24, op := .call { callee := .builtin .len, args := #[.tmp 23], argTypes := #[RB4] }, type := 3, pos := _, after := _, guard := none }) (v := .int .i64 ((pre.length : Int) + 1)) rfl (by kernel_rfl) (by kernel_rfl) (by kernel_rfl) (fun _ _ _ h => h) (Or.inl ⟨by rfl, ?_⟩) hS ?_
    · rintro w' ⟨z0, z1, z2, z3, z4, z5, z6, z7⟩
      go_simp
    simp only [Act.put, List.setIfInBounds_toArray, List.set_cons_zero, List.set_cons_succ]
    refine wpAnyH_take (i := 2) (oi := { dst := some 25, op := .load TT (.tmp 2), type := TT, pos := _, after := _, guard := none }) (v := .agg #[.int .i64 T.id, .int .i64 T.c, .int .i64 T.d, .int .i64 T.t, .int .i64 T.p, .slice T.a1 T.ch.length T.c1, .slice T.a2 N T.c2]) rfl (by kernel_rfl) (by kernel_rfl) (by kernel_rfl) (fun _ _ _ h => h) (Or.inl ⟨by rfl, ?_⟩) hS ?_
    · rintro w' ⟨z0, z1, z2, z3, z4, z5, z6, z7⟩
      go_simp
    simp only [Act.put, List.setIfInBounds_toArray, List.set_cons_zero, List.set_cons_succ]
    refine wpAnyH_ready (rs := [3]) (by kernel_rfl) (by simp) ?_
    refine AllReadyH.cons (o := { dst := some 26, op := .call { callee := .value (.func 35), args := #[.tmp 25], argTypes := #[TT] }, type := 2, pos := _, after := _, guard := none }) rfl (fun K hK => ?_) AllReadyH.nil
    go_simp
    go_at_call 35
    (with_reducible refine (RC.out _).mono ?_)
    rintro e w3 ⟨rfl, b3⟩
    have b4 : Below V.heap.size V w3 := below_next b3 (Below.refl _ V) (Nat.le_refl _)
    have hS3 : (fun w' : World => w'.cell? ⟨w2.heap.size + 1, 0, none⟩ = some (.slice a (pre.length + 1) c) ∧ w'.cell? ⟨w.heap.size, 0, none⟩ = some (.int .i64 T.id) ∧ w'.cell? ⟨w.heap.size, 1, none⟩ = some (.int .i64 T.c) ∧ w'.cell? ⟨w.heap.size, 2, none⟩ = some (.int .i64 T.d) ∧ w'.cell? ⟨w.heap.size, 3, none⟩ = some (.int .i64 T.t) ∧ w'.cell? ⟨w.heap.size, 4, none⟩ = some (.int .i64 T.p) ∧ w'.cell? ⟨w.heap.size, 5, none⟩ = some (.slice T.a1 T.ch.length T.c1) ∧ w'.cell? ⟨w.heap.size, 6, none⟩ = some (.slice T.a2 N T.c2)) w3 := ⟨kept_cell b4 r0, kept_cell b4 c0, kept_cell b4 c1, kept_cell b4 c2, kept_cell b4 c3, kept_cell b4 c4, kept_cell b4 c5, kept_cell b4 c6⟩
    have H3 := Lib.hid (And.intro (HI.out.below b4) b4)
    clear b3 b4 r0 c0 c1 c2 c3 c4 c5 c6
    refine hK.out _ _ hS3 (fun _ => ?_)
    clear hK K
    try simp only [Act.put, List.setIfInBounds_toArray, List.set_cons_zero, List.set_cons_succ]
    refine wpAnyH_ready (rs := [4]) (by kernel_rfl) (by simp) ?_
    refine AllReadyH.cons (o := { dst := some 27, op := .binOp .gtr 2 (.tmp 24) (.tmp 26) 2, type := 4, pos := _, after := _, guard := none }) rfl (fun K hK => ?_) AllReadyH.nil
    go_simp
    refine hK.out _ _ hS3 (fun _ => ?_)
    clear hK K
    try simp only [Act.put, List.setIfInBounds_toArray, List.set_cons_zero, List.set_cons_succ]
    refine wpAnyH_ready (rs := [5]) (by kernel_rfl) (by simp) ?_
    refine AllReadyH.cons (o := { dst := some 22, op := .assign (.tmp 27), type := 4, pos := _, after := _, guard := none }) rfl (fun K hK => ?_) AllReadyH.nil
    go_simp
    refine hK.out _ _ hS3 (fun _ => ?_)
    clear hK K
    try simp only [Act.put, List.setIfInBounds_toArray, List.set_cons_zero, List.set_cons_succ]
    refine wpAnyH_done (by kernel_rfl) ?_ _
    have fb0 : w3.cell? ⟨w2.heap.size + 1 + 1, 0, none⟩ = some (.func (.func 46) #[] #[.pointer (some ⟨w2.heap.size + 1, 0, none⟩), .pointer (some ⟨w.heap.size, 0, none⟩)]) := by rw [blk_cell H3.out.1.fb]; rfl
    clear hS hS3 RC hq
    cases q with
    | true =>
      gi_wp2
      have hN1 := of_decide_eq_true HQ.out
      have hk := turn_keeps (S := fun _ => False) (B := W.heap.size) (Turn.of_below H3.out.2) (fun i h => h.elim)
      exact ⟨hk, rfl, pre, x, rfl, by have := HLE.out; have := HNE.out; omega, a, c, H3.out.1⟩
    | false =>
      have hN1 := of_decide_eq_false HQ.out
      have hlt2 : pre.length < T.us.length := by have := HNE.out; omega
      have AD := Lib.hid (add_any HTT.out (HOK.out.below H3.out.1.low) (by rintro e; rw [e] at hlt2; simp at hlt2) H3.out.1 x (by have := HNE.out; omega))
      have HL2' := Lib.hid hlt2
      clear hN1 hlt2
      gi_wp2_with (refine ⟨trivial, ?_⟩; gi_at_call 46; (refine (CallsIn.inRound l (callsIn_wide.2 (AD.out))).mono ?_); rintro e w4 ⟨rfl, g4, S4, s4, t4⟩)
      have ht := (Turn.of_below (S := S4) H3.out.2).then (t4.mono fun i _ h => h)
      have hs4 : ∀ i, S4 i → ∀ o, V.heap[i]? = some o → o.isCells = true := fun i hi o ho => (s4 i hi).2 o (kept_obj H3.out.2 ho)
      exact ⟨turn_keeps ht hs4, ⟨turn_walks ht hs4, fun k cs U fr hk hc => ht.obj hc (fun q => by have := (s4 k q).1; have := HSS.out k hk; omega)⟩, g4, by have := HL2'.out; simp; omega⟩
  case done =>
    rintro D ys V hD hys ⟨⟨a, c, hI⟩, hle⟩ hK
    subst hys
    have HI := Lib.hid hI
    have HLE := Lib.hid hle
    have r0 : V.cell? ⟨w2.heap.size + 1, 0, none⟩ = some (.slice a (ys.length + 1) c) := by rw [blk_cell hI.rb]; rfl
    clear hI hle
    gi_wp2
    go_wp2
    refine ⟨by simp, .inl ⟨_, _, rfl, run_takeDeferred hK, ?_⟩⟩
    refine ⟨_, results_tmp rfl _ _ _, ⟨a, c, ?_, ?_⟩, ?_⟩
    · rw [Nat.min_eq_left (by have := HLE.out; omega)]; rfl
    · rw [List.take_of_length_le HLE.out]
      have hv := HI.out.view
      rcases hv with hv | ⟨g, o, e, hc⟩
      · exact .inl hv
      · exact .inr ⟨g, o, e, fun j u hj => by
          have h1 := hc j u hj
          have hne : g ≠ D := by
            rintro rfl
            unfold World.cell? at h1
            rw [hK] at h1
            simp at h1
          have := World.putObj_heap_other (w := V) (o := .deferred none) hne
          unfold World.cell? at h1 ⊢
          rw [this]
          exact h1⟩
    · exact HI.out.low.trans (belowK_b (w := w) (Nat.le_refl _) _ D _ _ (by have := HW.out.low.size; omega) hK rfl rfl)
  case stop =>
    rintro D c ys V hD hys ⟨rfl, pre, x, rfl, hl, a, c, hI⟩ hK
    have HI := Lib.hid hI
    have r0 : V.cell? ⟨w2.heap.size + 1, 0, none⟩ = some (.slice a (pre.length + 1) c) := by rw [blk_cell hI.rb]; rfl
    clear hI
    gi_wp2
    go_wp2
    refine ⟨by simp, .inl ⟨_, _, rfl, run_takeDeferred hK, ?_⟩⟩
    have htk : ticks.take N = pre := by
      obtain ⟨r, hr⟩ := hys
      rw [← hr, List.append_assoc, List.take_append_of_le_length (by omega), List.take_of_length_le (by omega)]
    have hln : N ≤ ticks.length := by
      obtain ⟨r, hr⟩ := hys
      rw [← hr]; simp; omega
    refine ⟨_, results_tmp rfl _ _ _, ⟨a, c, ?_, ?_⟩, ?_⟩
    · rw [hN, Nat.min_eq_right hln, ← hN, ← hl]; rfl
    · rw [hN, htk]
      have hv := HI.out.view
      rcases hv with hv | ⟨g, o, e, hc⟩
      · exact .inl hv
      · exact .inr ⟨g, o, e, fun j u hj => by
          have h1 := hc j u hj
          have hne : g ≠ D := by
            rintro rfl
            unfold World.cell? at h1
            rw [hK] at h1
            simp at h1
          have := World.putObj_heap_other (w := V) (o := .deferred none) hne
          unfold World.cell? at h1 ⊢
          rw [this]
          exact h1⟩
    · exact HI.out.low.trans (belowK_b (w := w) (Nat.le_refl _) _ D _ _ (by have := HW.out.low.size; omega) hK rfl rfl)
end Go.Proofs.Ytcanbjgbpkofaaa

/-
  More walks over sets: what is in both, how many, a set out of a row; two together.
-/
namespace Go.Proofs.Ytcanbjgbpkofaaa
open Go.RowKit

set_option maxHeartbeats 1000000 in
theorem count_any (x : Nat) (hx : x < 18446744073709551616) (w : World) :
    Calls Try.prog 50 #[.int .u64 x] w fun e w' => e = .returned (.int .i64 (cntN x.testBit 64)) ∧ w = w' := by
  obtain ⟨a, b, c, d, e, f, h1, ka, h2, kb, kb', h3, h4, h5, h6, kc, kd, ke, kf, hr⟩ := pop_steps x
  have q : cntN x.testBit 64 < 128 := by have := cntN_le x.testBit 64; omega
  have w1 : IntKind.u64.wrap (bits .and .u64 ((x : Int) / 2) 6148914691236517205 + bits .and .u64 (x : Int) 6148914691236517205) = (a : Int) := by
    rw [show (x : Int) / 2 = ((x / 2 : Nat) : Int) by omega, show (6148914691236517205 : Int) = ((6148914691236517205 : Nat) : Int) from rfl, and_nat _ _ (by omega) (by omega), and_nat _ _ hx (by omega), ← Int.natCast_add, h1]
    exact u64_nat _ ka
  have w2 : IntKind.u64.wrap (bits .and .u64 ((a : Int) / 4) 3689348814741910323 + bits .and .u64 (a : Int) 3689348814741910323) = (b : Int) := by
    rw [show (a : Int) / 4 = ((a / 4 : Nat) : Int) by omega, show (3689348814741910323 : Int) = ((3689348814741910323 : Nat) : Int) from rfl, and_nat _ _ (by omega) (by omega), and_nat _ _ ka (by omega), ← Int.natCast_add, h2]
    exact u64_nat _ kb
  have w3 : bits .and .u64 (IntKind.u64.wrap ((b : Int) / 16 + (b : Int))) 1085102592571150095 = (c : Int) := by
    rw [show (b : Int) / 16 + (b : Int) = ((b / 16 + b : Nat) : Int) by omega, u64_nat _ kb', show (1085102592571150095 : Int) = ((1085102592571150095 : Nat) : Int) from rfl, and_nat _ _ kb' (by omega), h3]
  have w4 : IntKind.u64.wrap ((c : Int) + (c : Int) / 256) = (d : Int) := by
    rw [show (c : Int) + (c : Int) / 256 = ((c + c / 256 : Nat) : Int) by omega, h4]; exact u64_nat _ kd
  have w5 : IntKind.u64.wrap ((d : Int) + (d : Int) / 65536) = (e : Int) := by
    rw [show (d : Int) + (d : Int) / 65536 = ((d + d / 65536 : Nat) : Int) by omega, h5]; exact u64_nat _ ke
  have w6 : IntKind.u64.wrap ((e : Int) + (e : Int) / 4294967296) = (f : Int) := by
    rw [show (e : Int) + (e : Int) / 4294967296 = ((e + e / 4294967296 : Nat) : Int) by omega, h6]; exact u64_nat _ (by omega)
  have w7 : bits .and .i64 (wrap64 (f : Int)) 127 = (cntN x.testBit 64 : Nat) := by rw [i64_and127, IntWalk.wrap64_in _ (by omega), ← hr]; exact (Int.natCast_emod f 128).symm
  clear h1 h2 h3 h4 h5 h6 ka kb kb' kc kd ke kf hr q hx
  generalize cntN x.testBit 64 = z at w7 ⊢
  go_enter Try.func50, Try.ntmps50
  go_wp2
  go_ret
  exact ⟨rfl, rfl⟩
set_option maxHeartbeats 2000000 in
theorem and_any (p q : Nat → Bool) (w : World) :
    Calls Try.prog 30 #[.agg #[.int .u64 (wd p 0), .int .u64 (wd p 1), .int .u64 (wd p 2), .int .u64 (wd p 3)], .agg #[.int .u64 (wd q 0), .int .u64 (wd q 1), .int .u64 (wd q 2), .int .u64 (wd q 3)]] w fun e w' => e = .returned (.agg #[.int .u64 (wd (andP p q) 0), .int .u64 (wd (andP p q) 1), .int .u64 (wd (andP p q) 2), .int .u64 (wd (andP p q) 3)]) ∧ Below w.heap.size w w' := by
  have e0 := Lib.hid (w_and p q 0)
  have e1 := Lib.hid (w_and p q 1)
  have e2 := Lib.hid (w_and p q 2)
  have e3 := Lib.hid (w_and p q 3)
  generalize wd (andP p q) = r at e0 e1 e2 e3 ⊢
  generalize wd p = a at e0 e1 e2 e3 ⊢
  generalize wd q = b at e0 e1 e2 e3 ⊢
  go_enter Try.func30, Try.ntmps30
  go_wp2
  go_loopw [6] (fun i wr => ∃ k : Nat, k ≤ 4 ∧ i = .int .i64 k ∧ Loop4 w wr k r a b) (fun i _ => (4 - intOf i).toNat)
  case atStart =>
    exact ⟨0, by omega, rfl, ⟨((Four.new w _ _ _ _ _).alloc _).alloc _, by simpa using (Four.new (w.alloc _) (b 0) (b 1) (b 2) (b 3) _).alloc _, by simpa using Four.new ((w.alloc _).alloc _) 0 0 0 0 _, (((Below.refl _ _).alloc (Nat.le_refl _) _).alloc (by simp) _).alloc (by simp; omega) _⟩⟩
  case round =>
    obtain ⟨k, hk, rfl, hx, hy, hz, hb⟩ := hrel
    have HY := Lib.hid hy
    have HZ := Lib.hid hz
    have HB := Lib.hid hb
    have HX := Lib.hid hx
    clear hb hz
    rcases (show k = 0 ∨ k = 1 ∨ k = 2 ∨ k = 3 ∨ k = 4 by omega) with rfl | rfl | rfl | rfl | rfl
    rotate_left 4
    · clear HY hy
      simp only [mix, Nat.reduceLT, reduceIte] at hx
      obtain ⟨x0, x1, x2, x3, g0, g1, g2, g3⟩ := hx
      obtain ⟨z0, z1, z2, z3, v0, v1, v2, v3⟩ := HZ.out
      go_wp2
      refine bodyPost_ret (v := .agg #[.int .u64 (r 0), .int .u64 (r 1), .int .u64 (r 2), .int .u64 (r 3)]) ?_ rfl ⟨rfl, below_set4 HB.out (by omega) (r 0) (r 1) (r 2) (r 3)⟩
      obtain ⟨s0, s1, s2, s3, _, _, _, _⟩ := HZ.out.set4 (r 0) (r 1) (r 2) (r 3)
      unfold set4 at s0 s1 s2 s3
      simp [results, Try.results30, go_sem, s0, s1, s2, s3]
    all_goals
      simp only [mix, Nat.lt_irrefl, Nat.reduceLT, Nat.not_lt_zero, reduceIte] at hx
      obtain ⟨x0, x1, x2, x3, g0, g1, g2, g3⟩ := hx
      obtain ⟨y0, y1, y2, y3, _, _, _, _⟩ := hy
    · have e := e0.out
      go_wp2
      go_region
      all_goals
        clear e
        go_wp2
        go_roundw
        case rel => exact ⟨1, by omega, rfl, ⟨(HX.out.set0 (r 0)).of_drew, (HY.out.far (p := ⟨w.heap.size, 0, none⟩) (by simp) _).of_drew, (HZ.out.far (p := ⟨w.heap.size, 0, none⟩) (by simp; omega) _).of_drew, (HB.out.setCell (p := ⟨w.heap.size, 0, none⟩) (Nat.le_refl _) _).drew⟩⟩
        case measure => simp [intOf]
    · have e := e1.out
      go_wp2
      go_region
      all_goals
        clear e
        go_wp2
        go_roundw
        case rel => exact ⟨2, by omega, rfl, ⟨(HX.out.set1 (r 1)).of_drew, (HY.out.far (p := ⟨w.heap.size, 1, none⟩) (by simp) _).of_drew, (HZ.out.far (p := ⟨w.heap.size, 1, none⟩) (by simp; omega) _).of_drew, (HB.out.setCell (p := ⟨w.heap.size, 1, none⟩) (Nat.le_refl _) _).drew⟩⟩
        case measure => simp [intOf]
    · have e := e2.out
      go_wp2
      go_region
      all_goals
        clear e
        go_wp2
        go_roundw
        case rel => exact ⟨3, by omega, rfl, ⟨(HX.out.set2 (r 2)).of_drew, (HY.out.far (p := ⟨w.heap.size, 2, none⟩) (by simp) _).of_drew, (HZ.out.far (p := ⟨w.heap.size, 2, none⟩) (by simp; omega) _).of_drew, (HB.out.setCell (p := ⟨w.heap.size, 2, none⟩) (Nat.le_refl _) _).drew⟩⟩
        case measure => simp [intOf]
    · have e := e3.out
      go_wp2
      go_region
      all_goals
        clear e
        go_wp2
        go_roundw
        case rel => exact ⟨4, by omega, rfl, ⟨(HX.out.set3 (r 3)).of_drew, (HY.out.far (p := ⟨w.heap.size, 3, none⟩) (by simp) _).of_drew, (HZ.out.far (p := ⟨w.heap.size, 3, none⟩) (by simp; omega) _).of_drew, (HB.out.setCell (p := ⟨w.heap.size, 3, none⟩) (Nat.le_refl _) _).drew⟩⟩
        case measure => simp [intOf]
set_option maxHeartbeats 2000000 in
theorem len_core (p : Nat → Bool) (w : World) :
    Calls Try.prog 36 #[.agg #[.int .u64 (wd p 0), .int .u64 (wd p 1), .int .u64 (wd p 2), .int .u64 (wd p 3)]] w fun e w' => e = .returned (.int .i64 (cntW p 4)) ∧ Below w.heap.size w w' := by
  have HL : Hid (∀ k, k ≤ 4 → cntW p k ≤ 256) := fun k hk => by rw [cntW_eq]; have := cntN_le p (64 * k); omega
  have HC : Hid (∀ k w, Calls Try.prog 50 #[.int .u64 (wd p k)] w fun e w' => e = .returned (.int .i64 (cntN (wd p k).testBit 64)) ∧ w = w') := fun k w => count_any _ (wd_lt p k) w
  have H0 : cntW p 0 = 0 := rfl
  have HS : Hid (∀ k, cntW p (k + 1) = cntW p k + cntN (wd p k).testBit 64) := fun _ => rfl
  have HN : Hid (∀ k, cntN (wd p k).testBit 64 ≤ 64) := fun k => cntN_le _ 64
  generalize wd p = a at HC HS HN ⊢
  generalize cntW p = c at HL H0 HS ⊢
  go_enter Try.func36, Try.ntmps36
  go_wp2
  go_loop [3, 7] (fun n i => ∃ k : Nat, k ≤ 4 ∧ i = .int .i64 k ∧ n = .int .i64 (c k)) (fun _ i => (4 - intOf i).toNat)
  case atStart => exact ⟨0, by omega, rfl, by rw [H0]; rfl⟩
  case round =>
    obtain ⟨k, hk, rfl, rfl⟩ := hrel
    have hle := HL.out k hk
    rcases (show k = 0 ∨ k = 1 ∨ k = 2 ∨ k = 3 ∨ k = 4 by omega) with rfl | rfl | rfl | rfl | rfl
    rotate_left 4
    · clear H0
      go_wp2
      go_ret
      exact ⟨rfl, (Below.refl _ _).alloc (Nat.le_refl _) _⟩
    · have C := Lib.hid (HC.out 0)
      have hn := HN.out 0
      have hs := Lib.hid (HS.out 0)
      have hix := index_0 (a 0) (a 1) (a 2) (a 3)
      clear H0
      generalize cntN (a 0).testBit 64 = m at C hn hs
      go_wp2_with (go_at_call 50; (refine (C.out _).mono ?_); rintro e w' ⟨rfl, rfl⟩)
      go_round
      case rel => exact ⟨0 + 1, by omega, rfl, by rw [hs.out]; go_num⟩
      case measure => simp [intOf]
    · have C := Lib.hid (HC.out 1)
      have hn := HN.out 1
      have hs := Lib.hid (HS.out 1)
      have hix := index_1 (a 0) (a 1) (a 2) (a 3)
      clear H0
      generalize cntN (a 1).testBit 64 = m at C hn hs
      go_wp2_with (go_at_call 50; (refine (C.out _).mono ?_); rintro e w' ⟨rfl, rfl⟩)
      go_round
      case rel => exact ⟨1 + 1, by omega, rfl, by rw [hs.out]; go_num⟩
      case measure => simp [intOf]
    · have C := Lib.hid (HC.out 2)
      have hn := HN.out 2
      have hs := Lib.hid (HS.out 2)
      have hix := index_2 (a 0) (a 1) (a 2) (a 3)
      clear H0
      generalize cntN (a 2).testBit 64 = m at C hn hs
      go_wp2_with (go_at_call 50; (refine (C.out _).mono ?_); rintro e w' ⟨rfl, rfl⟩)
      go_round
      case rel => exact ⟨2 + 1, by omega, rfl, by rw [hs.out]; go_num⟩
      case measure => simp [intOf]
    · have C := Lib.hid (HC.out 3)
      have hn := HN.out 3
      have hs := Lib.hid (HS.out 3)
      have hix := index_3 (a 0) (a 1) (a 2) (a 3)
      clear H0
      generalize cntN (a 3).testBit 64 = m at C hn hs
      go_wp2_with (go_at_call 50; (refine (C.out _).mono ?_); rintro e w' ⟨rfl, rfl⟩)
      go_round
      case rel => exact ⟨3 + 1, by omega, rfl, by rw [hs.out]; go_num⟩
      case measure => simp [intOf]
theorem len_any (p : Nat → Bool) (w : World) :
    Calls Try.prog 36 #[.agg #[.int .u64 (wd p 0), .int .u64 (wd p 1), .int .u64 (wd p 2), .int .u64 (wd p 3)]] w fun e w' => e = .returned (.int .i64 (cntN p 256)) ∧ Below w.heap.size w w' := by
  have h := len_core p w
  rw [cntW_eq] at h
  exact h
set_option maxRecDepth 100000 in
set_option maxHeartbeats 2000000 in
theorem rof_any (l : List Int) (hl : (l.length : Int) ≤ 9223372036854775807) (cap : Nat) (ao : Option Addr) (w : World) (hs : Reads w w.heap.size ao l) :
    Calls Try.prog 23 #[.slice ao l.length cap] w fun e w' => e = .returned (.agg #[.int .u64 (wd (ofN l l.length) 0), .int .u64 (wd (ofN l l.length) 1), .int .u64 (wd (ofN l l.length) 2), .int .u64 (wd (ofN l l.length) 3)]) ∧ Below w.heap.size w w' := by
  have HS := Lib.hid hs
  clear hs
  go_enter Try.func23, Try.ntmps23
  go_wp2
  go_loopw [4] (fun i wr => ∃ k : Nat, k ≤ l.length ∧ i = .int .i64 k ∧ Four wr (w.heap.size + 1) (wd (ofN l k) 0) (wd (ofN l k) 1) (wd (ofN l k) 2) (wd (ofN l k) 3) ∧ Four wr w.heap.size 0 0 0 0 ∧ Below w.heap.size w wr) (fun i _ => (l.length - intOf i).toNat)
  case atStart =>
    refine ⟨0, by omega, rfl, ?_, ?_, ((Below.refl _ _).alloc (Nat.le_refl _) _).alloc (by simp) _⟩
    · have := Four.new (w.alloc (.cells #[.int .u64 0, .int .u64 0, .int .u64 0, .int .u64 0] 32)) 0 0 0 0 32
      simpa [ofN, wd_none] using this
    · exact (Four.new w 0 0 0 0 _).alloc _
  case round =>
    obtain ⟨k, hk, rfl, hx, hz, hb⟩ := hrel
    have HX := Lib.hid hx
    have HZ := Lib.hid hz
    have HB := Lib.hid hb
    clear hb
    obtain ⟨x0, x1, x2, x3, g0, g1, g2, g3⟩ := hx
    by_cases hlt : k < l.length
    · obtain ⟨b, off, rfl, hbb, hc⟩ : ∃ b off, ao = some ⟨b, off, none⟩ ∧ b < w.heap.size ∧ ∀ k, k < l.length → wr.cell? ⟨b, off + k, none⟩ = some (.int .i64 (l.getD k 0)) := by
        rcases HS.out.below HB.out with h | h
        · rw [h] at hlt; exact absurd hlt (Nat.not_lt_zero _)
        · exact h
      have hck := hc k hlt
      have C := Lib.hid (fun w => rwith_any (ofN l k) (l.getD k 0) w)
      have HR : Hid (wd (orP (ofN l k) (oneP (l.getD k 0))) = wd (ofN l (k + 1))) := by show _ = _; rfl
      clear hz hc
      generalize wd (orP (ofN l k) (oneP (l.getD k 0))) = r at C HR
      generalize l.getD k 0 = v at hck C
      generalize wd (ofN l k) = a at x0 x1 x2 x3 C HX
      go_wp2
      go_region_with (go_at_call 32; (refine (C.out _).mono ?_); rintro e w1 ⟨rfl, hw1⟩; have HX1 := Lib.hid (Four.next hw1 HX.out); have HZ1 := Lib.hid (Four.next hw1 HZ.out); have HB1 := Lib.hid (below_next hw1 HB.out (Nat.le_refl _)); obtain ⟨y0, y1, y2, y3, k0, k1, k2, k3⟩ := HX1.out; clear hw1)
      all_goals
        go_wp2
        go_roundw
        case rel =>
          refine ⟨k + 1, by omega, by go_num, ?_, HZ1.out.far4 (by omega) (r 0) (r 1) (r 2) (r 3), below_set4 HB1.out (by omega) (r 0) (r 1) (r 2) (r 3)⟩
          rw [← HR.out]
          exact HX1.out.set4 (r 0) (r 1) (r 2) (r 3)
        case measure => simp [intOf]; omega
    · obtain rfl : k = l.length := by omega
      obtain ⟨z0, z1, z2, z3, v0, v1, v2, v3⟩ := hz
      go_wp2
      refine bodyPost_ret (v := .agg #[.int .u64 (wd (ofN l l.length) 0), .int .u64 (wd (ofN l l.length) 1), .int .u64 (wd (ofN l l.length) 2), .int .u64 (wd (ofN l l.length) 3)]) ?_ rfl ⟨rfl, below_set4 HB.out (by omega) (wd (ofN l l.length) 0) (wd (ofN l l.length) 1) (wd (ofN l l.length) 2) (wd (ofN l l.length) 3)⟩
      obtain ⟨s0, s1, s2, s3⟩ := set4_results HZ.out (wd (ofN l l.length) 0) (wd (ofN l l.length) 1) (wd (ofN l l.length) 2) (wd (ofN l l.length) 3)
      simp [results, Try.results23, go_sem, s0, s1, s2, s3]
theorem ror_two (p q : Nat → Bool) (b : Nat) (w : World) (hb : b < w.heap.size)
    (h0 : w.cell? ⟨b, 0, none⟩ = some (.int .u64 (wd p 0))) (h1 : w.cell? ⟨b, 1, none⟩ = some (.int .u64 (wd p 1))) (h2 : w.cell? ⟨b, 2, none⟩ = some (.int .u64 (wd p 2))) (h3 : w.cell? ⟨b, 3, none⟩ = some (.int .u64 (wd p 3)))
    (h4 : w.cell? ⟨b, 4, none⟩ = some (.int .u64 (wd q 0))) (h5 : w.cell? ⟨b, 5, none⟩ = some (.int .u64 (wd q 1))) (h6 : w.cell? ⟨b, 6, none⟩ = some (.int .u64 (wd q 2))) (h7 : w.cell? ⟨b, 7, none⟩ = some (.int .u64 (wd q 3))) :
    Calls Try.prog 13 #[.slice (some ⟨b, 0, none⟩) 2 2] w fun e w' => e = .returned (.agg #[.int .u64 (wd (orP p q) 0), .int .u64 (wd (orP p q) 1), .int .u64 (wd (orP p q) 2), .int .u64 (wd (orP p q) 3)]) ∧ Below w.heap.size w w' := by
  have h := ror_any [p, q] (by simp) 2 (some ⟨b, 0, none⟩) w (.inr ⟨b, 0, rfl, hb, fun k hk => by
    rcases (show k = 0 ∨ k = 1 by simp at hk; omega) with rfl | rfl
    · exact ⟨h0, h1, h2, h3⟩
    · exact ⟨h4, h5, h6, h7⟩⟩)
  rw [show ([p, q] : List (Nat → Bool)).length = 2 from rfl, orN_two p q 0 (by omega), orN_two p q 1 (by omega), orN_two p q 2 (by omega), orN_two p q 3 (by omega)] at h
  exact h
end Go.Proofs.Ytcanbjgbpkofaaa

/-
  The walks over what is used ahead of a place, behind it, at all, and what is useful there.
-/
namespace Go.Proofs.Ytcanbjgbpkofaaa
open Go.RowKit Go.Maps Go.Shelf


/-- A result that is nothing yet, in a block of its own. -/
structure Zero4 (G : Nat) (V0 w : World) : Prop where
  low : Below G V0 w
  zer : w.heap[G]? = some (.cells #[.int .u64 0, .int .u64 0, .int .u64 0, .int .u64 0] ST4 (0, 0))
theorem Zero4.new {V0 : World} {G : Nat} (h : V0.heap.size = G) : Zero4 G V0 (V0.alloc (.cells #[.int .u64 0, .int .u64 0, .int .u64 0, .int .u64 0] ST4)) := by
  subst h
  exact ⟨(Below.refl _ _).alloc (Nat.le_refl _) _, heap_alloc_new V0 _⟩
theorem Zero4.drew {G : Nat} {V0 w : World} (h : Zero4 G V0 w) : Zero4 G V0 w.drew := ⟨h.low.drew, h.zer⟩
theorem Zero4.up {G : Nat} {V0 w w' : World} (h : Zero4 G V0 w) (hb : Below w.heap.size w w') : Zero4 G V0 w' :=
  ⟨h.low.trans (hb.mono (Nat.le_of_lt (lt_of_block h.zer))), kept_obj hb h.zer⟩
theorem Calls.upZ {P : Program} {f : FuncId} {args : Array Value} {G : Nat} {V0 w : World} {R : Ending → World → Prop} (h : Zero4 G V0 w) (c : Calls P f args w fun e w' => R e w' ∧ Below w.heap.size w w') : Calls P f args w fun e w' => R e w' ∧ Zero4 G V0 w' :=
  c.mono fun _ _ ⟨h1, h2⟩ => ⟨h1, h.up h2⟩
theorem enters_up (args : Array Value) (w : World) : (callFunc 48 args).run Try.prog w = .ok (.enter 48 args) w := enters_of Try.func48 (by kernel_rfl) rfl args w
theorem enters_down (args : Array Value) (w : World) : (callFunc 49 args).run Try.prog w = .ok (.enter 49 args) w := enters_of Try.func49 (by kernel_rfl) rfl args w
/-- The rows of the ticks from 0 on; of those below an end. -/
theorem grow_up {T : TV} (hT : Told T) (m : Nat) (hm : m ≤ 24) (Be : Nat) (w : World) (hok : T.ok w) (hb : w.heap[Be]? = some (.cells #[.int .i64 (m : Int)] 2 (0, 0))) :
    Calls Try.prog 26 #[.agg #[.int .i64 T.id, .int .i64 T.c, .int .i64 T.d, .int .i64 T.t, .int .i64 T.p, .slice T.a1 T.ch.length T.c1, .slice T.a2 T.us.length T.c2], .func (.func 48) #[] #[.pointer (some ⟨Be, 0, none⟩)]] w (GrowBack T (upT m) w) :=
  growing_any hT hok (S := fun k => k = Be) (fun k hk => by subst hk; exact lt_of_block hb) (rising_tells Be m hm w hb) enters_up
theorem grow_down {T : TV} (hT : Told T) (C a : Nat) (hC : C ≤ 24) (ha : a ≤ C) (Be Bf : Nat) (w : World) (hok : T.ok w) (hb : w.heap[Be]? = some (.cells #[.int .i64 (C : Int)] 2 (0, 0))) (hf : w.heap[Bf]? = some (.cells #[.int .i64 (a : Int)] 2 (0, 0))) :
    Calls Try.prog 26 #[.agg #[.int .i64 T.id, .int .i64 T.c, .int .i64 T.d, .int .i64 T.t, .int .i64 T.p, .slice T.a1 T.ch.length T.c1, .slice T.a2 T.us.length T.c2], .func (.func 49) #[] #[.pointer (some ⟨Be, 0, none⟩), .pointer (some ⟨Bf, 0, none⟩)]] w (GrowBack T (downT C (C - a)) w) :=
  growing_any hT hok (S := fun k => k = Be ∨ k = Bf) (fun k hk => by rcases hk with rfl | rfl; exact lt_of_block hb; exact lt_of_block hf) (falling_tells Be Bf C a hC ha w hb hf) enters_down
theorem last_rows {us : List Int} (h5 : us.length ≤ 5) (l : List Nat) {P : Nat → Bool} (hP : tkP us (l.take us.length) = P) (a : Option Addr) (c : Nat) (w : World) (h : SView w a (rowsOf us (l.take us.length))) :
    Calls Try.prog 25 #[.slice a (min l.length us.length + 1) c] w (SetBack P w) :=
  last_any _ P (min l.length us.length) (by rw [rows_len, List.length_take, Nat.min_comm]) (by rw [← hP, rows_at _ _ (by rw [List.length_take]; omega), List.take_of_length_le (by rw [List.length_take]; omega)]) (by omega) a c w h
theorem up_last (us : List Int) (m : Nat) : tkP us ((upT m).take us.length) = inP us 0 m := by
  rw [← up_all us m]
  congr 1
  rcases Nat.le_total us.length m with h | h
  · rw [upT_take m _ h, Nat.min_eq_right h]
  · rw [List.take_of_length_le (by rw [upT_len]; exact h), Nat.min_eq_left h]
theorem down_last (us : List Int) (C a : Nat) (ha : a ≤ C) : tkP us ((downT C (C - a)).take us.length) = inP us a C := by
  rw [← down_all us C a ha]
  congr 1
  rcases Nat.le_total us.length (C - a) with h | h
  · rw [downT_take C _ _ h, Nat.min_eq_right h]
  · rw [List.take_of_length_le (by rw [downT_len]; exact h), Nat.min_eq_left h]
theorem rising_box (m : Nat) (w : World) : Calls Try.prog 27 #[.int .i64 (m : Int)] w fun e w' => (∃ Be, e = .returned (.func (.func 48) #[] #[.pointer (some ⟨Be, 0, none⟩)]) ∧ w'.heap[Be]? = some (.cells #[.int .i64 (m : Int)] 2 (0, 0))) ∧ Below w.heap.size w w' :=
  (rising_any m w).mono fun e w' ⟨h1, h2⟩ => ⟨⟨_, h1, by rw [h2]; exact heap_alloc_new w _⟩, by rw [h2]; exact (Below.refl _ _).alloc (Nat.le_refl _) _⟩
theorem falling_box (C a : Nat) (w : World) : Calls Try.prog 29 #[.int .i64 (C : Int), .int .i64 (a : Int)] w fun e w' => (∃ Be Bf, e = .returned (.func (.func 49) #[] #[.pointer (some ⟨Be, 0, none⟩), .pointer (some ⟨Bf, 0, none⟩)]) ∧ w'.heap[Be]? = some (.cells #[.int .i64 (C : Int)] 2 (0, 0)) ∧ w'.heap[Bf]? = some (.cells #[.int .i64 (a : Int)] 2 (0, 0))) ∧ Below w.heap.size w w' :=
  (falling_any C a w).mono fun e w' ⟨h1, h2⟩ => ⟨⟨_, _, h1, by rw [h2]; exact (two_boxes w rfl _ _).1, by rw [h2]; exact (two_boxes w rfl _ _).2⟩, by rw [h2]; exact (by repeat (first | exact Below.refl _ _ | (with_reducible assumption) | refine bw_alloc ?_ _ | refine bw_drew ?_))⟩

set_option maxRecDepth 100000 in
set_option maxHeartbeats 8000000 in
theorem before_any (T : TV) (hT : Told T) (C p : Nat) (hC : T.c = (C : Int)) (w : World) (hok : T.ok w) : Calls Try.prog 10 #[.agg #[.int .i64 T.id, .int .i64 T.c, .int .i64 T.d, .int .i64 T.t, .int .i64 T.p, .slice T.a1 T.ch.length T.c1, .slice T.a2 T.us.length T.c2], .int .i64 (p : Int)] w (SetBack (inP T.us 0 (min p C)) w) := by
  have hC24 : C ≤ 24 := by have := hT.c24; omega
  have PC := Lib.hid (fun w => place_any T hT C p hC w)
  obtain ⟨q, hq⟩ : ∃ q, min p C = q := ⟨_, rfl⟩
  have hq24 : q ≤ 24 := by omega
  rw [hq] at PC ⊢
  have RC := Lib.hid (fun w => rising_box q w)
  have GC := Lib.hid (fun Be v (hb : Below w.heap.size w v) => grow_up hT q hq24 Be v (hok.below hb))
  obtain ⟨P, hP⟩ : ∃ P, inP T.us 0 q = P := ⟨_, rfl⟩
  have LC := Lib.hid (fun a c v => last_rows hT.n5 (upT q) ((up_last T.us q).trans hP) a c v)
  rw [hP]
  clear hT hok hP hq hC hC24 hq24
  go_enter Try.func10, Try.ntmps10
  go_upto_region 1 with fail
  obtain ⟨V0, hV0⟩ : ∃ V0, w.alloc (.cells #[.int .i64 T.id, .int .i64 T.c, .int .i64 T.d, .int .i64 T.t, .int .i64 T.p, .slice T.a1 T.ch.length T.c1, .slice T.a2 T.us.length T.c2] TT) = V0 := ⟨_, rfl⟩
  have hG : V0.heap.size = w.heap.size + 1 := by rw [← hV0, World.size_alloc]
  have HT0 : Hid (V0.heap[w.heap.size]? = some (.cells #[.int .i64 T.id, .int .i64 T.c, .int .i64 T.d, .int .i64 T.t, .int .i64 T.p, .slice T.a1 T.ch.length T.c1, .slice T.a2 T.us.length T.c2] TT (0, 0))) := by rw [← hV0]; exact heap_alloc_new w _
  have HLW : Hid (Below w.heap.size w V0) := by rw [← hV0]; exact (Below.refl _ _).alloc (Nat.le_refl _) _
  rw [hV0]
  refine gen_world (Zero4 (w.heap.size + 1) V0) (Zero4.new hG) ?_
  intro V kx
  clear hV0 hG
  have HZ := Lib.hid kx
  have MK : Hid (∀ w', Below (w.heap.size + 1) V0 w' → (w'.cell? ⟨w.heap.size, 0, none⟩ = some (.int .i64 T.id) ∧ w'.cell? ⟨w.heap.size, 1, none⟩ = some (.int .i64 T.c) ∧ w'.cell? ⟨w.heap.size, 2, none⟩ = some (.int .i64 T.d) ∧ w'.cell? ⟨w.heap.size, 3, none⟩ = some (.int .i64 T.t) ∧ w'.cell? ⟨w.heap.size, 4, none⟩ = some (.int .i64 T.p) ∧ w'.cell? ⟨w.heap.size, 5, none⟩ = some (.slice T.a1 T.ch.length T.c1) ∧ w'.cell? ⟨w.heap.size, 6, none⟩ = some (.slice T.a2 T.us.length T.c2))) := fun w' hb => by
    have x := kept_objB hb (Nat.lt_succ_self _) HT0.out
    exact ⟨by rw [blk_cell x]; rfl, by rw [blk_cell x]; rfl, by rw [blk_cell x]; rfl, by rw [blk_cell x]; rfl, by rw [blk_cell x]; rfl, by rw [blk_cell x]; rfl, by rw [blk_cell x]; rfl⟩
  go_region_held3 (fun w' => w'.cell? ⟨w.heap.size, 0, none⟩ = some (.int .i64 T.id) ∧ w'.cell? ⟨w.heap.size, 1, none⟩ = some (.int .i64 T.c) ∧ w'.cell? ⟨w.heap.size, 2, none⟩ = some (.int .i64 T.d) ∧ w'.cell? ⟨w.heap.size, 3, none⟩ = some (.int .i64 T.t) ∧ w'.cell? ⟨w.heap.size, 4, none⟩ = some (.int .i64 T.p) ∧ w'.cell? ⟨w.heap.size, 5, none⟩ = some (.slice T.a1 T.ch.length T.c1) ∧ w'.cell? ⟨w.heap.size, 6, none⟩ = some (.slice T.a2 T.us.length T.c2)) (exact MK.out _ (by repeat (first | exact Zero4.low (by with_reducible assumption) | refine Below.drew ?_ | refine Below.setCell ?_ (by exact Nat.le_refl _) _))) (first | (go_at_call 28; (with_reducible refine (Calls.upZ (by first | (with_reducible assumption) | exact Zero4.drew (by with_reducible assumption)) (PC.out _)).mono ?_); rintro e wx ⟨rfl, kx⟩) | (go_at_call 27; (with_reducible refine (Calls.upZ (by first | (with_reducible assumption) | exact Zero4.drew (by with_reducible assumption)) (RC.out _)).mono ?_); rintro e wx ⟨⟨Be, rfl, hb⟩, kx⟩; have HB := Lib.hid hb; clear hb) | (go_at_call 26; (with_reducible refine (Calls.upZ (by first | (with_reducible assumption) | exact Zero4.drew (by with_reducible assumption)) (GC.out _ _ (HLW.out.trans (kx.low.mono (Nat.le_succ _))) HB.out)).mono ?_); rintro e wx ⟨⟨a, c, rfl, hr⟩, kx⟩; have HR := Lib.hid hr; clear hr) | (go_at_call 25; (with_reducible refine (Calls.upZ (by first | (with_reducible assumption) | exact Zero4.drew (by with_reducible assumption)) (LC.out _ _ _ HR.out)).mono ?_); rintro e wx ⟨rfl, kx⟩; have z0 : wx.cell? ⟨w.heap.size + 1, 0, none⟩ = some (.int .u64 0) := (by rw [blk_cell kx.zer]; rfl); have z1 : wx.cell? ⟨w.heap.size + 1, 1, none⟩ = some (.int .u64 0) := (by rw [blk_cell kx.zer]; rfl); have z2 : wx.cell? ⟨w.heap.size + 1, 2, none⟩ = some (.int .u64 0) := (by rw [blk_cell kx.zer]; rfl); have z3 : wx.cell? ⟨w.heap.size + 1, 3, none⟩ = some (.int .u64 0) := (by rw [blk_cell kx.zer]; rfl); have f0 := blk_free kx.zer 0; have f1 := blk_free kx.zer 1; have f2 := blk_free kx.zer 2; have f3 := blk_free kx.zer 3))
  all_goals
    go_wp2_with fail
    have hz := Blk4.set (show Blk4 wx (w.heap.size + 1) 0 0 0 0 from kx.zer) (wd P 0) (wd P 1) (wd P 2) (wd P 3)
    obtain ⟨y0, y1, y2, y3⟩ := hz.cells
    refine bodyPost_ret (v := .agg #[.int .u64 (wd P 0), .int .u64 (wd P 1), .int .u64 (wd P 2), .int .u64 (wd P 3)]) ?_ rfl ⟨rfl, ?_⟩
    · simp [results, Try.results10, go_sem, y0, y1, y2, y3]
    · exact HLW.out.trans ((Below.setCell (p := ⟨w.heap.size + 1, 3, none⟩) (Below.setCell (p := ⟨w.heap.size + 1, 2, none⟩) (Below.setCell (p := ⟨w.heap.size + 1, 1, none⟩) (Below.setCell (p := ⟨w.heap.size + 1, 0, none⟩) kx.low (Nat.le_refl _) _) (Nat.le_refl _) _) (Nat.le_refl _) _) (Nat.le_refl _) _).mono (Nat.le_succ _))

set_option maxRecDepth 100000 in
set_option maxHeartbeats 8000000 in
theorem behind_any (T : TV) (hT : Told T) (C p : Nat) (hC : T.c = (C : Int)) (w : World) (hok : T.ok w) : Calls Try.prog 11 #[.agg #[.int .i64 T.id, .int .i64 T.c, .int .i64 T.d, .int .i64 T.t, .int .i64 T.p, .slice T.a1 T.ch.length T.c1, .slice T.a2 T.us.length T.c2], .int .i64 (p : Int)] w (SetBack (inP T.us (min p C) C) w) := by
  have hC24 : C ≤ 24 := by have := hT.c24; omega
  have PC := Lib.hid (fun w => place_any T hT C p hC w)
  obtain ⟨q, hq⟩ : ∃ q, min p C = q := ⟨_, rfl⟩
  have hqC : q ≤ C := by omega
  rw [hq] at PC ⊢
  have RC := Lib.hid (fun w => falling_box C q w)
  rw [← hC] at RC
  have GC := Lib.hid (fun Be Bf v (hb : Below w.heap.size w v) => grow_down hT C q hC24 hqC Be Bf v (hok.below hb))
  rw [← hC] at GC
  obtain ⟨P, hP⟩ : ∃ P, inP T.us q C = P := ⟨_, rfl⟩
  have LC := Lib.hid (fun a c v => last_rows hT.n5 (downT C (C - q)) ((down_last T.us C q hqC).trans hP) a c v)
  rw [hP]
  clear hT hok hP hq hC hC24 hqC
  go_enter Try.func11, Try.ntmps11
  go_upto_region 1 with fail
  obtain ⟨V0, hV0⟩ : ∃ V0, w.alloc (.cells #[.int .i64 T.id, .int .i64 T.c, .int .i64 T.d, .int .i64 T.t, .int .i64 T.p, .slice T.a1 T.ch.length T.c1, .slice T.a2 T.us.length T.c2] TT) = V0 := ⟨_, rfl⟩
  have hG : V0.heap.size = w.heap.size + 1 := by rw [← hV0, World.size_alloc]
  have HT0 : Hid (V0.heap[w.heap.size]? = some (.cells #[.int .i64 T.id, .int .i64 T.c, .int .i64 T.d, .int .i64 T.t, .int .i64 T.p, .slice T.a1 T.ch.length T.c1, .slice T.a2 T.us.length T.c2] TT (0, 0))) := by rw [← hV0]; exact heap_alloc_new w _
  have HLW : Hid (Below w.heap.size w V0) := by rw [← hV0]; exact (Below.refl _ _).alloc (Nat.le_refl _) _
  rw [hV0]
  refine gen_world (Zero4 (w.heap.size + 1) V0) (Zero4.new hG) ?_
  intro V kx
  clear hV0 hG
  have HZ := Lib.hid kx
  have MK : Hid (∀ w', Below (w.heap.size + 1) V0 w' → (w'.cell? ⟨w.heap.size, 0, none⟩ = some (.int .i64 T.id) ∧ w'.cell? ⟨w.heap.size, 1, none⟩ = some (.int .i64 T.c) ∧ w'.cell? ⟨w.heap.size, 2, none⟩ = some (.int .i64 T.d) ∧ w'.cell? ⟨w.heap.size, 3, none⟩ = some (.int .i64 T.t) ∧ w'.cell? ⟨w.heap.size, 4, none⟩ = some (.int .i64 T.p) ∧ w'.cell? ⟨w.heap.size, 5, none⟩ = some (.slice T.a1 T.ch.length T.c1) ∧ w'.cell? ⟨w.heap.size, 6, none⟩ = some (.slice T.a2 T.us.length T.c2))) := fun w' hb => by
    have x := kept_objB hb (Nat.lt_succ_self _) HT0.out
    exact ⟨by rw [blk_cell x]; rfl, by rw [blk_cell x]; rfl, by rw [blk_cell x]; rfl, by rw [blk_cell x]; rfl, by rw [blk_cell x]; rfl, by rw [blk_cell x]; rfl, by rw [blk_cell x]; rfl⟩
  go_region_held3 (fun w' => w'.cell? ⟨w.heap.size, 0, none⟩ = some (.int .i64 T.id) ∧ w'.cell? ⟨w.heap.size, 1, none⟩ = some (.int .i64 T.c) ∧ w'.cell? ⟨w.heap.size, 2, none⟩ = some (.int .i64 T.d) ∧ w'.cell? ⟨w.heap.size, 3, none⟩ = some (.int .i64 T.t) ∧ w'.cell? ⟨w.heap.size, 4, none⟩ = some (.int .i64 T.p) ∧ w'.cell? ⟨w.heap.size, 5, none⟩ = some (.slice T.a1 T.ch.length T.c1) ∧ w'.cell? ⟨w.heap.size, 6, none⟩ = some (.slice T.a2 T.us.length T.c2)) (exact MK.out _ (by repeat (first | exact Zero4.low (by with_reducible assumption) | refine Below.drew ?_ | refine Below.setCell ?_ (by exact Nat.le_refl _) _))) (first | (go_at_call 28; (with_reducible refine (Calls.upZ (by first | (with_reducible assumption) | exact Zero4.drew (by with_reducible assumption)) (PC.out _)).mono ?_); rintro e wx ⟨rfl, kx⟩) | (go_at_call 29; (with_reducible refine (Calls.upZ (by first | (with_reducible assumption) | exact Zero4.drew (by with_reducible assumption)) (RC.out _)).mono ?_); rintro e wx ⟨⟨Be, Bf, rfl, hb, hf⟩, kx⟩; have HB := Lib.hid hb; have HF := Lib.hid hf; clear hb hf) | (go_at_call 26; (with_reducible refine (Calls.upZ (by first | (with_reducible assumption) | exact Zero4.drew (by with_reducible assumption)) (GC.out _ _ _ (HLW.out.trans (kx.low.mono (Nat.le_succ _))) HB.out HF.out)).mono ?_); rintro e wx ⟨⟨a, c, rfl, hr⟩, kx⟩; have HR := Lib.hid hr; clear hr) | (go_at_call 25; (with_reducible refine (Calls.upZ (by first | (with_reducible assumption) | exact Zero4.drew (by with_reducible assumption)) (LC.out _ _ _ HR.out)).mono ?_); rintro e wx ⟨rfl, kx⟩; have z0 : wx.cell? ⟨w.heap.size + 1, 0, none⟩ = some (.int .u64 0) := (by rw [blk_cell kx.zer]; rfl); have z1 : wx.cell? ⟨w.heap.size + 1, 1, none⟩ = some (.int .u64 0) := (by rw [blk_cell kx.zer]; rfl); have z2 : wx.cell? ⟨w.heap.size + 1, 2, none⟩ = some (.int .u64 0) := (by rw [blk_cell kx.zer]; rfl); have z3 : wx.cell? ⟨w.heap.size + 1, 3, none⟩ = some (.int .u64 0) := (by rw [blk_cell kx.zer]; rfl); have f0 := blk_free kx.zer 0; have f1 := blk_free kx.zer 1; have f2 := blk_free kx.zer 2; have f3 := blk_free kx.zer 3))
  all_goals
    go_wp2_with fail
    have hz := Blk4.set (show Blk4 wx (w.heap.size + 1) 0 0 0 0 from kx.zer) (wd P 0) (wd P 1) (wd P 2) (wd P 3)
    obtain ⟨y0, y1, y2, y3⟩ := hz.cells
    refine bodyPost_ret (v := .agg #[.int .u64 (wd P 0), .int .u64 (wd P 1), .int .u64 (wd P 2), .int .u64 (wd P 3)]) ?_ rfl ⟨rfl, ?_⟩
    · simp [results, Try.results11, go_sem, y0, y1, y2, y3]
    · exact HLW.out.trans ((Below.setCell (p := ⟨w.heap.size + 1, 3, none⟩) (Below.setCell (p := ⟨w.heap.size + 1, 2, none⟩) (Below.setCell (p := ⟨w.heap.size + 1, 1, none⟩) (Below.setCell (p := ⟨w.heap.size + 1, 0, none⟩) kx.low (Nat.le_refl _) _) (Nat.le_refl _) _) (Nat.le_refl _) _) (Nat.le_refl _) _).mono (Nat.le_succ _))

set_option maxRecDepth 100000 in
set_option maxHeartbeats 8000000 in
theorem useful_any (T : TV) (hT : Told T) (C p : Nat) (hC : T.c = (C : Int)) (w : World) (hok : T.ok w) : Calls Try.prog 12 #[.agg #[.int .i64 T.id, .int .i64 T.c, .int .i64 T.d, .int .i64 T.t, .int .i64 T.p, .slice T.a1 T.ch.length T.c1, .slice T.a2 T.us.length T.c2], .int .i64 (p : Int)] w (SetBack (andP (inP T.us 0 (min p C)) (inP T.us (min p C) C)) w) := by
  have BC := Lib.hid (fun v (hb : Below w.heap.size w v) => before_any T hT C p hC v (hok.below hb))
  have DC := Lib.hid (fun v (hb : Below w.heap.size w v) => behind_any T hT C p hC v (hok.below hb))
  unfold SetBack at BC DC
  have AC := Lib.hid (fun w => and_any (inP T.us 0 (min p C)) (inP T.us (min p C) C) w)
  obtain ⟨P, hP⟩ : ∃ P, andP (inP T.us 0 (min p C)) (inP T.us (min p C) C) = P := ⟨_, rfl⟩
  rw [hP] at AC ⊢
  generalize inP T.us 0 (min p C) = A at *
  generalize inP T.us (min p C) C = B at *
  clear hT hok hP hC
  go_enter Try.func12, Try.ntmps12
  go_upto_region 1 with fail
  obtain ⟨V0, hV0⟩ : ∃ V0, w.alloc (.cells #[.int .i64 T.id, .int .i64 T.c, .int .i64 T.d, .int .i64 T.t, .int .i64 T.p, .slice T.a1 T.ch.length T.c1, .slice T.a2 T.us.length T.c2] TT) = V0 := ⟨_, rfl⟩
  have hG : V0.heap.size = w.heap.size + 1 := by rw [← hV0, World.size_alloc]
  have HT0 : Hid (V0.heap[w.heap.size]? = some (.cells #[.int .i64 T.id, .int .i64 T.c, .int .i64 T.d, .int .i64 T.t, .int .i64 T.p, .slice T.a1 T.ch.length T.c1, .slice T.a2 T.us.length T.c2] TT (0, 0))) := by rw [← hV0]; exact heap_alloc_new w _
  have HLW : Hid (Below w.heap.size w V0) := by rw [← hV0]; exact (Below.refl _ _).alloc (Nat.le_refl _) _
  rw [hV0]
  refine gen_world (Zero4 (w.heap.size + 1) V0) (Zero4.new hG) ?_
  intro V kx
  clear hV0 hG
  have HZ := Lib.hid kx
  have MK : Hid (∀ w', Below (w.heap.size + 1) V0 w' → (w'.cell? ⟨w.heap.size, 0, none⟩ = some (.int .i64 T.id) ∧ w'.cell? ⟨w.heap.size, 1, none⟩ = some (.int .i64 T.c) ∧ w'.cell? ⟨w.heap.size, 2, none⟩ = some (.int .i64 T.d) ∧ w'.cell? ⟨w.heap.size, 3, none⟩ = some (.int .i64 T.t) ∧ w'.cell? ⟨w.heap.size, 4, none⟩ = some (.int .i64 T.p) ∧ w'.cell? ⟨w.heap.size, 5, none⟩ = some (.slice T.a1 T.ch.length T.c1) ∧ w'.cell? ⟨w.heap.size, 6, none⟩ = some (.slice T.a2 T.us.length T.c2))) := fun w' hb => by
    have x := kept_objB hb (Nat.lt_succ_self _) HT0.out
    exact ⟨by rw [blk_cell x]; rfl, by rw [blk_cell x]; rfl, by rw [blk_cell x]; rfl, by rw [blk_cell x]; rfl, by rw [blk_cell x]; rfl, by rw [blk_cell x]; rfl, by rw [blk_cell x]; rfl⟩
  go_region_held3 (fun w' => w'.cell? ⟨w.heap.size, 0, none⟩ = some (.int .i64 T.id) ∧ w'.cell? ⟨w.heap.size, 1, none⟩ = some (.int .i64 T.c) ∧ w'.cell? ⟨w.heap.size, 2, none⟩ = some (.int .i64 T.d) ∧ w'.cell? ⟨w.heap.size, 3, none⟩ = some (.int .i64 T.t) ∧ w'.cell? ⟨w.heap.size, 4, none⟩ = some (.int .i64 T.p) ∧ w'.cell? ⟨w.heap.size, 5, none⟩ = some (.slice T.a1 T.ch.length T.c1) ∧ w'.cell? ⟨w.heap.size, 6, none⟩ = some (.slice T.a2 T.us.length T.c2)) (exact MK.out _ (by repeat (first | exact Zero4.low (by with_reducible assumption) | refine Below.drew ?_ | refine Below.setCell ?_ (by exact Nat.le_refl _) _))) (first | (go_at_call 10; (with_reducible refine (Calls.upZ (by first | (with_reducible assumption) | exact Zero4.drew (by with_reducible assumption)) (BC.out _ (HLW.out.trans (Below.mono (Zero4.low (G := w.heap.size + 1) (V0 := V0) (by first | (with_reducible assumption) | exact Zero4.drew (by with_reducible assumption))) (Nat.le_succ _))))).mono ?_); rintro e wx ⟨rfl, kx⟩) | (go_at_call 11; (with_reducible refine (Calls.upZ (by first | (with_reducible assumption) | exact Zero4.drew (by with_reducible assumption)) (DC.out _ (HLW.out.trans (Below.mono (Zero4.low (G := w.heap.size + 1) (V0 := V0) (by first | (with_reducible assumption) | exact Zero4.drew (by with_reducible assumption))) (Nat.le_succ _))))).mono ?_); rintro e wx ⟨rfl, kx⟩) | (go_at_call 30; (with_reducible refine (Calls.upZ (by first | (with_reducible assumption) | exact Zero4.drew (by with_reducible assumption)) (AC.out _)).mono ?_); rintro e wx ⟨rfl, kx⟩; have z0 : wx.cell? ⟨w.heap.size + 1, 0, none⟩ = some (.int .u64 0) := (by rw [blk_cell kx.zer]; rfl); have z1 : wx.cell? ⟨w.heap.size + 1, 1, none⟩ = some (.int .u64 0) := (by rw [blk_cell kx.zer]; rfl); have z2 : wx.cell? ⟨w.heap.size + 1, 2, none⟩ = some (.int .u64 0) := (by rw [blk_cell kx.zer]; rfl); have z3 : wx.cell? ⟨w.heap.size + 1, 3, none⟩ = some (.int .u64 0) := (by rw [blk_cell kx.zer]; rfl); have f0 := blk_free kx.zer 0; have f1 := blk_free kx.zer 1; have f2 := blk_free kx.zer 2; have f3 := blk_free kx.zer 3))
  all_goals
    go_wp2_with fail
    have hz := Blk4.set (show Blk4 wx (w.heap.size + 1) 0 0 0 0 from kx.zer) (wd P 0) (wd P 1) (wd P 2) (wd P 3)
    obtain ⟨y0, y1, y2, y3⟩ := hz.cells
    refine bodyPost_ret (v := .agg #[.int .u64 (wd P 0), .int .u64 (wd P 1), .int .u64 (wd P 2), .int .u64 (wd P 3)]) ?_ rfl ⟨rfl, ?_⟩
    · simp [results, Try.results12, go_sem, y0, y1, y2, y3]
    · exact HLW.out.trans ((Below.setCell (p := ⟨w.heap.size + 1, 3, none⟩) (Below.setCell (p := ⟨w.heap.size + 1, 2, none⟩) (Below.setCell (p := ⟨w.heap.size + 1, 1, none⟩) (Below.setCell (p := ⟨w.heap.size + 1, 0, none⟩) kx.low (Nat.le_refl _) _) (Nat.le_refl _) _) (Nat.le_refl _) _) (Nat.le_refl _) _).mono (Nat.le_succ _))

set_option maxRecDepth 100000 in
set_option maxHeartbeats 4000000 in
theorem used_any (T : TV) (hT : Told T) (C : Nat) (hC : T.c = (C : Int)) (w : World) (hok : T.ok w) : Calls Try.prog 14 #[.agg #[.int .i64 T.id, .int .i64 T.c, .int .i64 T.d, .int .i64 T.t, .int .i64 T.p, .slice T.a1 T.ch.length T.c1, .slice T.a2 T.us.length T.c2]] w (SetBack (inP T.us 0 C) w) := by
  have BC := Lib.hid (fun v (hb : Below w.heap.size w v) => before_any T hT C C hC v (hok.below hb))
  rw [Nat.min_self, ← hC] at BC
  unfold SetBack at BC
  generalize inP T.us 0 C = P at *
  clear hT hok hC
  go_enter Try.func14, Try.ntmps14
  go_upto_region 1 with fail
  obtain ⟨V0, hV0⟩ : ∃ V0, w.alloc (.cells #[.int .i64 T.id, .int .i64 T.c, .int .i64 T.d, .int .i64 T.t, .int .i64 T.p, .slice T.a1 T.ch.length T.c1, .slice T.a2 T.us.length T.c2] TT) = V0 := ⟨_, rfl⟩
  have hG : V0.heap.size = w.heap.size + 1 := by rw [← hV0, World.size_alloc]
  have HT0 : Hid (V0.heap[w.heap.size]? = some (.cells #[.int .i64 T.id, .int .i64 T.c, .int .i64 T.d, .int .i64 T.t, .int .i64 T.p, .slice T.a1 T.ch.length T.c1, .slice T.a2 T.us.length T.c2] TT (0, 0))) := by rw [← hV0]; exact heap_alloc_new w _
  have HLW : Hid (Below w.heap.size w V0) := by rw [← hV0]; exact (Below.refl _ _).alloc (Nat.le_refl _) _
  rw [hV0]
  refine gen_world (Zero4 (w.heap.size + 1) V0) (Zero4.new hG) ?_
  intro V kx
  clear hV0 hG
  have HZ := Lib.hid kx
  have MK : Hid (∀ w', Below (w.heap.size + 1) V0 w' → (w'.cell? ⟨w.heap.size, 0, none⟩ = some (.int .i64 T.id) ∧ w'.cell? ⟨w.heap.size, 1, none⟩ = some (.int .i64 T.c) ∧ w'.cell? ⟨w.heap.size, 2, none⟩ = some (.int .i64 T.d) ∧ w'.cell? ⟨w.heap.size, 3, none⟩ = some (.int .i64 T.t) ∧ w'.cell? ⟨w.heap.size, 4, none⟩ = some (.int .i64 T.p) ∧ w'.cell? ⟨w.heap.size, 5, none⟩ = some (.slice T.a1 T.ch.length T.c1) ∧ w'.cell? ⟨w.heap.size, 6, none⟩ = some (.slice T.a2 T.us.length T.c2))) := fun w' hb => by
    have x := kept_objB hb (Nat.lt_succ_self _) HT0.out
    exact ⟨by rw [blk_cell x]; rfl, by rw [blk_cell x]; rfl, by rw [blk_cell x]; rfl, by rw [blk_cell x]; rfl, by rw [blk_cell x]; rfl, by rw [blk_cell x]; rfl, by rw [blk_cell x]; rfl⟩
  obtain ⟨t0, t1, t2, t3, t4, t5, t6⟩ := MK.out _ HZ.out.low
  go_wp2_with (go_at_call 10; (with_reducible refine (Calls.upZ (by first | (with_reducible assumption) | exact Zero4.drew (by with_reducible assumption)) (BC.out _ (HLW.out.trans (kx.low.mono (Nat.le_succ _))))).mono ?_); rintro e wx ⟨rfl, kx⟩; have z0 : wx.cell? ⟨w.heap.size + 1, 0, none⟩ = some (.int .u64 0) := (by rw [blk_cell kx.zer]; rfl); have z1 : wx.cell? ⟨w.heap.size + 1, 1, none⟩ = some (.int .u64 0) := (by rw [blk_cell kx.zer]; rfl); have z2 : wx.cell? ⟨w.heap.size + 1, 2, none⟩ = some (.int .u64 0) := (by rw [blk_cell kx.zer]; rfl); have z3 : wx.cell? ⟨w.heap.size + 1, 3, none⟩ = some (.int .u64 0) := (by rw [blk_cell kx.zer]; rfl); have f0 := blk_free kx.zer 0; have f1 := blk_free kx.zer 1; have f2 := blk_free kx.zer 2; have f3 := blk_free kx.zer 3)
  all_goals
    have hz := Blk4.set (show Blk4 wx (w.heap.size + 1) 0 0 0 0 from kx.zer) (wd P 0) (wd P 1) (wd P 2) (wd P 3)
    obtain ⟨y0, y1, y2, y3⟩ := hz.cells
    refine bodyPost_ret (v := .agg #[.int .u64 (wd P 0), .int .u64 (wd P 1), .int .u64 (wd P 2), .int .u64 (wd P 3)]) ?_ rfl ⟨rfl, ?_⟩
    · simp [results, Try.results14, go_sem, y0, y1, y2, y3]
    · exact HLW.out.trans ((Below.setCell (p := ⟨w.heap.size + 1, 3, none⟩) (Below.setCell (p := ⟨w.heap.size + 1, 2, none⟩) (Below.setCell (p := ⟨w.heap.size + 1, 1, none⟩) (Below.setCell (p := ⟨w.heap.size + 1, 0, none⟩) kx.low (Nat.le_refl _) _) (Nat.le_refl _) _) (Nat.le_refl _) _) (Nat.le_refl _) _).mono (Nat.le_succ _))
end Go.Proofs.Ytcanbjgbpkofaaa

/-
  The walk over the most sets that are useful at a place.
-/
namespace Go.Proofs.Ytcanbjgbpkofaaa
open Go.RowKit Go.Maps Go.Shelf
attribute [-go_sem] run_min_int2

/-- The boxes of the search: the task, the other sets. -/
structure MostAt (w : World) (T : TV) (o : Nat → Nat) (V : World) : Prop where
  low : Below w.heap.size w V
  tb : V.heap[w.heap.size]? = some (.cells #[.int .i64 T.id, .int .i64 T.c, .int .i64 T.d, .int .i64 T.t, .int .i64 T.p, .slice T.a1 T.ch.length T.c1, .slice T.a2 T.us.length T.c2] TT (0, 0))
  ob : V.heap[w.heap.size + 1]? = some (.cells #[.int .u64 (o 0), .int .u64 (o 1), .int .u64 (o 2), .int .u64 (o 3)] ST4 (0, 0))
theorem MostAt.below {w V V' : World} {T : TV} {o : Nat → Nat} (h : MostAt w T o V) (hb : Below V.heap.size V V') : MostAt w T o V' := ⟨below_up h.low hb, kept_obj hb h.tb, kept_obj hb h.ob⟩
theorem MostAt.drew {w V : World} {T : TV} {o : Nat → Nat} (h : MostAt w T o V) : MostAt w T o V.drew := ⟨bw_drew h.low, h.tb, h.ob⟩
theorem Calls.upV {P : Program} {f : FuncId} {args : Array Value} {V w : World} {R : Ending → World → Prop} (h : Below V.heap.size V w) (c : Calls P f args w fun e w' => R e w' ∧ Below w.heap.size w w') : Calls P f args w fun e w' => R e w' ∧ Below w.heap.size w w' ∧ Below V.heap.size V w' :=
  c.mono fun _ _ ⟨h1, h2⟩ => ⟨h1, h2, below_up h h2⟩
theorem best_step (f : Nat → Nat) {p : Nat} (h : 1 ≤ p) : best f p = if (best f (p - 1)).1 < f p then (f p, p) else best f (p - 1) := by
  obtain ⟨k, rfl⟩ : ∃ k, p = k + 1 := ⟨p - 1, by omega⟩
  rfl
theorem ahead_at (us : List Int) {C p : Nat} (h : p ≤ us.length) (hC : p ≤ C) : (rowsOf us ((upT C).take us.length))[p]? = some (inP us 0 p) := by
  rw [rows_at _ _ (by rw [List.length_take, upT_len]; omega), List.take_take, Nat.min_eq_left h, upT_take _ _ hC, ← up_all us p, Nat.min_eq_left h]
theorem left_at (us : List Int) {C p : Nat} (h : p ≤ C) : (rowsOf us ((downT C C).take us.length))[min (C - p) us.length]? = some (inP us p C) := by
  rw [rows_at _ _ (by rw [List.length_take, downT_len]; omega), List.take_take, Nat.min_eq_left (Nat.min_le_right _ _), downT_take _ _ _ (by omega), down_all us C p h]

set_option maxRecDepth 100000 in
set_option maxHeartbeats 16000000 in
theorem most_any (T : TV) (hT : Told T) (C : Nat) (hC : T.c = (C : Int)) (w : World) (hok : T.ok w) (O : Nat → Bool) :
    Calls Try.prog 16 #[.agg #[.int .i64 T.id, .int .i64 T.c, .int .i64 T.d, .int .i64 T.t, .int .i64 T.p, .slice T.a1 T.ch.length T.c1, .slice T.a2 T.us.length T.c2], .agg #[.int .u64 (wd O 0), .int .u64 (wd O 1), .int .u64 (wd O 2), .int .u64 (wd O 3)]] w fun e w' => e = .returned (.tuple #[.int .i64 ((mostOf T.us C O).1 : Nat), .int .i64 ((mostOf T.us C O).2 : Nat)]) ∧ Below w.heap.size w w' := by
  have hC24 : C ≤ 24 := by have := hT.c24; omega
  have hC1 : 1 ≤ C := by have := hT.c1; omega
  have hn5 := hT.n5
  have TC := Lib.hid (fun w => told_any T hT w)
  have NC := Lib.hid (fun w => round_any T hT w)
  have UC := Lib.hid (fun w => rising_box C w)
  have DC := Lib.hid (fun w => falling_box C 0 w)
  rw [← hC] at UC DC
  have G1 := Lib.hid (fun Be v (hb : Below w.heap.size w v) => grow_up hT C hC24 Be v (hok.below hb))
  have G2 := Lib.hid (fun Be Bf v (hb : Below w.heap.size w v) => grow_down hT C 0 hC24 (Nat.zero_le _) Be Bf v (hok.below hb))
  rw [← hC] at G1 G2
  rw [Nat.sub_zero] at G2
  rw [show (((0 : Nat)) : Int) = 0 from rfl] at DC G2
  obtain ⟨o, ho⟩ : ∃ o, wd O = o := ⟨_, rfl⟩
  have HO := Lib.hid ho
  rw [ho]
  have HC := Lib.hid hC
  clear hT hok ho hC
  go_enter Try.func16, Try.ntmps16
  go_upto_region 1 with fail
  refine gen_world (MostAt w T o) ⟨(by repeat (first | exact Below.refl _ _ | (with_reducible assumption) | refine bw_alloc ?_ _ | refine bw_drew ?_)), (two_boxes w rfl _ _).1, (two_boxes w rfl _ _).2⟩ ?_
  intro V1 k1
  have c0 : V1.cell? ⟨w.heap.size, 0, none⟩ = some (.int .i64 T.id) := by rw [blk_cell k1.tb]; rfl
  have c1 : V1.cell? ⟨w.heap.size, 1, none⟩ = some (.int .i64 T.c) := by rw [blk_cell k1.tb]; rfl
  have c2 : V1.cell? ⟨w.heap.size, 2, none⟩ = some (.int .i64 T.d) := by rw [blk_cell k1.tb]; rfl
  have c3 : V1.cell? ⟨w.heap.size, 3, none⟩ = some (.int .i64 T.t) := by rw [blk_cell k1.tb]; rfl
  have c4 : V1.cell? ⟨w.heap.size, 4, none⟩ = some (.int .i64 T.p) := by rw [blk_cell k1.tb]; rfl
  have c5 : V1.cell? ⟨w.heap.size, 5, none⟩ = some (.slice T.a1 T.ch.length T.c1) := by rw [blk_cell k1.tb]; rfl
  have c6 : V1.cell? ⟨w.heap.size, 6, none⟩ = some (.slice T.a2 T.us.length T.c2) := by rw [blk_cell k1.tb]; rfl
  go_upto_region 4 with (go_at_call 34; (with_reducible refine (TC.out _).mono ?_); rintro e w1 ⟨rfl, b1⟩; have kx := k1.below b1)
  clear c0 c1 c2 c3 c4 c5 c6 k1 TC
  refine gen_world (MostAt w T o) kx ?_
  clear kx
  intro V kx
  have MK : Hid (∀ w', MostAt w T o w' → (w'.cell? ⟨w.heap.size, 0, none⟩ = some (.int .i64 T.id) ∧ w'.cell? ⟨w.heap.size, 1, none⟩ = some (.int .i64 T.c) ∧ w'.cell? ⟨w.heap.size, 2, none⟩ = some (.int .i64 T.d) ∧ w'.cell? ⟨w.heap.size, 3, none⟩ = some (.int .i64 T.t) ∧ w'.cell? ⟨w.heap.size, 4, none⟩ = some (.int .i64 T.p) ∧ w'.cell? ⟨w.heap.size, 5, none⟩ = some (.slice T.a1 T.ch.length T.c1) ∧ w'.cell? ⟨w.heap.size, 6, none⟩ = some (.slice T.a2 T.us.length T.c2))) := fun w' hb => by
    exact ⟨by rw [blk_cell hb.tb]; rfl, by rw [blk_cell hb.tb]; rfl, by rw [blk_cell hb.tb]; rfl, by rw [blk_cell hb.tb]; rfl, by rw [blk_cell hb.tb]; rfl, by rw [blk_cell hb.tb]; rfl, by rw [blk_cell hb.tb]; rfl⟩
  obtain ⟨L1, hL1⟩ : ∃ L1, min (upT C).length T.us.length + 1 = L1 := ⟨_, rfl⟩
  obtain ⟨L2, hL2⟩ : ∃ L2, min (downT C C).length T.us.length + 1 = L2 := ⟨_, rfl⟩
  have HL1 := Lib.hid hL1
  have HL2 := Lib.hid hL2
  unfold GrowBack at G1 G2
  rw [hL1] at G1
  rw [hL2] at G2
  clear hL1 hL2
  go_cut [8, 9] from 16 to 25 (fun u v wx => ∃ a1 c1 a2 c2, u = .slice a1 L1 c1 ∧ v = .slice a2 L2 c2 ∧ Hid (MostAt w T o wx) ∧ Hid (SView wx a1 (rowsOf T.us ((upT C).take T.us.length))) ∧ Hid (SView wx a2 (rowsOf T.us ((downT C C).take T.us.length))))
  case first =>
    go_region_held3 (fun w' => w'.cell? ⟨w.heap.size, 0, none⟩ = some (.int .i64 T.id) ∧ w'.cell? ⟨w.heap.size, 1, none⟩ = some (.int .i64 T.c) ∧ w'.cell? ⟨w.heap.size, 2, none⟩ = some (.int .i64 T.d) ∧ w'.cell? ⟨w.heap.size, 3, none⟩ = some (.int .i64 T.t) ∧ w'.cell? ⟨w.heap.size, 4, none⟩ = some (.int .i64 T.p) ∧ w'.cell? ⟨w.heap.size, 5, none⟩ = some (.slice T.a1 T.ch.length T.c1) ∧ w'.cell? ⟨w.heap.size, 6, none⟩ = some (.slice T.a2 T.us.length T.c2)) (exact MK.out _ (by first | (with_reducible assumption) | exact MostAt.drew (by with_reducible assumption))) (first
      | (go_at_call 27; (with_reducible refine (UC.out _).mono ?_); rintro e wx ⟨⟨Be, rfl, hb⟩, bx⟩; have HB := Lib.hid hb; have kx := (by first | exact MostAt.below kx bx | exact MostAt.below (MostAt.drew kx) bx : MostAt w T o wx); clear hb bx)
      | (go_at_call 26; (with_reducible refine (G1.out _ _ kx.low HB.out).mono ?_); rintro e wx ⟨⟨a1, c1, rfl, hr⟩, bx⟩; have HR1 := Lib.hid hr; have kx := (by first | exact MostAt.below kx bx | exact MostAt.below (MostAt.drew kx) bx : MostAt w T o wx); clear hr bx)
      | (go_at_call 29; (with_reducible refine (DC.out _).mono ?_); rintro e wx ⟨⟨Bg, Bf, rfl, hg, hf⟩, bx⟩; have HG := Lib.hid hg; have HF := Lib.hid hf; have HR1 := Lib.hid (HR1.out.below bx); have kx := (by first | exact MostAt.below kx bx | exact MostAt.below (MostAt.drew kx) bx : MostAt w T o wx); clear hg hf bx)
      | (go_at_call 26; (with_reducible refine (G2.out _ _ _ kx.low HG.out HF.out).mono ?_); rintro e wx ⟨⟨a2, c2, rfl, hr⟩, bx⟩; have HR2 := Lib.hid hr; have HR1 := Lib.hid (HR1.out.below bx); have kx := (by first | exact MostAt.below kx bx | exact MostAt.below (MostAt.drew kx) bx : MostAt w T o wx); clear hr bx))
    all_goals
      go_wp2_with fail
      go_meet
      exact ⟨_, _, _, _, rfl, rfl, kx, HR1, HR2⟩
  case rest =>
    obtain ⟨a1, c1, a2, c2, rfl, rfl, H1, HR1, HR2⟩ := hcut
    have hK1 : min (C - 1) T.us.length ≤ 24 := by omega
    go_wp2
    go_loopw [6, 7, 10] (fun m a p wr => ∃ (P : Nat), 1 ≤ P ∧ P ≤ min (C - 1) T.us.length + 1 ∧ p = .int .i64 (P : Int) ∧ m = .int .i64 ((best (usefulN T.us C O) (P - 1)).1 : Nat) ∧ a = .int .i64 ((best (usefulN T.us C O) (P - 1)).2 : Nat) ∧ Hid (MostAt w T o wr) ∧ Hid (SView wr a1 (rowsOf T.us ((upT C).take T.us.length))) ∧ Hid (SView wr a2 (rowsOf T.us ((downT C C).take T.us.length)))) (fun _ _ p _ => (30 - intOf p).toNat)
    case atStart => exact ⟨1, by omega, by omega, rfl, rfl, rfl, H1, HR1, HR2⟩
    case round =>
      obtain ⟨P, hP1, hPK, rfl, rfl, rfl, HM, HS1, HS2⟩ := hrel
      clear H1 HR1 HR2
      by_cases hA : P ≤ min (C - 1) T.us.length
      · have hPC : P < C := by omega
        have hPN : P ≤ T.us.length := by omega
        have q1 : (P : Int) < T.c := by have := HC.out; omega
        have q2 : (P : Int) ≤ (T.us.length : Int) := by omega
        obtain ⟨D, hD⟩ : ∃ D, D = C - P := ⟨_, rfl⟩
        obtain ⟨J, hJ⟩ : ∃ J, J = min (C - P) T.us.length := ⟨_, rfl⟩
        have q3 : IntKind.i64.wrap (T.c - (P : Int)) = (D : Int) := by rw [show T.c - (P : Int) = (D : Int) by have := HC.out; omega]; exact IntWalk.i64_in _ (by omega)
        have q4 : (P : Int) < (L1 : Int) := by have := HL1.out; rw [upT_len] at this; omega
        have q5 : (J : Int) < (L2 : Int) := by have := HL2.out; rw [downT_len] at this; omega
        have q6 : (0 : Int) ≤ (P : Int) := by omega
        have q7 : (0 : Int) ≤ (J : Int) := by omega
        have q8 : IntKind.i64.wrap ((P : Int) + 1) = (P : Int) + 1 := IntWalk.i64_in _ (by omega)
        obtain ⟨g1, o1, rfl, sa⟩ := HS1.out.at_ (ahead_at T.us hPN (Nat.le_of_lt hPC))
        obtain ⟨g2, o2, rfl, sb⟩ := HS2.out.at_ (left_at T.us (C := C) (p := P) (Nat.le_of_lt hPC))
        rw [← hJ] at sb
        have AC := Lib.hid (fun w => and_any (inP T.us 0 P) (inP T.us P C) w)
        have AO := Lib.hid (fun w => and_any (andP (inP T.us 0 P) (inP T.us P C)) O w)
        have LO := Lib.hid (fun w => len_any (andP (andP (inP T.us 0 P) (inP T.us P C)) O) w)
        rw [show cntN (andP (andP (inP T.us 0 P) (inP T.us P C)) O) 256 = usefulN T.us C O P from rfl] at LO
        rw [HO.out] at AO
        obtain ⟨A, hAe⟩ : ∃ A, wd (inP T.us 0 P) = A := ⟨_, rfl⟩
        obtain ⟨B, hBe⟩ : ∃ B, wd (inP T.us P C) = B := ⟨_, rfl⟩
        obtain ⟨U, hUe⟩ : ∃ U, wd (andP (inP T.us 0 P) (inP T.us P C)) = U := ⟨_, rfl⟩
        obtain ⟨X, hXe⟩ : ∃ X, wd (andP (andP (inP T.us 0 P) (inP T.us P C)) O) = X := ⟨_, rfl⟩
        rw [hAe, hBe, hUe] at AC
        rw [hUe, hXe] at AO
        rw [hXe] at LO
        have MS : Hid (∀ w', Below wr.heap.size wr w' → (w'.cell? ⟨w.heap.size, 0, none⟩ = some (.int .i64 T.id) ∧ w'.cell? ⟨w.heap.size, 1, none⟩ = some (.int .i64 T.c) ∧ w'.cell? ⟨w.heap.size, 2, none⟩ = some (.int .i64 T.d) ∧ w'.cell? ⟨w.heap.size, 3, none⟩ = some (.int .i64 T.t) ∧ w'.cell? ⟨w.heap.size, 4, none⟩ = some (.int .i64 T.p) ∧ w'.cell? ⟨w.heap.size, 5, none⟩ = some (.slice T.a1 T.ch.length T.c1) ∧ w'.cell? ⟨w.heap.size, 6, none⟩ = some (.slice T.a2 T.us.length T.c2) ∧ w'.cell? ⟨g1, o1 + P * 4, none⟩ = some (.int .u64 (A 0)) ∧ w'.cell? ⟨g1, o1 + P * 4 + 1, none⟩ = some (.int .u64 (A 1)) ∧ w'.cell? ⟨g1, o1 + P * 4 + 2, none⟩ = some (.int .u64 (A 2)) ∧ w'.cell? ⟨g1, o1 + P * 4 + 3, none⟩ = some (.int .u64 (A 3)) ∧ w'.cell? ⟨g2, o2 + J * 4, none⟩ = some (.int .u64 (B 0)) ∧ w'.cell? ⟨g2, o2 + J * 4 + 1, none⟩ = some (.int .u64 (B 1)) ∧ w'.cell? ⟨g2, o2 + J * 4 + 2, none⟩ = some (.int .u64 (B 2)) ∧ w'.cell? ⟨g2, o2 + J * 4 + 3, none⟩ = some (.int .u64 (B 3)))) := fun w' hb => by
          have hm := HM.out.below hb
          obtain ⟨x0, x1, x2, x3⟩ := sa.below hb
          obtain ⟨y0, y1, y2, y3⟩ := sb.below hb
          rw [hAe] at x0 x1 x2 x3
          rw [hBe] at y0 y1 y2 y3
          exact ⟨by rw [blk_cell hm.tb]; rfl, by rw [blk_cell hm.tb]; rfl, by rw [blk_cell hm.tb]; rfl, by rw [blk_cell hm.tb]; rfl, by rw [blk_cell hm.tb]; rfl, by rw [blk_cell hm.tb]; rfl, by rw [blk_cell hm.tb]; rfl, x0, x1, x2, x3, y0, y1, y2, y3⟩
        clear hAe hBe hUe hXe sa sb
        have bb := Below.refl wr.heap.size wr
        have c0 : wr.cell? ⟨w.heap.size, 0, none⟩ = some (.int .i64 T.id) := by rw [blk_cell HM.out.tb]; rfl
        have c1 : wr.cell? ⟨w.heap.size, 1, none⟩ = some (.int .i64 T.c) := by rw [blk_cell HM.out.tb]; rfl
        have c2 : wr.cell? ⟨w.heap.size, 2, none⟩ = some (.int .i64 T.d) := by rw [blk_cell HM.out.tb]; rfl
        have c3 : wr.cell? ⟨w.heap.size, 3, none⟩ = some (.int .i64 T.t) := by rw [blk_cell HM.out.tb]; rfl
        have c4 : wr.cell? ⟨w.heap.size, 4, none⟩ = some (.int .i64 T.p) := by rw [blk_cell HM.out.tb]; rfl
        have c5 : wr.cell? ⟨w.heap.size, 5, none⟩ = some (.slice T.a1 T.ch.length T.c1) := by rw [blk_cell HM.out.tb]; rfl
        have c6 : wr.cell? ⟨w.heap.size, 6, none⟩ = some (.slice T.a2 T.us.length T.c2) := by rw [blk_cell HM.out.tb]; rfl
        go_upto_region 8 with (go_at_call 35; (with_reducible refine (NC.out _).mono ?_); rintro e w3 ⟨rfl, b3⟩)
        have bV := b3
        clear b3 c0 c1 c2 c3 c4 c5 c6 q1 q2
        refine gen_world (fun v => Below wr.heap.size wr v) bV ?_
        clear bV
        intro V bV
        go_cut [11] from 38 to 52 (fun u wx => ∃ gx : Nat, u = .pointer (some ⟨gx, 0, none⟩) ∧ Hid (wx.heap[gx]? = some (.cells #[.int .u64 (U 0), .int .u64 (U 1), .int .u64 (U 2), .int .u64 (U 3)] ST4 (0, 0))) ∧ Hid (Below wr.heap.size wr wx))
        case first =>
          by_cases q9 : (T.us.length : Int) < (D : Int)
          · obtain rfl : J = T.us.length := by omega
            have mn : ∀ (ts : Array TypeId) (t : TypeId) (w : World), (Builtin.min_ ts t #[.int .i64 (D : Int), .int .i64 (T.us.length : Int)]).run Try.prog w = .ok (.int .i64 (T.us.length : Int)) w := fun ts t w => by rw [run_min_int2, if_pos q9]
            clear hJ hD q9
            go_region_held3 (fun w' => w'.cell? ⟨w.heap.size, 0, none⟩ = some (.int .i64 T.id) ∧ w'.cell? ⟨w.heap.size, 1, none⟩ = some (.int .i64 T.c) ∧ w'.cell? ⟨w.heap.size, 2, none⟩ = some (.int .i64 T.d) ∧ w'.cell? ⟨w.heap.size, 3, none⟩ = some (.int .i64 T.t) ∧ w'.cell? ⟨w.heap.size, 4, none⟩ = some (.int .i64 T.p) ∧ w'.cell? ⟨w.heap.size, 5, none⟩ = some (.slice T.a1 T.ch.length T.c1) ∧ w'.cell? ⟨w.heap.size, 6, none⟩ = some (.slice T.a2 T.us.length T.c2) ∧ w'.cell? ⟨g1, o1 + P * 4, none⟩ = some (.int .u64 (A 0)) ∧ w'.cell? ⟨g1, o1 + P * 4 + 1, none⟩ = some (.int .u64 (A 1)) ∧ w'.cell? ⟨g1, o1 + P * 4 + 2, none⟩ = some (.int .u64 (A 2)) ∧ w'.cell? ⟨g1, o1 + P * 4 + 3, none⟩ = some (.int .u64 (A 3)) ∧ w'.cell? ⟨g2, o2 + T.us.length * 4, none⟩ = some (.int .u64 (B 0)) ∧ w'.cell? ⟨g2, o2 + T.us.length * 4 + 1, none⟩ = some (.int .u64 (B 1)) ∧ w'.cell? ⟨g2, o2 + T.us.length * 4 + 2, none⟩ = some (.int .u64 (B 2)) ∧ w'.cell? ⟨g2, o2 + T.us.length * 4 + 3, none⟩ = some (.int .u64 (B 3))) (exact MS.out _ (by repeat (first | (with_reducible assumption) | refine Below.drew ?_ | refine bw_alloc ?_ _ | refine Below.setCell ?_ (by first | exact bV.size | (show _ ≤ _; omega)) _))) (first
              | (go_at_call 35; (with_reducible refine (Calls.upV (V := wr) (by repeat (first | exact Below.refl _ _ | (with_reducible assumption) | refine bw_alloc ?_ _ | refine bw_drew ?_)) (NC.out _)).mono ?_); rintro e wx ⟨rfl, by0, bx⟩; have sx := bx.size; (try (have hq : wx.heap[V.heap.size]? = some (.cells #[.int .u64 0, .int .u64 0, .int .u64 0, .int .u64 0] ST4 (0, 0)) := kept_obj by0 (heap_alloc_new V.drew _); have HQ0 := Lib.hid hq; have z0 : wx.cell? ⟨V.heap.size, 0, none⟩ = some (.int .u64 0) := (by rw [blk_cell hq]; rfl); have z1 : wx.cell? ⟨V.heap.size, 1, none⟩ = some (.int .u64 0) := (by rw [blk_cell hq]; rfl); have z2 : wx.cell? ⟨V.heap.size, 2, none⟩ = some (.int .u64 0) := (by rw [blk_cell hq]; rfl); have z3 : wx.cell? ⟨V.heap.size, 3, none⟩ = some (.int .u64 0) := (by rw [blk_cell hq]; rfl); have f0 : wx.frozen? ⟨V.heap.size, 0, none⟩ = false := blk_free hq 0; have f1 : wx.frozen? ⟨V.heap.size, 1, none⟩ = false := blk_free hq 1; have f2 : wx.frozen? ⟨V.heap.size, 2, none⟩ = false := blk_free hq 2; have f3 : wx.frozen? ⟨V.heap.size, 3, none⟩ = false := blk_free hq 3; clear hq)); clear by0)
              | (go_at_call 30; (with_reducible refine (Calls.upV (V := wr) (by repeat (first | exact Below.refl _ _ | (with_reducible assumption) | refine bw_alloc ?_ _ | refine bw_drew ?_)) (AC.out _)).mono ?_); rintro e wy ⟨rfl, by0, by1⟩; have sy := by1.size; (first | (have hq := kept_obj by0 HQ0.out; have HQ1 := Lib.hid hq; have z0 : wy.cell? ⟨V.heap.size, 0, none⟩ = some (.int .u64 0) := (by rw [blk_cell hq]; rfl); have z1 : wy.cell? ⟨V.heap.size, 1, none⟩ = some (.int .u64 0) := (by rw [blk_cell hq]; rfl); have z2 : wy.cell? ⟨V.heap.size, 2, none⟩ = some (.int .u64 0) := (by rw [blk_cell hq]; rfl); have z3 : wy.cell? ⟨V.heap.size, 3, none⟩ = some (.int .u64 0) := (by rw [blk_cell hq]; rfl); have f0 : wy.frozen? ⟨V.heap.size, 0, none⟩ = false := blk_free hq 0; have f1 : wy.frozen? ⟨V.heap.size, 1, none⟩ = false := blk_free hq 1; have f2 : wy.frozen? ⟨V.heap.size, 2, none⟩ = false := blk_free hq 2; have f3 : wy.frozen? ⟨V.heap.size, 3, none⟩ = false := blk_free hq 3; clear hq) | (have hq : wy.heap[wx.heap.size]? = some (.cells #[.int .u64 0, .int .u64 0, .int .u64 0, .int .u64 0] ST4 (0, 0)) := kept_obj by0 (heap_alloc_new wx _); have HQ2 := Lib.hid hq; have z0 : wy.cell? ⟨wx.heap.size, 0, none⟩ = some (.int .u64 0) := (by rw [blk_cell hq]; rfl); have z1 : wy.cell? ⟨wx.heap.size, 1, none⟩ = some (.int .u64 0) := (by rw [blk_cell hq]; rfl); have z2 : wy.cell? ⟨wx.heap.size, 2, none⟩ = some (.int .u64 0) := (by rw [blk_cell hq]; rfl); have z3 : wy.cell? ⟨wx.heap.size, 3, none⟩ = some (.int .u64 0) := (by rw [blk_cell hq]; rfl); have f0 : wy.frozen? ⟨wx.heap.size, 0, none⟩ = false := blk_free hq 0; have f1 : wy.frozen? ⟨wx.heap.size, 1, none⟩ = false := blk_free hq 1; have f2 : wy.frozen? ⟨wx.heap.size, 2, none⟩ = false := blk_free hq 2; have f3 : wy.frozen? ⟨wx.heap.size, 3, none⟩ = false := blk_free hq 3; clear hq) | skip); clear by0))
            all_goals
              go_wp2_with fail
              go_meet
              first
                | exact ⟨V.heap.size, rfl, Lib.hid (Blk4.set (show Blk4 wy V.heap.size 0 0 0 0 from HQ1.out) (U 0) (U 1) (U 2) (U 3)), Lib.hid (by repeat (first | (with_reducible assumption) | refine bw_alloc ?_ _ | refine Below.setCell ?_ (by show _ ≤ _; first | exact bV.size | exact sx | exact sy) _))⟩
                | exact ⟨wx.heap.size, rfl, Lib.hid (Blk4.set (show Blk4 wy wx.heap.size 0 0 0 0 from HQ2.out) (U 0) (U 1) (U 2) (U 3)), Lib.hid (by repeat (first | (with_reducible assumption) | refine bw_alloc ?_ _ | refine Below.setCell ?_ (by show _ ≤ _; first | exact bV.size | exact sx | exact sy) _))⟩
                | exact ⟨wy.heap.size, rfl, Lib.hid (heap_alloc_new wy _), Lib.hid (by repeat (first | (with_reducible assumption) | refine bw_alloc ?_ _ | refine Below.setCell ?_ (by show _ ≤ _; first | exact bV.size | exact sx | exact sy) _))⟩
          · obtain rfl : J = D := by omega
            have mn : ∀ (ts : Array TypeId) (t : TypeId) (w : World), (Builtin.min_ ts t #[.int .i64 (J : Int), .int .i64 (T.us.length : Int)]).run Try.prog w = .ok (.int .i64 (J : Int)) w := fun ts t w => by rw [run_min_int2, if_neg q9]
            clear hJ hD q9
            go_region_held3 (fun w' => w'.cell? ⟨w.heap.size, 0, none⟩ = some (.int .i64 T.id) ∧ w'.cell? ⟨w.heap.size, 1, none⟩ = some (.int .i64 T.c) ∧ w'.cell? ⟨w.heap.size, 2, none⟩ = some (.int .i64 T.d) ∧ w'.cell? ⟨w.heap.size, 3, none⟩ = some (.int .i64 T.t) ∧ w'.cell? ⟨w.heap.size, 4, none⟩ = some (.int .i64 T.p) ∧ w'.cell? ⟨w.heap.size, 5, none⟩ = some (.slice T.a1 T.ch.length T.c1) ∧ w'.cell? ⟨w.heap.size, 6, none⟩ = some (.slice T.a2 T.us.length T.c2) ∧ w'.cell? ⟨g1, o1 + P * 4, none⟩ = some (.int .u64 (A 0)) ∧ w'.cell? ⟨g1, o1 + P * 4 + 1, none⟩ = some (.int .u64 (A 1)) ∧ w'.cell? ⟨g1, o1 + P * 4 + 2, none⟩ = some (.int .u64 (A 2)) ∧ w'.cell? ⟨g1, o1 + P * 4 + 3, none⟩ = some (.int .u64 (A 3)) ∧ w'.cell? ⟨g2, o2 + J * 4, none⟩ = some (.int .u64 (B 0)) ∧ w'.cell? ⟨g2, o2 + J * 4 + 1, none⟩ = some (.int .u64 (B 1)) ∧ w'.cell? ⟨g2, o2 + J * 4 + 2, none⟩ = some (.int .u64 (B 2)) ∧ w'.cell? ⟨g2, o2 + J * 4 + 3, none⟩ = some (.int .u64 (B 3))) (exact MS.out _ (by repeat (first | (with_reducible assumption) | refine Below.drew ?_ | refine bw_alloc ?_ _ | refine Below.setCell ?_ (by first | exact bV.size | (show _ ≤ _; omega)) _))) (first
              | (go_at_call 35; (with_reducible refine (Calls.upV (V := wr) (by repeat (first | exact Below.refl _ _ | (with_reducible assumption) | refine bw_alloc ?_ _ | refine bw_drew ?_)) (NC.out _)).mono ?_); rintro e wx ⟨rfl, by0, bx⟩; have sx := bx.size; (try (have hq : wx.heap[V.heap.size]? = some (.cells #[.int .u64 0, .int .u64 0, .int .u64 0, .int .u64 0] ST4 (0, 0)) := kept_obj by0 (heap_alloc_new V.drew _); have HQ0 := Lib.hid hq; have z0 : wx.cell? ⟨V.heap.size, 0, none⟩ = some (.int .u64 0) := (by rw [blk_cell hq]; rfl); have z1 : wx.cell? ⟨V.heap.size, 1, none⟩ = some (.int .u64 0) := (by rw [blk_cell hq]; rfl); have z2 : wx.cell? ⟨V.heap.size, 2, none⟩ = some (.int .u64 0) := (by rw [blk_cell hq]; rfl); have z3 : wx.cell? ⟨V.heap.size, 3, none⟩ = some (.int .u64 0) := (by rw [blk_cell hq]; rfl); have f0 : wx.frozen? ⟨V.heap.size, 0, none⟩ = false := blk_free hq 0; have f1 : wx.frozen? ⟨V.heap.size, 1, none⟩ = false := blk_free hq 1; have f2 : wx.frozen? ⟨V.heap.size, 2, none⟩ = false := blk_free hq 2; have f3 : wx.frozen? ⟨V.heap.size, 3, none⟩ = false := blk_free hq 3; clear hq)); clear by0)
              | (go_at_call 30; (with_reducible refine (Calls.upV (V := wr) (by repeat (first | exact Below.refl _ _ | (with_reducible assumption) | refine bw_alloc ?_ _ | refine bw_drew ?_)) (AC.out _)).mono ?_); rintro e wy ⟨rfl, by0, by1⟩; have sy := by1.size; (first | (have hq := kept_obj by0 HQ0.out; have HQ1 := Lib.hid hq; have z0 : wy.cell? ⟨V.heap.size, 0, none⟩ = some (.int .u64 0) := (by rw [blk_cell hq]; rfl); have z1 : wy.cell? ⟨V.heap.size, 1, none⟩ = some (.int .u64 0) := (by rw [blk_cell hq]; rfl); have z2 : wy.cell? ⟨V.heap.size, 2, none⟩ = some (.int .u64 0) := (by rw [blk_cell hq]; rfl); have z3 : wy.cell? ⟨V.heap.size, 3, none⟩ = some (.int .u64 0) := (by rw [blk_cell hq]; rfl); have f0 : wy.frozen? ⟨V.heap.size, 0, none⟩ = false := blk_free hq 0; have f1 : wy.frozen? ⟨V.heap.size, 1, none⟩ = false := blk_free hq 1; have f2 : wy.frozen? ⟨V.heap.size, 2, none⟩ = false := blk_free hq 2; have f3 : wy.frozen? ⟨V.heap.size, 3, none⟩ = false := blk_free hq 3; clear hq) | (have hq : wy.heap[wx.heap.size]? = some (.cells #[.int .u64 0, .int .u64 0, .int .u64 0, .int .u64 0] ST4 (0, 0)) := kept_obj by0 (heap_alloc_new wx _); have HQ2 := Lib.hid hq; have z0 : wy.cell? ⟨wx.heap.size, 0, none⟩ = some (.int .u64 0) := (by rw [blk_cell hq]; rfl); have z1 : wy.cell? ⟨wx.heap.size, 1, none⟩ = some (.int .u64 0) := (by rw [blk_cell hq]; rfl); have z2 : wy.cell? ⟨wx.heap.size, 2, none⟩ = some (.int .u64 0) := (by rw [blk_cell hq]; rfl); have z3 : wy.cell? ⟨wx.heap.size, 3, none⟩ = some (.int .u64 0) := (by rw [blk_cell hq]; rfl); have f0 : wy.frozen? ⟨wx.heap.size, 0, none⟩ = false := blk_free hq 0; have f1 : wy.frozen? ⟨wx.heap.size, 1, none⟩ = false := blk_free hq 1; have f2 : wy.frozen? ⟨wx.heap.size, 2, none⟩ = false := blk_free hq 2; have f3 : wy.frozen? ⟨wx.heap.size, 3, none⟩ = false := blk_free hq 3; clear hq) | skip); clear by0))
            all_goals
              go_wp2_with fail
              go_meet
              first
                | exact ⟨V.heap.size, rfl, Lib.hid (Blk4.set (show Blk4 wy V.heap.size 0 0 0 0 from HQ1.out) (U 0) (U 1) (U 2) (U 3)), Lib.hid (by repeat (first | (with_reducible assumption) | refine bw_alloc ?_ _ | refine Below.setCell ?_ (by show _ ≤ _; first | exact bV.size | exact sx | exact sy) _))⟩
                | exact ⟨wx.heap.size, rfl, Lib.hid (Blk4.set (show Blk4 wy wx.heap.size 0 0 0 0 from HQ2.out) (U 0) (U 1) (U 2) (U 3)), Lib.hid (by repeat (first | (with_reducible assumption) | refine bw_alloc ?_ _ | refine Below.setCell ?_ (by show _ ≤ _; first | exact bV.size | exact sx | exact sy) _))⟩
                | exact ⟨wy.heap.size, rfl, Lib.hid (heap_alloc_new wy _), Lib.hid (by repeat (first | (with_reducible assumption) | refine bw_alloc ?_ _ | refine Below.setCell ?_ (by show _ ≤ _; first | exact bV.size | exact sx | exact sy) _))⟩
        case rest =>
          obtain ⟨gx, rfl, HU, HB⟩ := hcut
          have HM2 := Lib.hid (HM.out.below HB.out)
          have u0 : wc.cell? ⟨gx, 0, none⟩ = some (.int .u64 (U 0)) := by rw [blk_cell HU.out]; rfl
          have u1 : wc.cell? ⟨gx, 1, none⟩ = some (.int .u64 (U 1)) := by rw [blk_cell HU.out]; rfl
          have u2 : wc.cell? ⟨gx, 2, none⟩ = some (.int .u64 (U 2)) := by rw [blk_cell HU.out]; rfl
          have u3 : wc.cell? ⟨gx, 3, none⟩ = some (.int .u64 (U 3)) := by rw [blk_cell HU.out]; rfl
          have v0 : wc.cell? ⟨w.heap.size + 1, 0, none⟩ = some (.int .u64 (o 0)) := by rw [blk_cell HM2.out.ob]; rfl
          have v1 : wc.cell? ⟨w.heap.size + 1, 1, none⟩ = some (.int .u64 (o 1)) := by rw [blk_cell HM2.out.ob]; rfl
          have v2 : wc.cell? ⟨w.heap.size + 1, 2, none⟩ = some (.int .u64 (o 2)) := by rw [blk_cell HM2.out.ob]; rfl
          have v3 : wc.cell? ⟨w.heap.size + 1, 3, none⟩ = some (.int .u64 (o 3)) := by rw [blk_cell HM2.out.ob]; rfl
          clear MS AC
          go_upto_region 10 with (first
            | (go_at_call 30; (with_reducible refine (AO.out _).mono ?_); rintro e wx ⟨rfl, b1⟩; have HB1 := Lib.hid (below_up HB.out b1); clear b1)
            | (go_at_call 36; (with_reducible refine (LO.out _).mono ?_); rintro e wy ⟨rfl, b2⟩; have HB2 := Lib.hid (below_up HB1.out b2); clear b2))
          have HBS := Lib.hid (best_step (usefulN T.us C O) hP1)
          have HBR : Hid (∀ w', Below wr.heap.size wr w' → Hid (MostAt w T o w') ∧ Hid (SView w' (some ⟨g1, o1, none⟩) (rowsOf T.us ((upT C).take T.us.length))) ∧ Hid (SView w' (some ⟨g2, o2, none⟩) (rowsOf T.us ((downT C C).take T.us.length)))) := fun w' hb => ⟨HM.out.below hb, HS1.out.below hb, HS2.out.below hb⟩
          have hf256 := usefulN_le T.us C O P
          have hm256 : (best (usefulN T.us C O) (P - 1)).1 ≤ 256 := best_le fun p _ _ => usefulN_le T.us C O p
          have hPs : P + 1 - 1 = P := rfl
          clear u0 u1 u2 u3 v0 v1 v2 v3
          obtain ⟨mv, hmv⟩ : ∃ mv, best (usefulN T.us C O) (P - 1) = mv := ⟨_, rfl⟩
          obtain ⟨fP, hfP⟩ : ∃ fP, usefulN T.us C O P = fP := ⟨_, rfl⟩
          have HMV := Lib.hid hmv
          have HFP := Lib.hid hfP
          rw [hmv] at hm256 ⊢
          rw [hfP] at hf256 ⊢
          clear hmv hfP
          by_cases hq : mv.1 < fP
          · have hq1 : (mv.1 : Int) < (fP : Int) := by omega
            go_wp2
            go_roundw
            case rel =>
              have hbs := HBS.out
              rw [HMV.out, HFP.out, if_pos hq] at hbs
              refine ⟨P + 1, by omega, by omega, by go_num, ?_, ?_, HBR.out _ HB2.out⟩
              · rw [hPs, hbs]
              · rw [hPs, hbs]
            case measure => simp [intOf]; omega
          · have hq1 : ¬ (mv.1 : Int) < (fP : Int) := by omega
            go_wp2
            go_roundw
            case rel =>
              have hbs := HBS.out
              rw [HMV.out, HFP.out, if_neg hq] at hbs
              refine ⟨P + 1, by omega, by omega, by go_num, ?_, ?_, HBR.out _ HB2.out⟩
              · rw [hPs, hbs]
              · rw [hPs, hbs]
            case measure => simp [intOf]; omega
      · have hPe : P - 1 = min (C - 1) T.us.length := by omega
        have HPE : Hid (best (usefulN T.us C O) (P - 1) = mostOf T.us C O) := by show _ = _; rw [hPe]; rfl
        rw [HPE.out]
        have hlow := Lib.hid HM.out.low
        have c0 : wr.cell? ⟨w.heap.size, 0, none⟩ = some (.int .i64 T.id) := by rw [blk_cell HM.out.tb]; rfl
        have c1 : wr.cell? ⟨w.heap.size, 1, none⟩ = some (.int .i64 T.c) := by rw [blk_cell HM.out.tb]; rfl
        have c2 : wr.cell? ⟨w.heap.size, 2, none⟩ = some (.int .i64 T.d) := by rw [blk_cell HM.out.tb]; rfl
        have c3 : wr.cell? ⟨w.heap.size, 3, none⟩ = some (.int .i64 T.t) := by rw [blk_cell HM.out.tb]; rfl
        have c4 : wr.cell? ⟨w.heap.size, 4, none⟩ = some (.int .i64 T.p) := by rw [blk_cell HM.out.tb]; rfl
        have c5 : wr.cell? ⟨w.heap.size, 5, none⟩ = some (.slice T.a1 T.ch.length T.c1) := by rw [blk_cell HM.out.tb]; rfl
        have c6 : wr.cell? ⟨w.heap.size, 6, none⟩ = some (.slice T.a2 T.us.length T.c2) := by rw [blk_cell HM.out.tb]; rfl
        by_cases hPC : P < C
        · have q1 : (P : Int) < T.c := by have := HC.out; omega
          have q2 : ¬ (P : Int) ≤ (T.us.length : Int) := by omega
          clear hPe
          go_wp2_with (go_at_call 35; (with_reducible refine (NC.out _).mono ?_); rintro e w3 ⟨rfl, b3⟩)
          go_ret2
          exact ⟨rfl, below_up hlow.out b3⟩
        · have q1 : ¬ (P : Int) < T.c := by have := HC.out; omega
          clear hPe
          go_wp2
          go_ret2
          exact ⟨rfl, hlow.out⟩
end Go.Proofs.Ytcanbjgbpkofaaa

/-
  The walk over all sets that the tasks of a row use, but for one's.
-/
namespace Go.Proofs.Ytcanbjgbpkofaaa
open Go.RowKit Go.Maps Go.Shelf

/-- What the first k of a row use, but for one's. -/
def allN (L : List TV) (id : Int) : Nat → Nat → Bool
  | 0 => noneP
  | k + 1 => match L[k]? with
    | some T => if T.id = id then allN L id k else orP (allN L id k) (inP T.us 0 T.c.toNat)
    | none => allN L id k
theorem allN_is {L : List TV} {id : Int} {k : Nat} {T : TV} (h : L[k]? = some T) (hi : T.id = id) : allN L id (k + 1) = allN L id k := by
  rw [allN, h]; exact if_pos hi
theorem allN_not {L : List TV} {id : Int} {k : Nat} {T : TV} (h : L[k]? = some T) (hi : ¬ T.id = id) : allN L id (k + 1) = orP (allN L id k) (inP T.us 0 T.c.toNat) := by
  rw [allN, h]; exact if_neg hi
/-- The boxes: what comes back, what has been met. -/
structure AllAt (w : World) (p : Nat → Nat) (V : World) : Prop where
  low : Below w.heap.size w V
  res : V.heap[w.heap.size]? = some (.cells #[.int .u64 0, .int .u64 0, .int .u64 0, .int .u64 0] ST4 (0, 0))
  all : V.heap[w.heap.size + 1]? = some (.cells #[.int .u64 (p 0), .int .u64 (p 1), .int .u64 (p 2), .int .u64 (p 3)] ST4 (0, 0))
theorem AllAt.below {w V V' : World} {p : Nat → Nat} (h : AllAt w p V) (hb : Below V.heap.size V V') : AllAt w p V' := ⟨below_up h.low hb, kept_obj hb h.res, kept_obj hb h.all⟩
theorem AllAt.put {w V : World} {p : Nat → Nat} (h : AllAt w p V) (y : Nat → Nat) : AllAt w y ((((V.setCell ⟨w.heap.size + 1, 0, none⟩ (.int .u64 (y 0))).setCell ⟨w.heap.size + 1, 1, none⟩ (.int .u64 (y 1))).setCell ⟨w.heap.size + 1, 2, none⟩ (.int .u64 (y 2))).setCell ⟨w.heap.size + 1, 3, none⟩ (.int .u64 (y 3))) :=
  ⟨(((h.low.setCell (p := ⟨w.heap.size + 1, 0, none⟩) (Nat.le_succ _) _).setCell (p := ⟨w.heap.size + 1, 1, none⟩) (Nat.le_succ _) _).setCell (p := ⟨w.heap.size + 1, 2, none⟩) (Nat.le_succ _) _).setCell (p := ⟨w.heap.size + 1, 3, none⟩) (Nat.le_succ _) _,
    (set4_far (by omega) _ _ _ _).trans h.res, Blk4.set (show Blk4 V (w.heap.size + 1) _ _ _ _ from h.all) (y 0) (y 1) (y 2) (y 3)⟩

set_option maxRecDepth 100000 in
set_option maxHeartbeats 16000000 in
theorem all_any (L : List TV) (hT : ∀ T ∈ L, Told T) (id : Int) (w : World) (a : Option Addr) (n cap : Nat) (hn : n ≤ 100) (ht : Tasks w a n cap L) :
    Calls Try.prog 22 #[.slice a n cap, .int .i64 id] w (SetBack (allN L id n) w) := by
  have HT := Lib.hid ht
  have HL := Lib.hid hT
  clear ht hT
  go_enter Try.func22, Try.ntmps22
  go_upto_region 2 with fail
  refine gen_world (AllAt w (wd (allN L id 0))) ⟨(by repeat (first | exact Below.refl _ _ | (with_reducible assumption) | refine bw_alloc ?_ _ | refine bw_drew ?_)), (two_boxes w rfl _ _).1, by show _ = some (Obj.cells #[.int .u64 (wd noneP 0), .int .u64 (wd noneP 1), .int .u64 (wd noneP 2), .int .u64 (wd noneP 3)] ST4 (0, 0)); rw [wd_none, wd_none, wd_none, wd_none]; exact (two_boxes w rfl _ _).2⟩ ?_
  intro V hv
  have HV := Lib.hid hv
  clear hv
  go_wp2
  go_loopw [10] (fun u wr => ∃ k : Nat, k ≤ n ∧ u = .int .i64 k ∧ Hid (AllAt w (wd (allN L id k)) wr)) (fun u _ => (n - intOf u).toNat)
  case atStart => exact ⟨0, Nat.zero_le _, rfl, HV⟩
  case round =>
    obtain ⟨k, hk, rfl, HA⟩ := hrel
    clear HV
    by_cases hlt : k < n
    · obtain ⟨T, hTk⟩ := nth_of HT.out.len hlt
      obtain ⟨g, og, rfl, hat⟩ := (HT.out.view.below HA.out.low).at_ hTk
      have HTT := Lib.hid (HL.out T (List.mem_of_getElem? hTk))
      have HOK := Lib.hid (HT.out.ok.at_ hTk)
      obtain ⟨c0, c1, c2, c3, c4, c5, c6⟩ := hat
      have hk0 : (0 : Int) ≤ (k : Int) := by omega
      have hkn : (k : Int) < (n : Int) := by omega
      have hks : IntKind.i64.wrap ((k : Int) + 1) = (k : Int) + 1 := IntWalk.i64_in _ (by omega)
      obtain ⟨C, hC⟩ : ∃ C : Nat, T.c = (C : Int) := ⟨T.c.toNat, by have := HTT.out.c1; omega⟩
      have HC := Lib.hid hC
      clear hC
      go_upto_region 5 with fail
      refine gen_world (fun v => AllAt w (wd (allN L id k)) v ∧ v.heap[wr.heap.size]? = some (.cells #[.int .i64 T.id, .int .i64 T.c, .int .i64 T.d, .int .i64 T.t, .int .i64 T.p, .slice T.a1 T.ch.length T.c1, .slice T.a2 T.us.length T.c2] TT (0, 0)) ∧ Below wr.heap.size wr v) ⟨HA.out.below ((Below.refl _ _).alloc (Nat.le_refl _) _), heap_alloc_new wr _, (Below.refl _ _).alloc (Nat.le_refl _) _⟩ ?_
      intro V2 ⟨ha2, ht2, hb2⟩
      have HA2 := Lib.hid ha2
      have HT2 := Lib.hid ht2
      have HB2 := Lib.hid hb2
      clear c0 c1 c2 c3 c4 c5 c6 hb2
      have t0 : V2.cell? ⟨wr.heap.size, 0, none⟩ = some (.int .i64 T.id) := by rw [blk_cell ht2]; rfl
      by_cases hid : T.id = id
      · have hd : (T.id == id) = true := by simp [hid]
        have hd2 : (T.id != id) = false := by simp [hid]
        have HN : Hid (allN L id (k + 1) = allN L id k) := allN_is hTk hid
        clear ha2 ht2 hid hTk
        go_wp2
        go_roundw
        case rel => exact ⟨k + 1, by omega, by go_num, by rw [HN.out]; exact HA2⟩
        case measure => simp [intOf]; omega
      · have hd : (T.id == id) = false := by simp [hid]
        have hd2 : (T.id != id) = true := by simp [hid]
        have HN : Hid (allN L id (k + 1) = orP (allN L id k) (inP T.us 0 T.c.toNat)) := allN_not hTk hid
        have UC := Lib.hid (fun v (hb : Below wr.heap.size wr v) => used_any T HTT.out C HC.out v (HOK.out.below (below_up HA.out.low hb)))
        rw [show inP T.us 0 C = inP T.us 0 T.c.toNat by rw [HC.out]; rfl] at UC
        have OC := Lib.hid (or_two (allN L id k) (inP T.us 0 T.c.toNat))
        rw [← HN.out] at OC
        unfold SetBack at UC
        clear HN hid hTk
        obtain ⟨p2, hp2⟩ : ∃ p2, wd (allN L id (k + 1)) = p2 := ⟨_, rfl⟩
        have HP2 := Lib.hid hp2
        rw [hp2] at OC
        clear hp2
        generalize wd (allN L id k) = p at *
        generalize wd (inP T.us 0 T.c.toNat) = y at *
        have t1 : V2.cell? ⟨wr.heap.size, 1, none⟩ = some (.int .i64 T.c) := by rw [blk_cell ht2]; rfl
        have t2 : V2.cell? ⟨wr.heap.size, 2, none⟩ = some (.int .i64 T.d) := by rw [blk_cell ht2]; rfl
        have t3 : V2.cell? ⟨wr.heap.size, 3, none⟩ = some (.int .i64 T.t) := by rw [blk_cell ht2]; rfl
        have t4 : V2.cell? ⟨wr.heap.size, 4, none⟩ = some (.int .i64 T.p) := by rw [blk_cell ht2]; rfl
        have t5 : V2.cell? ⟨wr.heap.size, 5, none⟩ = some (.slice T.a1 T.ch.length T.c1) := by rw [blk_cell ht2]; rfl
        have t6 : V2.cell? ⟨wr.heap.size, 6, none⟩ = some (.slice T.a2 T.us.length T.c2) := by rw [blk_cell ht2]; rfl
        have a0 : V2.cell? ⟨w.heap.size + 1, 0, none⟩ = some (.int .u64 (p 0)) := by rw [blk_cell ha2.all]; rfl
        have a1 : V2.cell? ⟨w.heap.size + 1, 1, none⟩ = some (.int .u64 (p 1)) := by rw [blk_cell ha2.all]; rfl
        have a2 : V2.cell? ⟨w.heap.size + 1, 2, none⟩ = some (.int .u64 (p 2)) := by rw [blk_cell ha2.all]; rfl
        have a3 : V2.cell? ⟨w.heap.size + 1, 3, none⟩ = some (.int .u64 (p 3)) := by rw [blk_cell ha2.all]; rfl
        clear ha2 ht2
        go_upto_region 6 with fail
        go_region_with (first
          | (go_at_call 14; (refine (UC.out _ (by repeat (first | exact HB2.out | refine bw_drew ?_))).mono ?_); rintro e w1 ⟨rfl, b1⟩; have HA3 := Lib.hid (AllAt.below (V := V2.drew) ⟨bw_drew HA2.out.low, HA2.out.res, HA2.out.all⟩ b1); clear b1; have a0 : w1.cell? ⟨w.heap.size + 1, 0, none⟩ = some (.int .u64 (p 0)) := (by rw [blk_cell HA3.out.all]; rfl); have a1 : w1.cell? ⟨w.heap.size + 1, 1, none⟩ = some (.int .u64 (p 1)) := (by rw [blk_cell HA3.out.all]; rfl); have a2 : w1.cell? ⟨w.heap.size + 1, 2, none⟩ = some (.int .u64 (p 2)) := (by rw [blk_cell HA3.out.all]; rfl); have a3 : w1.cell? ⟨w.heap.size + 1, 3, none⟩ = some (.int .u64 (p 3)) := (by rw [blk_cell HA3.out.all]; rfl); have f0 := blk_free HA3.out.all 0; have f1 := blk_free HA3.out.all 1; have f2 := blk_free HA3.out.all 2; have f3 := blk_free HA3.out.all 3)
          | (go_at_call 43; (refine (OC.out _ _ (by simp) (by simp) (by simp) (by simp) (by simp) (by simp) (by simp) (by simp) (by simp)).mono ?_); rintro e w2 ⟨rfl, b2⟩; have HA4 := Lib.hid ((HA3.out.below ((Below.refl _ _).alloc (Nat.le_refl _) _)).below b2); clear b2; have a0 : w2.cell? ⟨w.heap.size + 1, 0, none⟩ = some (.int .u64 (p 0)) := (by rw [blk_cell HA4.out.all]; rfl); have a1 : w2.cell? ⟨w.heap.size + 1, 1, none⟩ = some (.int .u64 (p 1)) := (by rw [blk_cell HA4.out.all]; rfl); have a2 : w2.cell? ⟨w.heap.size + 1, 2, none⟩ = some (.int .u64 (p 2)) := (by rw [blk_cell HA4.out.all]; rfl); have a3 : w2.cell? ⟨w.heap.size + 1, 3, none⟩ = some (.int .u64 (p 3)) := (by rw [blk_cell HA4.out.all]; rfl); have f0 := blk_free HA4.out.all 0; have f1 := blk_free HA4.out.all 1; have f2 := blk_free HA4.out.all 2; have f3 := blk_free HA4.out.all 3))
        all_goals
          go_wp2
          go_roundw
          case rel => exact ⟨k + 1, by omega, by go_num, by rw [HP2.out]; exact HA4.out.put p2⟩
          case measure => simp [intOf]; omega
    · obtain rfl : k = n := by omega
      have hres := HA.out.res
      have a0 : wr.cell? ⟨w.heap.size + 1, 0, none⟩ = some (.int .u64 (wd (allN L id k) 0)) := by rw [blk_cell HA.out.all]; rfl
      have a1 : wr.cell? ⟨w.heap.size + 1, 1, none⟩ = some (.int .u64 (wd (allN L id k) 1)) := by rw [blk_cell HA.out.all]; rfl
      have a2 : wr.cell? ⟨w.heap.size + 1, 2, none⟩ = some (.int .u64 (wd (allN L id k) 2)) := by rw [blk_cell HA.out.all]; rfl
      have a3 : wr.cell? ⟨w.heap.size + 1, 3, none⟩ = some (.int .u64 (wd (allN L id k) 3)) := by rw [blk_cell HA.out.all]; rfl
      have z0 : wr.cell? ⟨w.heap.size, 0, none⟩ = some (.int .u64 0) := by rw [blk_cell hres]; rfl
      have z1 : wr.cell? ⟨w.heap.size, 1, none⟩ = some (.int .u64 0) := by rw [blk_cell hres]; rfl
      have z2 : wr.cell? ⟨w.heap.size, 2, none⟩ = some (.int .u64 0) := by rw [blk_cell hres]; rfl
      have z3 : wr.cell? ⟨w.heap.size, 3, none⟩ = some (.int .u64 0) := by rw [blk_cell hres]; rfl
      have f0 := blk_free hres 0
      have f1 := blk_free hres 1
      have f2 := blk_free hres 2
      have f3 := blk_free hres 3
      have hz := Blk4.set (show Blk4 wr w.heap.size 0 0 0 0 from hres) (wd (allN L id k) 0) (wd (allN L id k) 1) (wd (allN L id k) 2) (wd (allN L id k) 3)
      have HZ := Lib.hid hz.cells
      clear hres hz
      obtain ⟨p, hp⟩ : ∃ p, wd (allN L id k) = p := ⟨_, rfl⟩
      have HP := Lib.hid hp
      rw [hp] at a0 a1 a2 a3 HZ
      clear hp
      go_wp2
      obtain ⟨y0, y1, y2, y3⟩ := HZ.out
      refine bodyPost_ret (v := .agg #[.int .u64 (p 0), .int .u64 (p 1), .int .u64 (p 2), .int .u64 (p 3)]) ?_ rfl ⟨by rw [← HP.out], ?_⟩
      · simp [results, Try.results22, go_sem, y0, y1, y2, y3]
      · exact below_set4 HA.out.low (Nat.le_refl _) (p 0) (p 1) (p 2) (p 3)
end Go.Proofs.Ytcanbjgbpkofaaa

/-
  The walks over a tick of a job's work.
-/
namespace Go.Proofs.Ytcanbjgbpkofaaa
open Go.RowKit Go.Maps

set_option maxRecDepth 100000 in
set_option maxHeartbeats 4000000 in
theorem may_step (x : TV) (rel dn dm db rl : Int) (p : Nat → Bool) (w : World) : Calls Try.prog 38 #[.agg #[.int .i64 x.id, .int .i64 x.c, .int .i64 x.d, .int .i64 x.t, .int .i64 x.p, .slice x.a1 x.ch.length x.c1, .slice x.a2 x.us.length x.c2], .int .i64 rel, .agg #[.int .i64 dn, .int .i64 dm, .int .i64 db, .int .i64 rl, .int .u64 (wd p 0), .int .u64 (wd p 1), .int .u64 (wd p 2), .int .u64 (wd p 3)]] w fun e w' => e = .returned (.bool (decide (Fits x.id rel ⟨dn, dm, db, rl, p⟩))) ∧ Below w.heap.size w w' := by
  have M := Lib.hid (may_any x.id)
  obtain ⟨q, hq⟩ : ∃ q, decide (Fits x.id rel ⟨dn, dm, db, rl, p⟩) = q := ⟨_, rfl⟩
  rw [hq]
  have HQ := Lib.hid hq
  clear hq
  generalize wd p = y
  by_cases h0 : okOwn x.id
  · skip
    rw [decide_eq_true h0] at M
    by_cases h1 : 0 ≤ rel
    · skip
      have d1 : decide (0 ≤ rel) = true := decide_eq_true h1
      by_cases h2 : rel ≤ 1000
      · skip
        have d2 : decide (rel ≤ 1000) = true := decide_eq_true h2
        by_cases h3 : 0 ≤ dn
        · skip
          have d3 : decide (0 ≤ dn) = true := decide_eq_true h3
          by_cases h4 : dn < dm
          · skip
            have d4 : decide (dn < dm) = true := decide_eq_true h4
            by_cases h5 : 0 ≤ db
            · skip
              have d5 : decide (0 ≤ db) = true := decide_eq_true h5
              obtain rfl : q = true := by rw [← HQ.out]; exact decide_eq_true ⟨h0, h1, h2, h3, h4, h5⟩
              clear HQ h0
              go_enter Try.func38, Try.ntmps38
              go_wp2_with (go_at_call 40; refine (M.out _).mono ?_; rintro e w1 ⟨rfl, rfl⟩)
              go_ret
              exact ⟨rfl, (by repeat (first | exact Below.refl _ _ | (with_reducible assumption) | refine bw_alloc ?_ _ | refine bw_drew ?_))⟩
            · skip
              obtain rfl : q = false := by rw [← HQ.out]; exact decide_eq_false (fun z => h5 z.2.2.2.2.2)
              have d5 : decide (0 ≤ db) = false := decide_eq_false h5
              clear HQ h0
              go_enter Try.func38, Try.ntmps38
              go_wp2_with (go_at_call 40; refine (M.out _).mono ?_; rintro e w1 ⟨rfl, rfl⟩)
              go_ret
              exact ⟨rfl, (by repeat (first | exact Below.refl _ _ | (with_reducible assumption) | refine bw_alloc ?_ _ | refine bw_drew ?_))⟩
          · skip
            obtain rfl : q = false := by rw [← HQ.out]; exact decide_eq_false (fun z => h4 z.2.2.2.2.1)
            have d4 : decide (dn < dm) = false := decide_eq_false h4
            clear HQ h0
            go_enter Try.func38, Try.ntmps38
            go_wp2_with (go_at_call 40; refine (M.out _).mono ?_; rintro e w1 ⟨rfl, rfl⟩)
            go_ret
            exact ⟨rfl, (by repeat (first | exact Below.refl _ _ | (with_reducible assumption) | refine bw_alloc ?_ _ | refine bw_drew ?_))⟩
        · skip
          obtain rfl : q = false := by rw [← HQ.out]; exact decide_eq_false (fun z => h3 z.2.2.2.1)
          have d3 : decide (0 ≤ dn) = false := decide_eq_false h3
          clear HQ h0
          go_enter Try.func38, Try.ntmps38
          go_wp2_with (go_at_call 40; refine (M.out _).mono ?_; rintro e w1 ⟨rfl, rfl⟩)
          go_ret
          exact ⟨rfl, (by repeat (first | exact Below.refl _ _ | (with_reducible assumption) | refine bw_alloc ?_ _ | refine bw_drew ?_))⟩
      · skip
        obtain rfl : q = false := by rw [← HQ.out]; exact decide_eq_false (fun z => h2 z.2.2.1)
        have d2 : decide (rel ≤ 1000) = false := decide_eq_false h2
        clear HQ h0
        go_enter Try.func38, Try.ntmps38
        go_wp2_with (go_at_call 40; refine (M.out _).mono ?_; rintro e w1 ⟨rfl, rfl⟩)
        go_ret
        exact ⟨rfl, (by repeat (first | exact Below.refl _ _ | (with_reducible assumption) | refine bw_alloc ?_ _ | refine bw_drew ?_))⟩
    · skip
      obtain rfl : q = false := by rw [← HQ.out]; exact decide_eq_false (fun z => h1 z.2.1)
      have d1 : decide (0 ≤ rel) = false := decide_eq_false h1
      clear HQ h0
      go_enter Try.func38, Try.ntmps38
      go_wp2_with (go_at_call 40; refine (M.out _).mono ?_; rintro e w1 ⟨rfl, rfl⟩)
      go_ret
      exact ⟨rfl, (by repeat (first | exact Below.refl _ _ | (with_reducible assumption) | refine bw_alloc ?_ _ | refine bw_drew ?_))⟩
  · skip
    obtain rfl : q = false := by rw [← HQ.out]; exact decide_eq_false (fun z => h0 z.1)
    rw [decide_eq_false h0] at M
    clear HQ h0
    go_enter Try.func38, Try.ntmps38
    go_wp2_with (go_at_call 40; refine (M.out _).mono ?_; rintro e w1 ⟨rfl, rfl⟩)
    go_ret
    exact ⟨rfl, (by repeat (first | exact Below.refl _ _ | (with_reducible assumption) | refine bw_alloc ?_ _ | refine bw_drew ?_))⟩

/-- What a tick has ready to come back. -/
structure Outs (T : TypeId) (w : World) (b r n : Nat) (L : Nat → Int) (W : World) : Prop where
  low : Turn (fun k => k = r) w W
  rb : W.heap[w.heap.size + 1 + 1]? = some (.cells #[.int .i64 0, .int .i64 0, .int .i64 0, .int .i64 0, .int .u64 0, .int .u64 0, .int .u64 0, .int .u64 0] WT (0, 0))
  ch : Ch T W b r n L
  bl : b < w.heap.size
  rl : r < w.heap.size
theorem Outs.put {T : TypeId} {w W : World} {b r n : Nat} {L : Nat → Int} (h : Outs T w b r n L W) (o : Nat) (v : Value) : Outs T w b r n L (W.setCell ⟨w.heap.size + 1, o, none⟩ v) := by
  have h1 := h.bl
  have h2 := h.rl
  refine ⟨h.low.setCell (p := ⟨w.heap.size + 1, o, none⟩) (fun q => absurd q (by show ¬ w.heap.size + 1 < _; omega)) v, (blk_far (a := ⟨w.heap.size + 1, o, none⟩) (by show w.heap.size + 1 + 1 ≠ w.heap.size + 1; omega) v).trans h.rb, ?_, h1, h2⟩
  obtain ⟨cur, h3, h4, h5⟩ := h.ch.row
  exact ⟨(blk_far (a := ⟨w.heap.size + 1, o, none⟩) (by show b ≠ w.heap.size + 1; omega) v).trans h.ch.str, ⟨cur, (blk_far (a := ⟨w.heap.size + 1, o, none⟩) (by show r ≠ w.heap.size + 1; omega) v).trans h3, h4, h5⟩, h.ch.ne, h.ch.few, h.ch.wf⟩
/-- A set is used. -/
theorem used {T : TypeId} {w W : World} {x : TV} {a b c d : Int} {y : Nat → Nat} {g r n : Nat} {L : Nat → Int} (h : StepAt (fun k => k = r) w x a b c d y W) (hc : Ch T W g r n L) (hr : r < w.heap.size) {i : Nat} (hi : i < n) {o : Int} (ho : okOwn o) :
    StepAt (fun k => k = r) w x a b c d y (W.setCell ⟨r, i, none⟩ (.int .i64 o)).drew ∧ Ch T (W.setCell ⟨r, i, none⟩ (.int .i64 o)).drew g r n (putL L i o) :=
  ⟨(h.turn (Turn.setCell (S := fun k => k = r) (p := ⟨r, i, none⟩) (Turn.refl _ W) (fun _ => rfl) _) hr).below (bw_drew (Below.refl _ _)), (hc.put hi ho).below (bw_drew (Below.refl _ _))⟩
theorem Outs.ends {T : TypeId} {w W : World} {b r n : Nat} {L : Nat → Int} (h : Outs T w b r n L W) (y0 y1 y2 y3 y4 y5 y6 y7 : Value) :
    (((((((((W.setCell ⟨(w.heap.size + 1 + 1), 0, none⟩ y0).setCell ⟨(w.heap.size + 1 + 1), 1, none⟩ y1).setCell ⟨(w.heap.size + 1 + 1), 2, none⟩ y2).setCell ⟨(w.heap.size + 1 + 1), 3, none⟩ y3).setCell ⟨(w.heap.size + 1 + 1), 4, none⟩ y4).setCell ⟨(w.heap.size + 1 + 1), 5, none⟩ y5).setCell ⟨(w.heap.size + 1 + 1), 6, none⟩ y6).setCell ⟨(w.heap.size + 1 + 1), 7, none⟩ y7).cell? ⟨w.heap.size + 1 + 1, 0, none⟩ = some y0 ∧ ((((((((W.setCell ⟨(w.heap.size + 1 + 1), 0, none⟩ y0).setCell ⟨(w.heap.size + 1 + 1), 1, none⟩ y1).setCell ⟨(w.heap.size + 1 + 1), 2, none⟩ y2).setCell ⟨(w.heap.size + 1 + 1), 3, none⟩ y3).setCell ⟨(w.heap.size + 1 + 1), 4, none⟩ y4).setCell ⟨(w.heap.size + 1 + 1), 5, none⟩ y5).setCell ⟨(w.heap.size + 1 + 1), 6, none⟩ y6).setCell ⟨(w.heap.size + 1 + 1), 7, none⟩ y7).cell? ⟨w.heap.size + 1 + 1, 1, none⟩ = some y1 ∧ ((((((((W.setCell ⟨(w.heap.size + 1 + 1), 0, none⟩ y0).setCell ⟨(w.heap.size + 1 + 1), 1, none⟩ y1).setCell ⟨(w.heap.size + 1 + 1), 2, none⟩ y2).setCell ⟨(w.heap.size + 1 + 1), 3, none⟩ y3).setCell ⟨(w.heap.size + 1 + 1), 4, none⟩ y4).setCell ⟨(w.heap.size + 1 + 1), 5, none⟩ y5).setCell ⟨(w.heap.size + 1 + 1), 6, none⟩ y6).setCell ⟨(w.heap.size + 1 + 1), 7, none⟩ y7).cell? ⟨w.heap.size + 1 + 1, 2, none⟩ = some y2 ∧ ((((((((W.setCell ⟨(w.heap.size + 1 + 1), 0, none⟩ y0).setCell ⟨(w.heap.size + 1 + 1), 1, none⟩ y1).setCell ⟨(w.heap.size + 1 + 1), 2, none⟩ y2).setCell ⟨(w.heap.size + 1 + 1), 3, none⟩ y3).setCell ⟨(w.heap.size + 1 + 1), 4, none⟩ y4).setCell ⟨(w.heap.size + 1 + 1), 5, none⟩ y5).setCell ⟨(w.heap.size + 1 + 1), 6, none⟩ y6).setCell ⟨(w.heap.size + 1 + 1), 7, none⟩ y7).cell? ⟨w.heap.size + 1 + 1, 3, none⟩ = some y3 ∧ ((((((((W.setCell ⟨(w.heap.size + 1 + 1), 0, none⟩ y0).setCell ⟨(w.heap.size + 1 + 1), 1, none⟩ y1).setCell ⟨(w.heap.size + 1 + 1), 2, none⟩ y2).setCell ⟨(w.heap.size + 1 + 1), 3, none⟩ y3).setCell ⟨(w.heap.size + 1 + 1), 4, none⟩ y4).setCell ⟨(w.heap.size + 1 + 1), 5, none⟩ y5).setCell ⟨(w.heap.size + 1 + 1), 6, none⟩ y6).setCell ⟨(w.heap.size + 1 + 1), 7, none⟩ y7).cell? ⟨w.heap.size + 1 + 1, 4, none⟩ = some y4 ∧ ((((((((W.setCell ⟨(w.heap.size + 1 + 1), 0, none⟩ y0).setCell ⟨(w.heap.size + 1 + 1), 1, none⟩ y1).setCell ⟨(w.heap.size + 1 + 1), 2, none⟩ y2).setCell ⟨(w.heap.size + 1 + 1), 3, none⟩ y3).setCell ⟨(w.heap.size + 1 + 1), 4, none⟩ y4).setCell ⟨(w.heap.size + 1 + 1), 5, none⟩ y5).setCell ⟨(w.heap.size + 1 + 1), 6, none⟩ y6).setCell ⟨(w.heap.size + 1 + 1), 7, none⟩ y7).cell? ⟨w.heap.size + 1 + 1, 5, none⟩ = some y5 ∧ ((((((((W.setCell ⟨(w.heap.size + 1 + 1), 0, none⟩ y0).setCell ⟨(w.heap.size + 1 + 1), 1, none⟩ y1).setCell ⟨(w.heap.size + 1 + 1), 2, none⟩ y2).setCell ⟨(w.heap.size + 1 + 1), 3, none⟩ y3).setCell ⟨(w.heap.size + 1 + 1), 4, none⟩ y4).setCell ⟨(w.heap.size + 1 + 1), 5, none⟩ y5).setCell ⟨(w.heap.size + 1 + 1), 6, none⟩ y6).setCell ⟨(w.heap.size + 1 + 1), 7, none⟩ y7).cell? ⟨w.heap.size + 1 + 1, 6, none⟩ = some y6 ∧ ((((((((W.setCell ⟨(w.heap.size + 1 + 1), 0, none⟩ y0).setCell ⟨(w.heap.size + 1 + 1), 1, none⟩ y1).setCell ⟨(w.heap.size + 1 + 1), 2, none⟩ y2).setCell ⟨(w.heap.size + 1 + 1), 3, none⟩ y3).setCell ⟨(w.heap.size + 1 + 1), 4, none⟩ y4).setCell ⟨(w.heap.size + 1 + 1), 5, none⟩ y5).setCell ⟨(w.heap.size + 1 + 1), 6, none⟩ y6).setCell ⟨(w.heap.size + 1 + 1), 7, none⟩ y7).cell? ⟨w.heap.size + 1 + 1, 7, none⟩ = some y7) ∧ Ch T ((((((((W.setCell ⟨(w.heap.size + 1 + 1), 0, none⟩ y0).setCell ⟨(w.heap.size + 1 + 1), 1, none⟩ y1).setCell ⟨(w.heap.size + 1 + 1), 2, none⟩ y2).setCell ⟨(w.heap.size + 1 + 1), 3, none⟩ y3).setCell ⟨(w.heap.size + 1 + 1), 4, none⟩ y4).setCell ⟨(w.heap.size + 1 + 1), 5, none⟩ y5).setCell ⟨(w.heap.size + 1 + 1), 6, none⟩ y6).setCell ⟨(w.heap.size + 1 + 1), 7, none⟩ y7) b r n L ∧ Turn (fun k => k = r) w ((((((((W.setCell ⟨(w.heap.size + 1 + 1), 0, none⟩ y0).setCell ⟨(w.heap.size + 1 + 1), 1, none⟩ y1).setCell ⟨(w.heap.size + 1 + 1), 2, none⟩ y2).setCell ⟨(w.heap.size + 1 + 1), 3, none⟩ y3).setCell ⟨(w.heap.size + 1 + 1), 4, none⟩ y4).setCell ⟨(w.heap.size + 1 + 1), 5, none⟩ y5).setCell ⟨(w.heap.size + 1 + 1), 6, none⟩ y6).setCell ⟨(w.heap.size + 1 + 1), 7, none⟩ y7) := by
  have h1 := h.bl
  have h2 := h.rl
  exact ⟨cells8 (box_set8 h.rb y0 y1 y2 y3 y4 y5 y6 y7), h.ch.out8 (by omega) (by omega) y0 y1 y2 y3 y4 y5 y6 y7, turn8 h.low (by omega) y0 y1 y2 y3 y4 y5 y6 y7⟩

set_option maxRecDepth 100000 in
set_option maxHeartbeats 8000000 in
theorem work_any (x : TV) (rel dn dm db rl : Int) (p : Nat → Bool) (w : World) {b r n : Nat} {L : Nat → Int} (h : Ch CT w b r n L) (hx : x.ok w) (hf : Fits x.id rel ⟨dn, dm, db, rl, p⟩) (hm : dm ≤ 9223372036854775807) :
    Calls Try.prog 39 #[.pointer (some ⟨b, 0, none⟩), .agg #[.int .i64 x.id, .int .i64 x.c, .int .i64 x.d, .int .i64 x.t, .int .i64 x.p, .slice x.a1 x.ch.length x.c1, .slice x.a2 x.us.length x.c2], .int .i64 rel, .agg #[.int .i64 dn, .int .i64 dm, .int .i64 db, .int .i64 rl, .int .u64 (wd p 0), .int .u64 (wd p 1), .int .u64 (wd p 2), .int .u64 (wd p 3)]] w (StepBack CT b r n (workL n L x.id (accOf x dn).1 (accOf x dn).2) (workW n L x.id (accOf x dn).1 (accOf x dn).2 rel ⟨dn, dm, db, rl, p⟩) w) := by
  obtain ⟨hf0, hf1, hf2, hf3, hf4, hf5⟩ := hf
  dsimp only at hf3 hf4 hf5
  have AC := Lib.hid (fun W (hW : Below w.heap.size w W) => acc_any x dn W (hx.below hW))
  generalize (accOf x dn).2 = u at AC ⊢
  generalize (accOf x dn).1 = s at AC ⊢
  have hn := h.few
  have HC := Lib.hid (fun W (hW : Below w.heap.size w W) => chas_any (h.below hW) s)
  have BL := Lib.hid h.lt.1
  have RL := Lib.hid h.lt.2
  have CH := Lib.hid h
  have H0 := Lib.hid (stepAt_new (fun k => k = r) w x dn dm db rl (wd p))
  obtain ⟨t0, t1, t2, t3, t4, t5, t6, q0, q1, q2, q3, q4, q5, q6, q7, f0, f1, f2, f3, f4, f5, f6, f7, r0, r1, r2, r3, r4, r5, r6, r7, g0, g1, g2, g3, g4, g5, g6, g7⟩ := H0.out.facts
  have u1 : IntKind.i64.wrap (dn + 1) = dn + 1 := IntWalk.i64_in _ (by omega)
  have u2 : IntKind.i64.wrap (rel - 1) = rel - 1 := IntWalk.i64_in _ (by omega)
  obtain ⟨rl', hrl⟩ : ∃ rl', IntKind.i64.wrap (rl + 1) = rl' := ⟨_, rfl⟩
  have HRL := Lib.hid hrl
  clear hx hm hf1 hf2 hf3 hf4 hf5
  by_cases hu : u = true
  · subst hu
    by_cases hs : okSet n s
    · have e2 : workL n L x.id s true = putL L s x.id := by unfold workL; rw [if_pos ⟨rfl, hs⟩]
      have US := Lib.hid (fun W (hW : Below w.heap.size w W) => cuse_any (h.below hW) s x.id)
      unfold UseBack at US
      have e3 : useL n L s x.id = putL L s x.id := by unfold useL; rw [if_pos ⟨hs, hf0⟩]
      have e4 : useB n L s x.id = decide (L s.toNat = x.id) := by unfold useB; rw [if_pos ⟨hs, hf0⟩]
      rw [e3, e4] at US
      have HB := Lib.hid (fun W => has_any p s (by have := hs.2; omega) W)
      have WI := Lib.hid (fun W => with_any p s (by have := hs.2; omega) W)
      rw [decide_eq_true hs] at HC
      rw [e2]
      have HS := Lib.hid hs
      clear e2 e3 e4 h hf0 hs
      by_cases hk : L s.toNat = x.id
      · rw [decide_eq_true hk] at US
        rw [show workW n L x.id s true rel ⟨dn, dm, db, rl, p⟩ = (⟨dn + 1, dm, db, rl, bitUp p s⟩, false) by unfold workW; rw [if_pos ⟨rfl, HS.out⟩, if_neg (fun z => z.1 hk)]]
        unfold StepBack
        dsimp only
        unfold bitUp
        clear HB hk
        generalize wd (orP p (oneP s)) = z at *
        generalize wd p = y at *
        go_enter Try.func39, Try.ntmps39
        go_wp2_with (first
          | (go_at_call 47; (refine (AC.out _ (by repeat (first | exact Below.refl _ _ | (with_reducible assumption) | refine bw_alloc ?_ _ | refine bw_drew ?_))).mono ?_); rintro e w1 ⟨rfl, b1⟩; have H1 := Lib.hid (H0.out.below b1); obtain ⟨t0, t1, t2, t3, t4, t5, t6, q0, q1, q2, q3, q4, q5, q6, q7, f0, f1, f2, f3, f4, f5, f6, f7, r0, r1, r2, r3, r4, r5, r6, r7, g0, g1, g2, g3, g4, g5, g6, g7⟩ := H1.out.facts; have B1 := Lib.hid (below_up ((by repeat (first | exact Below.refl _ _ | (with_reducible assumption) | refine bw_alloc ?_ _ | refine bw_drew ?_)) : Below w.heap.size w _) b1); clear b1)
          | (go_at_call 51; (refine (HC.out _ B1.out).mono ?_); rintro e w2 ⟨rfl, rfl⟩)
          | (go_at_call 52; (refine (US.out _ B1.out).mono ?_); rintro e w3 ⟨rfl, c3, k3⟩; have H3 := Lib.hid (H1.out.turn k3 RL.out); have C3 := Lib.hid c3; obtain ⟨t0, t1, t2, t3, t4, t5, t6, q0, q1, q2, q3, q4, q5, q6, q7, f0, f1, f2, f3, f4, f5, f6, f7, r0, r1, r2, r3, r4, r5, r6, r7, g0, g1, g2, g3, g4, g5, g6, g7⟩ := H3.out.facts; clear c3 k3)
          | (go_at_call 53; (refine (HB.out _).mono ?_); rintro e w4 ⟨rfl, b4⟩; have H4 := Lib.hid (H3.out.below b4); have C4 := Lib.hid (C3.out.below b4); obtain ⟨t0, t1, t2, t3, t4, t5, t6, q0, q1, q2, q3, q4, q5, q6, q7, f0, f1, f2, f3, f4, f5, f6, f7, r0, r1, r2, r3, r4, r5, r6, r7, g0, g1, g2, g3, g4, g5, g6, g7⟩ := H4.out.facts; clear b4)
          | (go_at_call 42; (refine (WI.out _).mono ?_); rintro e w5 ⟨rfl, b5⟩; have H5 := Lib.hid (H3.out.below b5); have C5 := Lib.hid (C3.out.below b5); obtain ⟨t0, t1, t2, t3, t4, t5, t6, q0, q1, q2, q3, q4, q5, q6, q7, f0, f1, f2, f3, f4, f5, f6, f7, r0, r1, r2, r3, r4, r5, r6, r7, g0, g1, g2, g3, g4, g5, g6, g7⟩ := H5.out.facts; clear b5))
        obtain ⟨⟨s0, s1, s2, s3, s4, s5, s6, s7⟩, hC, hT⟩ := ((((((⟨H5.out.low, H5.out.rb, C5.out, BL.out, RL.out⟩ : Outs CT w b r n (putL L s x.id) w5).put 4 (.int .u64 (z 0))).put 5 (.int .u64 (z 1))).put 6 (.int .u64 (z 2))).put 7 (.int .u64 (z 3))).put 0 (.int .i64 (dn + 1))).ends (.int .i64 (dn + 1)) (.int .i64 dm) (.int .i64 db) (.int .i64 rl) (.int .u64 (z 0)) (.int .u64 (z 1)) (.int .u64 (z 2)) (.int .u64 (z 3))
        exact bodyPost_ret (v := .tuple #[.agg #[.int .i64 (dn + 1), .int .i64 dm, .int .i64 (db), .int .i64 rl, .int .u64 (z 0), .int .u64 (z 1), .int .u64 (z 2), .int .u64 (z 3)], .bool false]) (by simp [results, Try.results39, go_sem, s0, s1, s2, s3, s4, s5, s6, s7]) rfl ⟨rfl, hC, hT⟩
      · rw [decide_eq_false hk] at US
        have CASES : (rel ≤ 0 ∧ True) ∨ (0 < rel ∧ hasP p s = false) ∨ (0 < rel ∧ hasP p s = true) := by
          by_cases q : rel ≤ 0
          · exact .inl ⟨q, trivial⟩
          · cases e : hasP p s
            · exact .inr (.inl ⟨by omega, rfl⟩)
            · exact .inr (.inr ⟨by omega, rfl⟩)
        rcases CASES with ⟨hr, _⟩ | ⟨hr, hq⟩ | ⟨hr, hq⟩
        · rw [show workW n L x.id s true rel ⟨dn, dm, db, rl, p⟩ = (⟨dn + 1, dm, db, rl, bitUp p s⟩, false) by unfold workW; rw [if_pos ⟨rfl, HS.out⟩, if_neg (fun z => absurd z.2.1 (by omega))]]
          unfold StepBack
          dsimp only
          unfold bitUp
          have d1 : decide (0 < rel) = false := decide_eq_false (by omega)
          have d2 : ¬ 0 < rel := by omega
          clear HB hk
          generalize wd (orP p (oneP s)) = z at *
          generalize wd p = y at *
          go_enter Try.func39, Try.ntmps39
          go_wp2_with (first
            | (go_at_call 47; (refine (AC.out _ (by repeat (first | exact Below.refl _ _ | (with_reducible assumption) | refine bw_alloc ?_ _ | refine bw_drew ?_))).mono ?_); rintro e w1 ⟨rfl, b1⟩; have H1 := Lib.hid (H0.out.below b1); obtain ⟨t0, t1, t2, t3, t4, t5, t6, q0, q1, q2, q3, q4, q5, q6, q7, f0, f1, f2, f3, f4, f5, f6, f7, r0, r1, r2, r3, r4, r5, r6, r7, g0, g1, g2, g3, g4, g5, g6, g7⟩ := H1.out.facts; have B1 := Lib.hid (below_up ((by repeat (first | exact Below.refl _ _ | (with_reducible assumption) | refine bw_alloc ?_ _ | refine bw_drew ?_)) : Below w.heap.size w _) b1); clear b1)
            | (go_at_call 51; (refine (HC.out _ B1.out).mono ?_); rintro e w2 ⟨rfl, rfl⟩)
            | (go_at_call 52; (refine (US.out _ B1.out).mono ?_); rintro e w3 ⟨rfl, c3, k3⟩; have H3 := Lib.hid (H1.out.turn k3 RL.out); have C3 := Lib.hid c3; obtain ⟨t0, t1, t2, t3, t4, t5, t6, q0, q1, q2, q3, q4, q5, q6, q7, f0, f1, f2, f3, f4, f5, f6, f7, r0, r1, r2, r3, r4, r5, r6, r7, g0, g1, g2, g3, g4, g5, g6, g7⟩ := H3.out.facts; clear c3 k3)
            | (go_at_call 53; (refine (HB.out _).mono ?_); rintro e w4 ⟨rfl, b4⟩; have H4 := Lib.hid (H3.out.below b4); have C4 := Lib.hid (C3.out.below b4); obtain ⟨t0, t1, t2, t3, t4, t5, t6, q0, q1, q2, q3, q4, q5, q6, q7, f0, f1, f2, f3, f4, f5, f6, f7, r0, r1, r2, r3, r4, r5, r6, r7, g0, g1, g2, g3, g4, g5, g6, g7⟩ := H4.out.facts; clear b4)
            | (go_at_call 42; (refine (WI.out _).mono ?_); rintro e w5 ⟨rfl, b5⟩; have H5 := Lib.hid (H3.out.below b5); have C5 := Lib.hid (C3.out.below b5); obtain ⟨t0, t1, t2, t3, t4, t5, t6, q0, q1, q2, q3, q4, q5, q6, q7, f0, f1, f2, f3, f4, f5, f6, f7, r0, r1, r2, r3, r4, r5, r6, r7, g0, g1, g2, g3, g4, g5, g6, g7⟩ := H5.out.facts; clear b5))
          obtain ⟨⟨s0, s1, s2, s3, s4, s5, s6, s7⟩, hC, hT⟩ := ((((((⟨H5.out.low, H5.out.rb, C5.out, BL.out, RL.out⟩ : Outs CT w b r n (putL L s x.id) w5).put 4 (.int .u64 (z 0))).put 5 (.int .u64 (z 1))).put 6 (.int .u64 (z 2))).put 7 (.int .u64 (z 3))).put 0 (.int .i64 (dn + 1))).ends (.int .i64 (dn + 1)) (.int .i64 dm) (.int .i64 db) (.int .i64 rl) (.int .u64 (z 0)) (.int .u64 (z 1)) (.int .u64 (z 2)) (.int .u64 (z 3))
          exact bodyPost_ret (v := .tuple #[.agg #[.int .i64 (dn + 1), .int .i64 dm, .int .i64 (db), .int .i64 rl, .int .u64 (z 0), .int .u64 (z 1), .int .u64 (z 2), .int .u64 (z 3)], .bool false]) (by simp [results, Try.results39, go_sem, s0, s1, s2, s3, s4, s5, s6, s7]) rfl ⟨rfl, hC, hT⟩
        · rw [show workW n L x.id s true rel ⟨dn, dm, db, rl, p⟩ = (⟨dn + 1, dm, db, rl, bitUp p s⟩, false) by unfold workW; rw [if_pos ⟨rfl, HS.out⟩, if_neg (fun z => by rw [hq] at z; cases z.2.2)]]
          unfold StepBack
          dsimp only
          unfold bitUp
          rw [hq] at HB
          clear hk hq
          generalize wd (orP p (oneP s)) = z at *
          generalize wd p = y at *
          go_enter Try.func39, Try.ntmps39
          go_wp2_with (first
            | (go_at_call 47; (refine (AC.out _ (by repeat (first | exact Below.refl _ _ | (with_reducible assumption) | refine bw_alloc ?_ _ | refine bw_drew ?_))).mono ?_); rintro e w1 ⟨rfl, b1⟩; have H1 := Lib.hid (H0.out.below b1); obtain ⟨t0, t1, t2, t3, t4, t5, t6, q0, q1, q2, q3, q4, q5, q6, q7, f0, f1, f2, f3, f4, f5, f6, f7, r0, r1, r2, r3, r4, r5, r6, r7, g0, g1, g2, g3, g4, g5, g6, g7⟩ := H1.out.facts; have B1 := Lib.hid (below_up ((by repeat (first | exact Below.refl _ _ | (with_reducible assumption) | refine bw_alloc ?_ _ | refine bw_drew ?_)) : Below w.heap.size w _) b1); clear b1)
            | (go_at_call 51; (refine (HC.out _ B1.out).mono ?_); rintro e w2 ⟨rfl, rfl⟩)
            | (go_at_call 52; (refine (US.out _ B1.out).mono ?_); rintro e w3 ⟨rfl, c3, k3⟩; have H3 := Lib.hid (H1.out.turn k3 RL.out); have C3 := Lib.hid c3; obtain ⟨t0, t1, t2, t3, t4, t5, t6, q0, q1, q2, q3, q4, q5, q6, q7, f0, f1, f2, f3, f4, f5, f6, f7, r0, r1, r2, r3, r4, r5, r6, r7, g0, g1, g2, g3, g4, g5, g6, g7⟩ := H3.out.facts; clear c3 k3)
            | (go_at_call 53; (refine (HB.out _).mono ?_); rintro e w4 ⟨rfl, b4⟩; have H4 := Lib.hid (H3.out.below b4); have C4 := Lib.hid (C3.out.below b4); obtain ⟨t0, t1, t2, t3, t4, t5, t6, q0, q1, q2, q3, q4, q5, q6, q7, f0, f1, f2, f3, f4, f5, f6, f7, r0, r1, r2, r3, r4, r5, r6, r7, g0, g1, g2, g3, g4, g5, g6, g7⟩ := H4.out.facts; clear b4)
            | (go_at_call 42; (refine (WI.out _).mono ?_); rintro e w5 ⟨rfl, b5⟩; have H5 := Lib.hid (H4.out.below b5); have C5 := Lib.hid (C4.out.below b5); obtain ⟨t0, t1, t2, t3, t4, t5, t6, q0, q1, q2, q3, q4, q5, q6, q7, f0, f1, f2, f3, f4, f5, f6, f7, r0, r1, r2, r3, r4, r5, r6, r7, g0, g1, g2, g3, g4, g5, g6, g7⟩ := H5.out.facts; clear b5))
          obtain ⟨⟨s0, s1, s2, s3, s4, s5, s6, s7⟩, hC, hT⟩ := ((((((⟨H5.out.low, H5.out.rb, C5.out, BL.out, RL.out⟩ : Outs CT w b r n (putL L s x.id) w5).put 4 (.int .u64 (z 0))).put 5 (.int .u64 (z 1))).put 6 (.int .u64 (z 2))).put 7 (.int .u64 (z 3))).put 0 (.int .i64 (dn + 1))).ends (.int .i64 (dn + 1)) (.int .i64 dm) (.int .i64 db) (.int .i64 rl) (.int .u64 (z 0)) (.int .u64 (z 1)) (.int .u64 (z 2)) (.int .u64 (z 3))
          exact bodyPost_ret (v := .tuple #[.agg #[.int .i64 (dn + 1), .int .i64 dm, .int .i64 (db), .int .i64 rl, .int .u64 (z 0), .int .u64 (z 1), .int .u64 (z 2), .int .u64 (z 3)], .bool false]) (by simp [results, Try.results39, go_sem, s0, s1, s2, s3, s4, s5, s6, s7]) rfl ⟨rfl, hC, hT⟩
        · rw [show workW n L x.id s true rel ⟨dn, dm, db, rl, p⟩ = (⟨dn, dm, rel - 1, wUp rl, p⟩, true) by unfold workW; rw [if_pos ⟨rfl, HS.out⟩, if_pos ⟨hk, hr, hq⟩]]
          unfold StepBack
          dsimp only
          unfold wUp
          rw [hrl]
          rw [hq] at HB
          clear WI hk hq
          generalize wd p = y at *
          go_enter Try.func39, Try.ntmps39
          go_wp2_with (first
            | (go_at_call 47; (refine (AC.out _ (by repeat (first | exact Below.refl _ _ | (with_reducible assumption) | refine bw_alloc ?_ _ | refine bw_drew ?_))).mono ?_); rintro e w1 ⟨rfl, b1⟩; have H1 := Lib.hid (H0.out.below b1); obtain ⟨t0, t1, t2, t3, t4, t5, t6, q0, q1, q2, q3, q4, q5, q6, q7, f0, f1, f2, f3, f4, f5, f6, f7, r0, r1, r2, r3, r4, r5, r6, r7, g0, g1, g2, g3, g4, g5, g6, g7⟩ := H1.out.facts; have B1 := Lib.hid (below_up ((by repeat (first | exact Below.refl _ _ | (with_reducible assumption) | refine bw_alloc ?_ _ | refine bw_drew ?_)) : Below w.heap.size w _) b1); clear b1)
            | (go_at_call 51; (refine (HC.out _ B1.out).mono ?_); rintro e w2 ⟨rfl, rfl⟩)
            | (go_at_call 52; (refine (US.out _ B1.out).mono ?_); rintro e w3 ⟨rfl, c3, k3⟩; have H3 := Lib.hid (H1.out.turn k3 RL.out); have C3 := Lib.hid c3; obtain ⟨t0, t1, t2, t3, t4, t5, t6, q0, q1, q2, q3, q4, q5, q6, q7, f0, f1, f2, f3, f4, f5, f6, f7, r0, r1, r2, r3, r4, r5, r6, r7, g0, g1, g2, g3, g4, g5, g6, g7⟩ := H3.out.facts; clear c3 k3)
            | (go_at_call 53; (refine (HB.out _).mono ?_); rintro e w4 ⟨rfl, b4⟩; have H4 := Lib.hid (H3.out.below b4); have C4 := Lib.hid (C3.out.below b4); obtain ⟨t0, t1, t2, t3, t4, t5, t6, q0, q1, q2, q3, q4, q5, q6, q7, f0, f1, f2, f3, f4, f5, f6, f7, r0, r1, r2, r3, r4, r5, r6, r7, g0, g1, g2, g3, g4, g5, g6, g7⟩ := H4.out.facts; clear b4)
            | (go_at_call 42; (refine (WI.out _).mono ?_); rintro e w5 ⟨rfl, b5⟩; have H5 := Lib.hid (H4.out.below b5); have C5 := Lib.hid (C4.out.below b5); obtain ⟨t0, t1, t2, t3, t4, t5, t6, q0, q1, q2, q3, q4, q5, q6, q7, f0, f1, f2, f3, f4, f5, f6, f7, r0, r1, r2, r3, r4, r5, r6, r7, g0, g1, g2, g3, g4, g5, g6, g7⟩ := H5.out.facts; clear b5))
          obtain ⟨⟨s0, s1, s2, s3, s4, s5, s6, s7⟩, hC, hT⟩ := (((⟨H4.out.low, H4.out.rb, C4.out, BL.out, RL.out⟩ : Outs CT w b r n (putL L s x.id) w4).put 2 (.int .i64 (rel - 1))).put 3 (.int .i64 rl')).ends (.int .i64 dn) (.int .i64 dm) (.int .i64 (rel - 1)) (.int .i64 rl') (.int .u64 (y 0)) (.int .u64 (y 1)) (.int .u64 (y 2)) (.int .u64 (y 3))
          exact bodyPost_ret (v := .tuple #[.agg #[.int .i64 (dn), .int .i64 dm, .int .i64 (rel - 1), .int .i64 rl', .int .u64 (y 0), .int .u64 (y 1), .int .u64 (y 2), .int .u64 (y 3)], .bool true]) (by simp [results, Try.results39, go_sem, s0, s1, s2, s3, s4, s5, s6, s7]) rfl ⟨rfl, hC, hT⟩
    · rw [show workL n L x.id s true = L by unfold workL; rw [if_neg (fun z => hs z.2)]]
      rw [show workW n L x.id s true rel ⟨dn, dm, db, rl, p⟩ = (⟨dn + 1, dm, db, rl, p⟩, false) by unfold workW; rw [if_neg (fun z => hs z.2)]]
      unfold StepBack
      dsimp only
      rw [decide_eq_false hs] at HC
      clear h hf0 hs
      generalize wd p = y at *
      go_enter Try.func39, Try.ntmps39
      go_wp2_with (first
        | (go_at_call 47; (refine (AC.out _ (by repeat (first | exact Below.refl _ _ | (with_reducible assumption) | refine bw_alloc ?_ _ | refine bw_drew ?_))).mono ?_); rintro e w1 ⟨rfl, b1⟩; have H1 := Lib.hid (H0.out.below b1); obtain ⟨t0, t1, t2, t3, t4, t5, t6, q0, q1, q2, q3, q4, q5, q6, q7, f0, f1, f2, f3, f4, f5, f6, f7, r0, r1, r2, r3, r4, r5, r6, r7, g0, g1, g2, g3, g4, g5, g6, g7⟩ := H1.out.facts; have B1 := Lib.hid (below_up ((by repeat (first | exact Below.refl _ _ | (with_reducible assumption) | refine bw_alloc ?_ _ | refine bw_drew ?_)) : Below w.heap.size w _) b1); clear b1)
        | (go_at_call 51; (refine (HC.out _ B1.out).mono ?_); rintro e w2 ⟨rfl, rfl⟩))
      obtain ⟨⟨s0, s1, s2, s3, s4, s5, s6, s7⟩, hC, hT⟩ := ((⟨H1.out.low, H1.out.rb, CH.out.below B1.out, BL.out, RL.out⟩ : Outs CT w b r n L w2).put 0 (.int .i64 (dn + 1))).ends (.int .i64 (dn + 1)) (.int .i64 dm) (.int .i64 db) (.int .i64 rl) (.int .u64 (y 0)) (.int .u64 (y 1)) (.int .u64 (y 2)) (.int .u64 (y 3))
      exact bodyPost_ret (v := .tuple #[.agg #[.int .i64 (dn + 1), .int .i64 dm, .int .i64 (db), .int .i64 rl, .int .u64 (y 0), .int .u64 (y 1), .int .u64 (y 2), .int .u64 (y 3)], .bool false]) (by simp [results, Try.results39, go_sem, s0, s1, s2, s3, s4, s5, s6, s7]) rfl ⟨rfl, hC, hT⟩
  · obtain rfl : u = false := by cases u; rfl; exact absurd rfl hu
    rw [show workL n L x.id s false = L by unfold workL; rw [if_neg (fun z => by cases z.1)]]
    rw [show workW n L x.id s false rel ⟨dn, dm, db, rl, p⟩ = (⟨dn + 1, dm, db, rl, p⟩, false) by unfold workW; rw [if_neg (fun z => by cases z.1)]]
    unfold StepBack
    dsimp only
    clear h hf0 hu HC
    generalize wd p = y at *
    go_enter Try.func39, Try.ntmps39
    go_wp2_with (go_at_call 47; (refine (AC.out _ (by repeat (first | exact Below.refl _ _ | (with_reducible assumption) | refine bw_alloc ?_ _ | refine bw_drew ?_))).mono ?_); rintro e w1 ⟨rfl, b1⟩; have H1 := Lib.hid (H0.out.below b1); obtain ⟨t0, t1, t2, t3, t4, t5, t6, q0, q1, q2, q3, q4, q5, q6, q7, f0, f1, f2, f3, f4, f5, f6, f7, r0, r1, r2, r3, r4, r5, r6, r7, g0, g1, g2, g3, g4, g5, g6, g7⟩ := H1.out.facts; have B1 := Lib.hid (below_up ((by repeat (first | exact Below.refl _ _ | (with_reducible assumption) | refine bw_alloc ?_ _ | refine bw_drew ?_)) : Below w.heap.size w _) b1); clear b1)
    obtain ⟨⟨s0, s1, s2, s3, s4, s5, s6, s7⟩, hC, hT⟩ := ((⟨H1.out.low, H1.out.rb, CH.out.below B1.out, BL.out, RL.out⟩ : Outs CT w b r n L w1).put 0 (.int .i64 (dn + 1))).ends (.int .i64 (dn + 1)) (.int .i64 dm) (.int .i64 db) (.int .i64 rl) (.int .u64 (y 0)) (.int .u64 (y 1)) (.int .u64 (y 2)) (.int .u64 (y 3))
    exact bodyPost_ret (v := .tuple #[.agg #[.int .i64 (dn + 1), .int .i64 dm, .int .i64 (db), .int .i64 rl, .int .u64 (y 0), .int .u64 (y 1), .int .u64 (y 2), .int .u64 (y 3)], .bool false]) (by simp [results, Try.results39, go_sem, s0, s1, s2, s3, s4, s5, s6, s7]) rfl ⟨rfl, hC, hT⟩
end Go.Proofs.Ytcanbjgbpkofaaa

/-
  The walk over a tick.
-/
namespace Go.Proofs.Ytcanbjgbpkofaaa
open Go.RowKit Go.Maps

set_option maxRecDepth 100000 in
set_option maxHeartbeats 8000000 in
theorem cstep_any (x : TV) (rel dn dm db rl : Int) (p : Nat → Bool) (w : World) {b r n : Nat} {L : Nat → Int} (h : Ch CT w b r n L) (hx : x.ok w) (hm : dm ≤ 9223372036854775807) (hd : db ≤ 9223372036854775807) :
    Calls Try.prog 19 #[.pointer (some ⟨b, 0, none⟩), .agg #[.int .i64 x.id, .int .i64 x.c, .int .i64 x.d, .int .i64 x.t, .int .i64 x.p, .slice x.a1 x.ch.length x.c1, .slice x.a2 x.us.length x.c2], .int .i64 rel, .agg #[.int .i64 dn, .int .i64 dm, .int .i64 db, .int .i64 rl, .int .u64 (wd p 0), .int .u64 (wd p 1), .int .u64 (wd p 2), .int .u64 (wd p 3)]] w (StepBack CT b r n (stepL n L x.id (accOf x dn).1 (accOf x dn).2 rel ⟨dn, dm, db, rl, p⟩) (stepW n L x.id (accOf x dn).1 (accOf x dn).2 rel ⟨dn, dm, db, rl, p⟩) w) := by
  have MS := Lib.hid (fun W => may_step x rel dn dm db rl p W)
  have BL := Lib.hid h.lt.1
  have RL := Lib.hid h.lt.2
  have CH := Lib.hid h
  have H0 := Lib.hid (stepAt_new (fun k => k = r) w x dn dm db rl (wd p))
  obtain ⟨t0, t1, t2, t3, t4, t5, t6, q0, q1, q2, q3, q4, q5, q6, q7, f0, f1, f2, f3, f4, f5, f6, f7, r0, r1, r2, r3, r4, r5, r6, r7, g0, g1, g2, g3, g4, g5, g6, g7⟩ := H0.out.facts
  obtain ⟨rl', hrl⟩ : ∃ rl', IntKind.i64.wrap (rl + 1) = rl' := ⟨_, rfl⟩
  have HRL := Lib.hid hrl
  by_cases hf : Fits x.id rel ⟨dn, dm, db, rl, p⟩
  · have hf5 : 0 ≤ db := hf.2.2.2.2.2
    have u2 : IntKind.i64.wrap (db - 1) = db - 1 := IntWalk.i64_in _ (by omega)
    rw [decide_eq_true hf] at MS
    by_cases hp : 0 < db
    · rw [show stepL n L x.id (accOf x dn).1 (accOf x dn).2 rel ⟨dn, dm, db, rl, p⟩ = L by unfold stepL; rw [if_neg (fun z => z.2 hp)]]
      rw [show stepW n L x.id (accOf x dn).1 (accOf x dn).2 rel ⟨dn, dm, db, rl, p⟩ = (⟨dn, dm, db - 1, wUp rl, p⟩, true) by unfold stepW; rw [if_pos hf, if_pos hp]]
      unfold StepBack
      dsimp only
      unfold wUp
      rw [hrl]
      clear hf h hx
      generalize wd p = y at *
      go_enter Try.func19, Try.ntmps19
      go_wp2_with (go_at_call 38; (refine (MS.out _).mono ?_); rintro e w1 ⟨rfl, b1⟩; have H1 := Lib.hid (H0.out.below b1); obtain ⟨t0, t1, t2, t3, t4, t5, t6, q0, q1, q2, q3, q4, q5, q6, q7, f0, f1, f2, f3, f4, f5, f6, f7, r0, r1, r2, r3, r4, r5, r6, r7, g0, g1, g2, g3, g4, g5, g6, g7⟩ := H1.out.facts; have B1 := Lib.hid (below_up ((by repeat (first | exact Below.refl _ _ | (with_reducible assumption) | refine bw_alloc ?_ _ | refine bw_drew ?_)) : Below w.heap.size w _) b1); clear b1)
      obtain ⟨⟨s0, s1, s2, s3, s4, s5, s6, s7⟩, hC, hT⟩ := (((⟨H1.out.low, H1.out.rb, CH.out.below B1.out, BL.out, RL.out⟩ : Outs CT w b r n L w1).put 2 (.int .i64 (db - 1))).put 3 (.int .i64 rl')).ends (.int .i64 dn) (.int .i64 dm) (.int .i64 (db - 1)) (.int .i64 rl') (.int .u64 (y 0)) (.int .u64 (y 1)) (.int .u64 (y 2)) (.int .u64 (y 3))
      exact bodyPost_ret (v := .tuple #[.agg #[.int .i64 (dn), .int .i64 dm, .int .i64 (db - 1), .int .i64 rl', .int .u64 (y 0), .int .u64 (y 1), .int .u64 (y 2), .int .u64 (y 3)], .bool true]) (by simp [results, Try.results19, go_sem, s0, s1, s2, s3, s4, s5, s6, s7]) rfl ⟨rfl, hC, hT⟩
    · rw [show stepL n L x.id (accOf x dn).1 (accOf x dn).2 rel ⟨dn, dm, db, rl, p⟩ = workL n L x.id (accOf x dn).1 (accOf x dn).2 by unfold stepL; rw [if_pos ⟨hf, hp⟩]]
      rw [show stepW n L x.id (accOf x dn).1 (accOf x dn).2 rel ⟨dn, dm, db, rl, p⟩ = workW n L x.id (accOf x dn).1 (accOf x dn).2 rel ⟨dn, dm, db, rl, p⟩ by unfold stepW; rw [if_pos hf, if_neg hp]]
      have WA := Lib.hid (fun W (hW : Below w.heap.size w W) => work_any x rel dn dm db rl p W (h.below hW) (hx.below hW) hf hm)
      unfold StepBack at *
      generalize workL n L x.id (accOf x dn).1 (accOf x dn).2 = L' at *
      generalize workW n L x.id (accOf x dn).1 (accOf x dn).2 rel ⟨dn, dm, db, rl, p⟩ = oo at *
      obtain ⟨⟨a', b', c', d', p'⟩, fl⟩ := oo
      dsimp only at *
      generalize wd p' = z at *
      clear hf h hx
      generalize wd p = y at *
      go_enter Try.func19, Try.ntmps19
      go_wp2_with (first
        | (go_at_call 38; (refine (MS.out _).mono ?_); rintro e w1 ⟨rfl, b1⟩; have H1 := Lib.hid (H0.out.below b1); obtain ⟨t0, t1, t2, t3, t4, t5, t6, q0, q1, q2, q3, q4, q5, q6, q7, f0, f1, f2, f3, f4, f5, f6, f7, r0, r1, r2, r3, r4, r5, r6, r7, g0, g1, g2, g3, g4, g5, g6, g7⟩ := H1.out.facts; have B1 := Lib.hid (below_up ((by repeat (first | exact Below.refl _ _ | (with_reducible assumption) | refine bw_alloc ?_ _ | refine bw_drew ?_)) : Below w.heap.size w _) b1); clear b1)
        | (go_at_call 39; (refine (WA.out _ B1.out).mono ?_); rintro e w3 ⟨rfl, c3, k3⟩; have H3 := Lib.hid (H1.out.turn k3 RL.out); have C3 := Lib.hid c3; obtain ⟨t0, t1, t2, t3, t4, t5, t6, q0, q1, q2, q3, q4, q5, q6, q7, f0, f1, f2, f3, f4, f5, f6, f7, r0, r1, r2, r3, r4, r5, r6, r7, g0, g1, g2, g3, g4, g5, g6, g7⟩ := H3.out.facts; clear c3 k3))
      obtain ⟨⟨s0, s1, s2, s3, s4, s5, s6, s7⟩, hC, hT⟩ := ((⟨H3.out.low, H3.out.rb, C3.out, BL.out, RL.out⟩ : Outs CT w b r n L' w3)).ends (.int .i64 (a')) (.int .i64 b') (.int .i64 (c')) (.int .i64 d') (.int .u64 (z 0)) (.int .u64 (z 1)) (.int .u64 (z 2)) (.int .u64 (z 3))
      exact bodyPost_ret (v := .tuple #[.agg #[.int .i64 (a'), .int .i64 b', .int .i64 (c'), .int .i64 d', .int .u64 (z 0), .int .u64 (z 1), .int .u64 (z 2), .int .u64 (z 3)], .bool fl]) (by simp [results, Try.results19, go_sem, s0, s1, s2, s3, s4, s5, s6, s7]) rfl ⟨rfl, hC, hT⟩
  · rw [show stepL n L x.id (accOf x dn).1 (accOf x dn).2 rel ⟨dn, dm, db, rl, p⟩ = L by unfold stepL; rw [if_neg (fun z => hf z.1)]]
    rw [show stepW n L x.id (accOf x dn).1 (accOf x dn).2 rel ⟨dn, dm, db, rl, p⟩ = (⟨dn, dm, db, rl, p⟩, false) by unfold stepW; rw [if_neg hf]]
    rw [decide_eq_false hf] at MS
    unfold StepBack
    dsimp only
    clear hf h hx
    generalize wd p = y at *
    go_enter Try.func19, Try.ntmps19
    go_wp2_with (go_at_call 38; (refine (MS.out _).mono ?_); rintro e w1 ⟨rfl, b1⟩; have H1 := Lib.hid (H0.out.below b1); obtain ⟨t0, t1, t2, t3, t4, t5, t6, q0, q1, q2, q3, q4, q5, q6, q7, f0, f1, f2, f3, f4, f5, f6, f7, r0, r1, r2, r3, r4, r5, r6, r7, g0, g1, g2, g3, g4, g5, g6, g7⟩ := H1.out.facts; have B1 := Lib.hid (below_up ((by repeat (first | exact Below.refl _ _ | (with_reducible assumption) | refine bw_alloc ?_ _ | refine bw_drew ?_)) : Below w.heap.size w _) b1); clear b1)
    obtain ⟨⟨s0, s1, s2, s3, s4, s5, s6, s7⟩, hC, hT⟩ := ((⟨H1.out.low, H1.out.rb, CH.out.below B1.out, BL.out, RL.out⟩ : Outs CT w b r n L w1)).ends (.int .i64 dn) (.int .i64 dm) (.int .i64 db) (.int .i64 rl) (.int .u64 (y 0)) (.int .u64 (y 1)) (.int .u64 (y 2)) (.int .u64 (y 3))
    exact bodyPost_ret (v := .tuple #[.agg #[.int .i64 (dn), .int .i64 dm, .int .i64 (db), .int .i64 rl, .int .u64 (y 0), .int .u64 (y 1), .int .u64 (y 2), .int .u64 (y 3)], .bool false]) (by simp [results, Try.results19, go_sem, s0, s1, s2, s3, s4, s5, s6, s7]) rfl ⟨rfl, hC, hT⟩
set_option maxRecDepth 100000 in
set_option maxHeartbeats 4000000 in
theorem cstep_nil (x : TV) (rel dn dm db rl : Int) (y : Nat → Nat) (w : World) :
    Calls Try.prog 19 #[.pointer none, .agg #[.int .i64 x.id, .int .i64 x.c, .int .i64 x.d, .int .i64 x.t, .int .i64 x.p, .slice x.a1 x.ch.length x.c1, .slice x.a2 x.us.length x.c2], .int .i64 rel, .agg #[.int .i64 dn, .int .i64 dm, .int .i64 db, .int .i64 rl, .int .u64 (y 0), .int .u64 (y 1), .int .u64 (y 2), .int .u64 (y 3)]] w fun e w' => e = .returned (.tuple #[.agg #[.int .i64 dn, .int .i64 dm, .int .i64 db, .int .i64 rl, .int .u64 (y 0), .int .u64 (y 1), .int .u64 (y 2), .int .u64 (y 3)], .bool false]) ∧ Below w.heap.size w w' := by
  have H0 := Lib.hid (stepAt_new (fun _ => False) w x dn dm db rl y)
  obtain ⟨t0, t1, t2, t3, t4, t5, t6, q0, q1, q2, q3, q4, q5, q6, q7, f0, f1, f2, f3, f4, f5, f6, f7, r0, r1, r2, r3, r4, r5, r6, r7, g0, g1, g2, g3, g4, g5, g6, g7⟩ := H0.out.facts
  go_enter Try.func19, Try.ntmps19
  go_wp2
  exact bodyPost_ret (v := .tuple #[.agg #[.int .i64 dn, .int .i64 dm, .int .i64 db, .int .i64 rl, .int .u64 (y 0), .int .u64 (y 1), .int .u64 (y 2), .int .u64 (y 3)], .bool false]) (by
    have e := cells8 (heap_alloc_new ((w.alloc (.cells #[.int .i64 x.id, .int .i64 x.c, .int .i64 x.d, .int .i64 x.t, .int .i64 x.p, .slice x.a1 x.ch.length x.c1, .slice x.a2 x.us.length x.c2] TT)).alloc (.cells #[.int .i64 dn, .int .i64 dm, .int .i64 db, .int .i64 rl, .int .u64 (y 0), .int .u64 (y 1), .int .u64 (y 2), .int .u64 (y 3)] WT)) (.cells #[.int .i64 dn, .int .i64 dm, .int .i64 db, .int .i64 rl, .int .u64 (y 0), .int .u64 (y 1), .int .u64 (y 2), .int .u64 (y 3)] WT))
    rw [World.size_alloc, World.size_alloc] at e
    obtain ⟨s0, s1, s2, s3, s4, s5, s6, s7⟩ := e
    clear H0 t0 t1 t2 t3 t4 t5 t6 q0 q1 q2 q3 q4 q5 q6 q7 f0 f1 f2 f3 f4 f5 f6 f7 r0 r1 r2 r3 r4 r5 r6 r7 g0 g1 g2 g3 g4 g5 g6 g7
    simp [results, Try.results19, go_sem, s0, s1, s2, s3, s4, s5, s6, s7]) rfl ⟨rfl, (by repeat (first | exact Below.refl _ _ | (with_reducible assumption) | refine bw_alloc ?_ _ | refine bw_drew ?_))⟩
end Go.Proofs.Ytcanbjgbpkofaaa

/-
  The walks over the sets that belong to one, told one by one; a flush.
-/
namespace Go.Proofs.Ytcanbjgbpkofaaa
open Go.RowKit Go.Maps Go.Shelf
attribute [local go_sem] Oper.semAt_some

/-! ### all made nobody's -/
theorem clear_ch {w : World} {b r n : Nat} {L : Nat → Int} (h : Ch CT w b r n L) :
    ∃ w', (∀ ty, (Builtin.clear_ #[34] ty #[.slice (some ⟨r, 0, none⟩) n n]).run Try.prog w = .ok (.tuple #[]) w') ∧ Ch CT w' b r n (fun _ => 0) ∧ Turn (fun k => k = r) w w' := by
  obtain ⟨cur, hb, h1, h2⟩ := h.row
  have hz : ∀ w : World, (zeroValue 3).run Try.prog w = .ok (.int .i64 0) w := fun w => by kernel_rfl
  have hzc : Builtin.zeroCells (Value.int .i64 0).cells n = madeCells #[.int .i64 0] n := by
    unfold Builtin.zeroCells madeCells
    simp [Value.cells]
  by_cases hn : n = 0
  · subst hn
    refine ⟨w, fun ty => ?_, ⟨h.str, ⟨cur, hb, h1, fun i hi => by omega⟩, h.ne, h.few, fun _ => by unfold I64; omega⟩, Turn.refl _ _⟩
    simp [Builtin.clear_, run_underlying Try.underlying34]
  obtain ⟨Z, hZ, hzl, hz1, hz2⟩ : ∃ Z : List Value, (Builtin.zeroCells (Value.int .i64 0).cells n).toList = Z ∧ Z.length = n ∧ (∀ v ∈ Z, v.oneCell' = true) ∧ ∀ i, i < n → Z[i]? = some (.int .i64 0) := by
    refine ⟨_, rfl, ?_, ?_, ?_⟩
    · rw [hzc, Array.length_toList, size_madeCells]
    · intro v hv
      rw [hzc] at hv
      obtain ⟨i, hi, e⟩ := List.getElem_of_mem hv
      have hi' : i < n := by rw [Array.length_toList, size_madeCells] at hi; exact hi
      have := made_at hi'
      rw [← Array.getElem?_toList, List.getElem?_eq_getElem hi, e] at this
      cases this; rfl
    · intro i hi
      rw [hzc, Array.getElem?_toList]; exact made_at hi
  have hfit : 0 + 0 + Z.length ≤ cur.size := by omega
  have hst := run_storeCells_at Try.prog r 0 3 Z 0 cur w hb hfit hz1
  have hrow : RowC (w.setRow r (cur.toList.take (0 + 0) ++ Z ++ cur.toList.drop (0 + 0 + Z.length)).toArray) r n (fun _ => 0) := by
    refine ⟨_, setRow_heap w r cur _ 3 (0, 0) hb, ?_, fun i hi => ?_⟩
    · simp; omega
    · have := hz2 i hi
      have hzl' : i < Z.length := by omega
      simp [List.getElem?_append_left hzl', this]
  refine ⟨w.setRow r (cur.toList.take (0 + 0) ++ Z ++ cur.toList.drop (0 + 0 + Z.length)).toArray, fun ty => ?_, ⟨(setRow_other w r b _ h.ne).trans h.str, hrow, h.ne, h.few, fun _ => by unfold I64; omega⟩, ⟨rfl, rfl, rfl, by simp, fun k hk hne => setRow_other w r k _ hne⟩⟩
  obtain ⟨m, hm⟩ : ∃ m, n = m + 1 := ⟨n - 1, by omega⟩
  rw [hm] at hZ ⊢
  simp [Builtin.clear_, run_underlying Try.underlying34, hz, hZ, hst]
set_option maxHeartbeats 1000000 in
theorem cflush_any {w : World} {b r n : Nat} {L : Nat → Int} (h : Ch CT w b r n L) : Calls Try.prog 21 #[.pointer (some ⟨b, 0, none⟩)] w fun e w' => e = .returned (.tuple #[]) ∧ Ch CT w' b r n (fun _ => 0) ∧ Turn (fun k => k = r) w w' := by
  obtain ⟨w9, hcl, h9, t9⟩ := clear_ch h
  have c0 := h.slice
  have H9 := Lib.hid h9
  have T9 := Lib.hid t9
  clear h h9 t9
  go_enter Try.func21, Try.ntmps21
  go_wp2
  go_end0
  exact ⟨rfl, H9.out, T9.out⟩
set_option maxHeartbeats 1000000 in
theorem cflush_nil (w : World) : Calls Try.prog 21 #[.pointer none] w fun e w' => e = .returned (.tuple #[]) ∧ w' = w := by
  go_enter Try.func21, Try.ntmps21
  go_wp2
  go_end0
  exact ⟨rfl, rfl⟩
end Go.Proofs.Ytcanbjgbpkofaaa

/-
  Two works held against each other; is the program awake.
-/
namespace Go.Proofs.Ytcanbjgbpkofaaa
open Go.RowKit Go.Maps

theorem workGuard : Try.prog.eqGuardType Try.prog.depth 50 = false := by kernel_rfl
theorem workFields : Try.prog.underlying 50 = some (.struct (Try.prog.fieldsOf 50)) := by kernel_rfl
theorem workStood : Try.prog.stoodInHeld 50 = false := by kernel_rfl
theorem bits_same (d : Nat) (x0 x1 x2 x3 : Nat) (w : World) : (Op.equalIn (d + 1 + 1) 32 (.agg #[.int .u64 x0, .int .u64 x1, .int .u64 x2, .int .u64 x3]) (.agg #[.int .u64 x0, .int .u64 x1, .int .u64 x2, .int .u64 x3])).run Try.prog w = .ok true w := by
  rw [set_eq_d, eq4_self]
theorem part_bits (a b c d : Int) (x0 x1 x2 x3 : Nat) (w : World) : (part 32 #[.int .i64 a, .int .i64 b, .int .i64 c, .int .i64 d, .int .u64 x0, .int .u64 x1, .int .u64 x2, .int .u64 x3] 4).run Try.prog w = .ok (.agg #[.int .u64 x0, .int .u64 x1, .int .u64 x2, .int .u64 x3]) w := by kernel_rfl
set_option maxHeartbeats 1000000 in
theorem work_same (a b c d : Int) (x : Nat → Nat) (w : World) : (Op.equalIn 10000 50 (.agg #[.int .i64 a, .int .i64 b, .int .i64 c, .int .i64 d, .int .u64 (x 0), .int .u64 (x 1), .int .u64 (x 2), .int .u64 (x 3)]) (.agg #[.int .i64 a, .int .i64 b, .int .i64 c, .int .i64 d, .int .u64 (x 0), .int .u64 (x 1), .int .u64 (x 2), .int .u64 (x 3)])).run Try.prog w = .ok true w := by
  have u1 := Try.underlying2
  have h1 : ∀ (y : Int) (w : World), (Op.equalIn 9999 2 (.int .i64 y) (.int .i64 y)).run Try.prog w = .ok true w := fun y w => by
    rw [show (9999 : Nat) = 9998 + 1 from rfl, run_equalIn_int w 9998 2 .i64 .i64 y y u1]; simp
  have h2 : ∀ w : World, (Op.equalIn 9999 32 (.agg #[.int .u64 (x 0), .int .u64 (x 1), .int .u64 (x 2), .int .u64 (x 3)]) (.agg #[.int .u64 (x 0), .int .u64 (x 1), .int .u64 (x 2), .int .u64 (x 3)])).run Try.prog w = .ok true w := fun w => bits_same 9997 _ _ _ _ w
  have p0 : ∀ w : World, (part 2 (#[.int .i64 a, .int .i64 b, .int .i64 c, .int .i64 d, .int .u64 (x 0), .int .u64 (x 1), .int .u64 (x 2), .int .u64 (x 3)]) 0).run Try.prog w = .ok (.int .i64 a) w := fun w => by kernel_rfl
  have p1 : ∀ w : World, (part 2 (#[.int .i64 a, .int .i64 b, .int .i64 c, .int .i64 d, .int .u64 (x 0), .int .u64 (x 1), .int .u64 (x 2), .int .u64 (x 3)]) 1).run Try.prog w = .ok (.int .i64 b) w := fun w => by kernel_rfl
  have p2 : ∀ w : World, (part 2 (#[.int .i64 a, .int .i64 b, .int .i64 c, .int .i64 d, .int .u64 (x 0), .int .u64 (x 1), .int .u64 (x 2), .int .u64 (x 3)]) 2).run Try.prog w = .ok (.int .i64 c) w := fun w => by kernel_rfl
  have p3 : ∀ w : World, (part 2 (#[.int .i64 a, .int .i64 b, .int .i64 c, .int .i64 d, .int .u64 (x 0), .int .u64 (x 1), .int .u64 (x 2), .int .u64 (x 3)]) 3).run Try.prog w = .ok (.int .i64 d) w := fun w => by kernel_rfl
  have p4 := fun w => part_bits a b c d (x 0) (x 1) (x 2) (x 3) w
  rw [show (10000 : Nat) = 9999 + 1 from rfl, run_equalIn_struct w 9999 _ _ _ workFields workStood]
  simp only [Program.fieldsOf, Try.underlying50]
  simp [Op.eqFields, Sem.run_bind, p0, p1, p2, p3, p4, h1, h2, Result.andThen_ok]

theorem work_eql (a b c d : Int) (x : Nat → Nat) (w : World) : (binOp .eql 50 (.agg #[.int .i64 a, .int .i64 b, .int .i64 c, .int .i64 d, .int .u64 (x 0), .int .u64 (x 1), .int .u64 (x 2), .int .u64 (x 3)]) (.agg #[.int .i64 a, .int .i64 b, .int .i64 c, .int .i64 d, .int .u64 (x 0), .int .u64 (x 1), .int .u64 (x 2), .int .u64 (x 3)])).run Try.prog w = .ok (.bool true) w := by
  rw [run_eql_struct, work_same]; rfl
theorem bitsGuard : Try.prog.eqGuardType Try.prog.depth 32 = false := by kernel_rfl
theorem bits_eql (x0 x1 x2 x3 y0 y1 y2 y3 : Nat) (w : World) : (binOp .eql 32 (.agg #[.int .u64 x0, .int .u64 x1, .int .u64 x2, .int .u64 x3]) (.agg #[.int .u64 y0, .int .u64 y1, .int .u64 y2, .int .u64 y3])).run Try.prog w = .ok (.bool (eq4 x0 x1 x2 x3 y0 y1 y2 y3)) w := by
  rw [run_eql_struct, set_eq]; rfl
theorem bits_neq (x0 x1 x2 x3 y0 y1 y2 y3 : Nat) (w : World) : (binOp .neq 32 (.agg #[.int .u64 x0, .int .u64 x1, .int .u64 x2, .int .u64 x3]) (.agg #[.int .u64 y0, .int .u64 y1, .int .u64 y2, .int .u64 y3])).run Try.prog w = .ok (.bool (!eq4 x0 x1 x2 x3 y0 y1 y2 y3)) w := by
  rw [run_neq_struct, set_eq]; rfl
theorem none_eql (w : World) : (binOp .eql 32 (.agg #[.int .u64 0, .int .u64 0, .int .u64 0, .int .u64 0]) (.agg #[.int .u64 0, .int .u64 0, .int .u64 0, .int .u64 0])).run Try.prog w = .ok (.bool true) w := bits_eql 0 0 0 0 0 0 0 0 w
theorem none_neq (w : World) : (binOp .neq 32 (.agg #[.int .u64 0, .int .u64 0, .int .u64 0, .int .u64 0]) (.agg #[.int .u64 0, .int .u64 0, .int .u64 0, .int .u64 0])).run Try.prog w = .ok (.bool false) w := bits_neq 0 0 0 0 0 0 0 0 w
theorem work_neq (a b c d : Int) (x : Nat → Nat) (w : World) : (binOp .neq 50 (.agg #[.int .i64 a, .int .i64 b, .int .i64 c, .int .i64 d, .int .u64 (x 0), .int .u64 (x 1), .int .u64 (x 2), .int .u64 (x 3)]) (.agg #[.int .i64 a, .int .i64 b, .int .i64 c, .int .i64 d, .int .u64 (x 0), .int .u64 (x 1), .int .u64 (x 2), .int .u64 (x 3)])).run Try.prog w = .ok (.bool false) w := by
  rw [run_neq_struct, work_same]; rfl

end Go.Proofs.Ytcanbjgbpkofaaa

/-
  The walk over the chapter's example.
-/
namespace Go.Proofs.Ytcanbjgbpkofaaa
open Go.RowKit Go.Maps Go.Shelf
attribute [-go_sem] run_eql_struct run_neq_struct
attribute [local go_sem] bits_eql bitsGuard

/-- The example's task. -/
def awT (b : Nat) : TV := { id := 1, c := 4, d := 0, t := 0, p := 0, a1 := none, ch := [], c1 := 0, a2 := some ⟨b, 0, none⟩, us := [1, 2, 1, 3], c2 := 4 }
theorem awTold (b : Nat) : Told (awT b) := ⟨by show (1 : Int) ≤ 4; omega, by show (4 : Int) ≤ 24; omega, by show (4 : Nat) ≤ 5; omega, fun u hu => by
  have : u = 1 ∨ u = 2 ∨ u = 1 ∨ u = 3 := by simpa [awT] using hu
  omega⟩
theorem awOk {w : World} {b : Nat} (h : w.heap[b]? = some (.cells #[.int .i64 1, .int .i64 2, .int .i64 1, .int .i64 3] 3 (0, 0))) : (awT b).ok w :=
  ⟨.inl rfl, Ints.of_block h (fun j u hj => by
    match j, hj with
    | 0, hj => simp [awT] at hj; subst hj; rfl
    | 1, hj => simp [awT] at hj; subst hj; rfl
    | 2, hj => simp [awT] at hj; subst hj; rfl
    | 3, hj => simp [awT] at hj; subst hj; rfl
    | j + 4, hj => simp [awT] at hj), Nat.le_refl _, by show ((0 : Nat) : Int) ≤ _; omega, Nat.le_refl _, by show ((4 : Nat) : Int) ≤ _; omega⟩
theorem awMost : mostOf [1, 2, 1, 3] 4 (ofN [1, 2, 3] 3) = (1, 1) := by decide +kernel
theorem awUseful : ∀ x, x < 256 → andP (inP [1, 2, 1, 3] 0 2) (inP [1, 2, 1, 3] 2 4) x = ofN [1] 1 x := by decide +kernel
theorem aw_most {w : World} {b : Nat} (h : w.heap[b]? = some (.cells #[.int .i64 1, .int .i64 2, .int .i64 1, .int .i64 3] 3 (0, 0))) :
    Calls Try.prog 16 #[.agg #[.int .i64 1, .int .i64 4, .int .i64 0, .int .i64 0, .int .i64 0, .slice none 0 0, .slice (some ⟨b, 0, none⟩) 4 4], .agg #[.int .u64 (wd (ofN [1, 2, 3] 3) 0), .int .u64 (wd (ofN [1, 2, 3] 3) 1), .int .u64 (wd (ofN [1, 2, 3] 3) 2), .int .u64 (wd (ofN [1, 2, 3] 3) 3)]] w fun e w' => e = .returned (.tuple #[.int .i64 1, .int .i64 1]) ∧ Below w.heap.size w w' := by
  have := most_any (awT b) (awTold b) 4 rfl w (awOk h) (ofN [1, 2, 3] 3)
  rw [show (awT b).us = [1, 2, 1, 3] from rfl, awMost] at this
  exact this
theorem aw_useful {w : World} {b : Nat} (h : w.heap[b]? = some (.cells #[.int .i64 1, .int .i64 2, .int .i64 1, .int .i64 3] 3 (0, 0))) :
    Calls Try.prog 12 #[.agg #[.int .i64 1, .int .i64 4, .int .i64 0, .int .i64 0, .int .i64 0, .slice none 0 0, .slice (some ⟨b, 0, none⟩) 4 4], .int .i64 2] w (SetBack (ofN [1] 1) w) := by
  have := useful_any (awT b) (awTold b) 4 2 rfl w (awOk h)
  rw [show (awT b).us = [1, 2, 1, 3] from rfl, show min 2 4 = 2 from rfl] at this
  unfold SetBack at this ⊢
  rw [wd_congr awUseful (show 0 < 4 by omega), wd_congr awUseful (show 1 < 4 by omega), wd_congr awUseful (show 2 < 4 by omega), wd_congr awUseful (show 3 < 4 by omega)] at this
  exact this
theorem aw_of3 {w : World} {b : Nat} (h : w.heap[b]? = some (.cells #[.int .i64 1, .int .i64 2, .int .i64 3] 3 (0, 0))) :
    Calls Try.prog 23 #[.slice (some ⟨b, 0, none⟩) 3 3] w (SetBack (ofN [1, 2, 3] 3) w) :=
  rof_any [1, 2, 3] (by show ((3 : Nat) : Int) ≤ _; omega) 3 (some ⟨b, 0, none⟩) w (.inr ⟨b, 0, rfl, lt_of_block h, fun k hk => by
    rcases (show k = 0 ∨ k = 1 ∨ k = 2 by simp at hk; omega) with rfl | rfl | rfl <;> (rw [blk_cell h]; rfl)⟩)
theorem aw_of1 {w : World} {b : Nat} (h : w.heap[b]? = some (.cells #[.int .i64 1] 3 (0, 0))) :
    Calls Try.prog 23 #[.slice (some ⟨b, 0, none⟩) 1 1] w (SetBack (ofN [1] 1) w) :=
  rof_any [1] (by show ((1 : Nat) : Int) ≤ _; omega) 1 (some ⟨b, 0, none⟩) w (.inr ⟨b, 0, rfl, lt_of_block h, fun k hk => by
    obtain rfl : k = 0 := by simp at hk; omega
    rw [blk_cell h]; rfl⟩)
set_option maxRecDepth 100000 in
set_option maxHeartbeats 4000000 in
theorem awake_any (w : World) : Calls Try.prog 8 #[] w fun e w' => e = .returned (.bool true) ∧ Below w.heap.size w w' := by
  obtain ⟨q, hq⟩ : ∃ q, ofN [1] 1 = q := ⟨_, rfl⟩
  obtain ⟨r, hr⟩ : ∃ r, ofN [1, 2, 3] 3 = r := ⟨_, rfl⟩
  have U := Lib.hid (fun (w : World) (b : Nat) h => @aw_useful w b h)
  have F1 := Lib.hid (fun (w : World) (b : Nat) h => @aw_of1 w b h)
  have M := Lib.hid (fun (w : World) (b : Nat) h => @aw_most w b h)
  have F3 := Lib.hid (fun (w : World) (b : Nat) h => @aw_of3 w b h)
  unfold SetBack at U F1 F3
  rw [hq] at U F1
  rw [hr] at M F3
  clear hq hr
  have EQ := eq4_self (wd q 0) (wd q 1) (wd q 2) (wd q 3)
  generalize wd q = x at *
  generalize wd r = y at *
  go_enter Try.func8, Try.ntmps8
  go_upto_region 2 with (first
    | (go_at_call 23; (refine (F3.out _ _ (by first | exact (two_boxes w rfl _ _).2)).mono ?_); rintro e w1 ⟨rfl, b1⟩; have HB1 := Lib.hid b1; clear b1)
    | (go_at_call 16; (refine (M.out _ _ (kept_obj HB1.out (two_boxes w rfl _ _).1)).mono ?_); rintro e w2 ⟨rfl, b2⟩; have HB2 := Lib.hid (below_up (below_up ((by repeat (first | exact Below.refl _ _ | (with_reducible assumption) | refine bw_alloc ?_ _ | refine bw_drew ?_)) : Below w.heap.size w _) HB1.out) b2); clear b2))
  clear M F3 HB1
  go_wp2_with (first
    | (go_at_call 12; (refine (U.out _ _ (heap_alloc_new w2 _)).mono ?_); rintro e w3 ⟨rfl, b3⟩; have HB3 := Lib.hid (below_up (bw_alloc HB2.out _) b3); clear b3)
    | (go_at_call 23; (refine (F1.out _ _ (heap_alloc_new w3 _)).mono ?_); rintro e w4 ⟨rfl, b4⟩; have HB4 := Lib.hid (below_up (bw_alloc HB3.out _) b4); clear b4))
  go_ret
  exact ⟨rfl, HB4.out⟩
end Go.Proofs.Ytcanbjgbpkofaaa

/-
  The walk over the system that plain numbers mean.
-/
namespace Go.Proofs.Ytcanbjgbpkofaaa
open Go.RowKit Go.Maps

/-- What is promised of a system by plain numbers. -/
structure Made (sets r : Int) (L : List TV) : Prop where
  s1 : 1 ≤ sets
  s8 : sets ≤ 8
  r0 : 0 ≤ r
  r3 : r ≤ 3
  pos : 0 < L.length
  six : L.length ≤ 6
  good : ∀ (k : Nat) (x : TV), L[k]? = some x → Good k sets x
/-- The system that comes back. -/
def MadeBack (w : World) (e : Ending) (w' : World) : Prop :=
  ∃ (s r : Int) (a : Option Addr) (n c : Nat) (L : List TV), e = .returned (.agg #[.int .i64 s, .int .i64 r, .slice a n c]) ∧ OwnT w' w.heap.size (.slice a n c) L ∧ AllOk w' L ∧ (∀ x ∈ L, IsI w' x.a1 x.ch ∧ IsI w' x.a2 x.us) ∧ Made s r L ∧ Below w.heap.size w w'

/-- Plain numbers in a box, a system that comes back, one that is being made. -/
structure MakeAt (w : World) (S R : Int) (a : Option Addr) (n cap : Nat) (g : Nat) (s r : Int) (v : Value) (L : List TV) (W : World) : Prop where
  low : Below w.heap.size w W
  gl : w.heap.size + 1 < g
  src : W.heap[w.heap.size]? = some (.cells #[.int .i64 S, .int .i64 R, .slice a n cap] 61 (0, 0))
  res : W.heap[w.heap.size + 1]? = some (.cells #[.int .i64 0, .int .i64 0, .slice none 0 0] 28 (0, 0))
  box : W.heap[g]? = some (.cells #[.int .i64 s, .int .i64 r, v] 28 (0, 0))
  own : OwnT W (g + 1) v L
  ok : AllOk W L
  ints : ∀ x ∈ L, IsI W x.a1 x.ch ∧ IsI W x.a2 x.us
theorem MakeAt.below {w W W' : World} {S R s r : Int} {a : Option Addr} {n cap g : Nat} {v : Value} {L : List TV} (h : MakeAt w S R a n cap g s r v L W) (hb : Below W.heap.size W W') : MakeAt w S R a n cap g s r v L W' :=
  ⟨below_up h.low hb, h.gl, kept_obj hb h.src, kept_obj hb h.res, kept_obj hb h.box, h.own.below hb, h.ok.below hb, fun x hx => ⟨(h.ints x hx).1.below hb, (h.ints x hx).2.below hb⟩⟩
theorem makeAt_new {w W : World} {S R s r : Int} {a : Option Addr} {n cap : Nat} (hl : Below w.heap.size w W) (h1 : W.heap[w.heap.size]? = some (.cells #[.int .i64 S, .int .i64 R, .slice a n cap] 61 (0, 0))) (h2 : W.heap[w.heap.size + 1]? = some (.cells #[.int .i64 0, .int .i64 0, .slice none 0 0] 28 (0, 0))) :
    MakeAt w S R a n cap W.heap.size s r (.slice none 0 0) [] (W.alloc (.cells #[.int .i64 s, .int .i64 r, .slice none 0 0] 28)) :=
  ⟨below_up hl (by repeat (first | exact Below.refl _ _ | (with_reducible assumption) | refine bw_alloc ?_ _ | refine bw_drew ?_)), lt_of_block h2, kept_obj (by repeat (first | exact Below.refl _ _ | (with_reducible assumption) | refine bw_alloc ?_ _ | refine bw_drew ?_)) h1, kept_obj (by repeat (first | exact Below.refl _ _ | (with_reducible assumption) | refine bw_alloc ?_ _ | refine bw_drew ?_)) h2, heap_alloc_new W _, OwnT.nil _ _, (fun x hx => by cases hx), (fun x hx => by cases hx)⟩

/-- A row of numbers is where it was, whatever is stored elsewhere. -/
theorem IsI.kept {w w' : World} {a : Option Addr} {l : List Int} (h : IsI w a l) (hk : ∀ (g : Nat) (cs : Array Value) (T : TypeId) (fr : Nat × Nat), w.heap[g]? = some (.cells cs T fr) → (T = 2 ∨ T = 3) → w'.heap[g]? = w.heap[g]?) : IsI w' a l := by
  rcases h with h | h
  · exact .inl h
  · refine .inr fun g o e => ?_
    obtain ⟨cs, T, fr, h1, h2⟩ := h g o e
    exact ⟨cs, T, fr, (hk g cs T fr h1 h2).trans h1, h2⟩
theorem Ints.kept {w w' : World} {a : Option Addr} {l : List Int} (h : Ints w a l) (hi : IsI w a l) (hk : ∀ (g : Nat) (cs : Array Value) (T : TypeId) (fr : Nat × Nat), w.heap[g]? = some (.cells cs T fr) → (T = 2 ∨ T = 3) → w'.heap[g]? = w.heap[g]?) : Ints w' a l := by
  rcases h with rfl | ⟨g, o, rfl, hc⟩
  · exact .inl rfl
  · rcases hi with rfl | hi
    · exact .inl rfl
    · obtain ⟨cs, T, fr, h1, h2⟩ := hi g o rfl
      refine .inr ⟨g, o, rfl, fun j u hj => ?_⟩
      rw [World.cell?_of_block (hk g cs T fr h1 h2)]; exact hc j u hj
theorem TV.ok.kept {w w' : World} {x : TV} (h : x.ok w) (hi : IsI w x.a1 x.ch ∧ IsI w x.a2 x.us) (hk : ∀ (g : Nat) (cs : Array Value) (T : TypeId) (fr : Nat × Nat), w.heap[g]? = some (.cells cs T fr) → (T = 2 ∨ T = 3) → w'.heap[g]? = w.heap[g]?) : x.ok w' :=
  ⟨h.one.kept hi.1 hk, h.two.kept hi.2 hk, h.l1, h.m1, h.l2, h.m2⟩
theorem OwnT.set {w : World} {B : Nat} {v : Value} {l : List TV} (h : OwnT w B v l) {a : Addr} (ha : a.block < B) (u : Value) : OwnT (w.setCell a u) B v l := ownsRow_setCell_below h ha u
theorem MakeAt.lay {w W w3 : World} {S R s r : Int} {a : Option Addr} {n cap g : Nat} {v v' : Value} {L L' : List TV} (h : MakeAt w S R a n cap g s r v L W) (hb : Below (g + 1) W w3) (hk3 : ∀ (b : Nat) (cs : Array Value) (T : TypeId) (fr : Nat × Nat), W.heap[b]? = some (.cells cs T fr) → (T = 2 ∨ T = 3) → w3.heap[b]? = W.heap[b]?) (ho : OwnT w3 (g + 1) v' L') (hall : ∀ x ∈ L', x.ok W ∧ (IsI W x.a1 x.ch ∧ IsI W x.a2 x.us)) :
    MakeAt w S R a n cap g s r v' L' (w3.setCell ⟨g, 2, none⟩ v') ∧ w3.cell? ⟨g, 2, none⟩ = some v ∧ w3.frozen? ⟨g, 2, none⟩ = false := by
  have hgl := h.gl
  have h3 := kept_objB hb (by omega) h.box
  have hk : ∀ (b : Nat) (cs : Array Value) (T : TypeId) (fr : Nat × Nat), W.heap[b]? = some (.cells cs T fr) → (T = 2 ∨ T = 3) → (w3.setCell ⟨g, 2, none⟩ v').heap[b]? = W.heap[b]? := by
    intro b cs T fr hc hT
    have e1 := hk3 b cs T fr hc hT
    rw [blk_far (a := ⟨g, 2, none⟩) ?_ v']
    · exact e1
    · rintro rfl
      rw [hc] at e1
      rw [h3] at e1
      simp at e1
      rcases hT with q | q <;> rw [q] at e1 <;> exact absurd e1.2.1 (by decide)
  refine ⟨⟨(h.low.trans (hb.mono (by omega))).setCell (p := ⟨g, 2, none⟩) (by show _ ≤ g; omega) _, h.gl, ?_, ?_, (blk_set h3 _).trans rfl, ho.set (by simp) _, fun x hx => (hall x hx).1.kept (hall x hx).2 hk, fun x hx => ⟨(hall x hx).2.1.kept hk, (hall x hx).2.2.kept hk⟩⟩, by rw [blk_cell h3]; rfl, blk_free h3 2⟩
  · rw [blk_far (a := ⟨g, 2, none⟩) (by show _ ≠ g; omega)]; exact kept_objB hb (by omega) h.src
  · rw [blk_far (a := ⟨g, 2, none⟩) (by show _ ≠ g; omega)]; exact kept_objB hb (by omega) h.res
theorem MakeAt.push {w W w3 : World} {S R s r : Int} {a : Option Addr} {n cap g : Nat} {v v' : Value} {L : List TV} {y : TV} (h : MakeAt w S R a n cap g s r v L W) (hg : W.grownBy w3 v.ownBlock) (ho : OwnT w3 (g + 1) v' (L ++ [y])) (hy : y.ok W) (hi : IsI W y.a1 y.ch ∧ IsI W y.a2 y.us) :
    MakeAt w S R a n cap g s r v' (L ++ [y]) (w3.setCell ⟨g, 2, none⟩ v') ∧ w3.cell? ⟨g, 2, none⟩ = some v ∧ w3.frozen? ⟨g, 2, none⟩ = false := by
  have hs : g + 1 ≤ W.heap.size := lt_of_block h.box
  have hb : Below (g + 1) W w3 := (Below.refl _ W).grown hg hs (fun k hk => (h.own.new hk).1)
  refine h.lay hb ?_ ho ?_
  · intro b cs T fr hc hT
    refine hg.block b (lt_of_block hc) ?_
    intro z
    rcases h.own with ⟨_, q | ⟨k', cap', cur', e', hB', h3', _⟩⟩
    · rw [q.1] at z; cases z
    · rw [e'] at z
      simp [Value.ownBlock] at z
      subst z
      rw [hc] at h3'
      simp at h3'
      rcases hT with q | q <;> rw [q] at h3' <;> exact absurd h3'.2.1 (by decide)
  · intro x hx
    rcases List.mem_append.1 hx with q | q
    · exact ⟨h.ok x q, h.ints x q⟩
    · simp at q; subst q; exact ⟨hy, hi⟩
/-- The task of a system that has none. -/
def lone : TV := ⟨1, 1, 4, 4, 10, none, [], 0, none, [], 0⟩
theorem lone_good (s : Int) : Good 0 s lone := ⟨rfl, by simp [lone], by simp [lone], by simp [lone], by simp [lone], by simp [lone], by simp [lone], by simp [lone], .inl rfl, (fun u hu => by simp [lone] at hu), by simp [lone]⟩
theorem lone_own (W : World) (B : Nat) (hB : B ≤ W.heap.size) : OwnT (W.alloc (.cells #[.int .i64 1, .int .i64 1, .int .i64 4, .int .i64 4, .int .i64 10, .slice none 0 0, .slice none 0 0] TT)) B (.slice (some ⟨W.heap.size, 0, none⟩) 1 1) [lone] :=
  World.ownsRow_lit (w := W) #[.int .i64 1, .int .i64 1, .int .i64 4, .int .i64 4, .int .i64 10, .slice none 0 0, .slice none 0 0] 1 hB (by decide) rfl
theorem MakeAt.lone {w W : World} {S R s r : Int} {a : Option Addr} {n cap g : Nat} {v : Value} {L : List TV} (h : MakeAt w S R a n cap g s r v L W) :
    MakeAt w S R a n cap g s r (.slice (some ⟨W.heap.size, 0, none⟩) 1 1) [lone] ((W.alloc (.cells #[.int .i64 1, .int .i64 1, .int .i64 4, .int .i64 4, .int .i64 10, .slice none 0 0, .slice none 0 0] TT)).setCell ⟨g, 2, none⟩ (.slice (some ⟨W.heap.size, 0, none⟩) 1 1)) := by
  have hs : g + 1 ≤ W.heap.size := lt_of_block h.box
  refine (h.lay (L' := [Go.Proofs.Ytcanbjgbpkofaaa.lone]) (((Below.refl _ W).alloc (Nat.le_refl _) _).mono hs) ?_ (lone_own W _ hs) ?_).1
  · intro b cs T fr hc _
    exact Below.heap_alloc _ _ _ (lt_of_block hc)
  · intro x hx
    simp at hx; subst hx
    exact ⟨⟨.inl rfl, .inl rfl, by simp [Go.Proofs.Ytcanbjgbpkofaaa.lone], by simp [Go.Proofs.Ytcanbjgbpkofaaa.lone], by simp [Go.Proofs.Ytcanbjgbpkofaaa.lone], by simp [Go.Proofs.Ytcanbjgbpkofaaa.lone]⟩, .inl rfl, .inl rfl⟩
/-- The end. -/
theorem MakeAt.done {w W : World} {S R s r : Int} {a a' : Option Addr} {n cap g m c : Nat} {L : List TV} (h : MakeAt w S R a n cap g s r (.slice a' m c) L W) (hL : Made s r L) (x0 x1 x2 : Value) :
    MadeBack w (.returned (.agg #[.int .i64 s, .int .i64 r, .slice a' m c])) (((W.setCell ⟨w.heap.size + 1, 0, none⟩ x0).setCell ⟨w.heap.size + 1, 1, none⟩ x1).setCell ⟨w.heap.size + 1, 2, none⟩ x2) := by
  have hgl := h.gl
  have hb : Below w.heap.size w (((W.setCell ⟨w.heap.size + 1, 0, none⟩ x0).setCell ⟨w.heap.size + 1, 1, none⟩ x1).setCell ⟨w.heap.size + 1, 2, none⟩ x2) :=
    ((h.low.setCell (p := ⟨w.heap.size + 1, 0, none⟩) (Nat.le_succ _) x0).setCell (p := ⟨w.heap.size + 1, 1, none⟩) (Nat.le_succ _) x1).setCell (p := ⟨w.heap.size + 1, 2, none⟩) (Nat.le_succ _) x2
  have ho := ((h.own.set (a := ⟨w.heap.size + 1, 0, none⟩) (Nat.lt_succ_of_lt hgl) x0).set (a := ⟨w.heap.size + 1, 1, none⟩) (Nat.lt_succ_of_lt hgl) x1).set (a := ⟨w.heap.size + 1, 2, none⟩) (Nat.lt_succ_of_lt hgl) x2
  have hk : ∀ (b : Nat) (cs : Array Value) (T : TypeId) (fr : Nat × Nat), W.heap[b]? = some (.cells cs T fr) → (T = 2 ∨ T = 3) → (((W.setCell ⟨w.heap.size + 1, 0, none⟩ x0).setCell ⟨w.heap.size + 1, 1, none⟩ x1).setCell ⟨w.heap.size + 1, 2, none⟩ x2).heap[b]? = W.heap[b]? := by
    intro b cs T fr hc hT
    have hne : b ≠ w.heap.size + 1 := by
      rintro rfl
      rw [h.res] at hc
      simp at hc
      rcases hT with q | q <;> rw [q] at hc <;> exact absurd hc.2.1 (by decide)
    rw [blk_far (a := ⟨w.heap.size + 1, 2, none⟩) hne, blk_far (a := ⟨w.heap.size + 1, 1, none⟩) hne, blk_far (a := ⟨w.heap.size + 1, 0, none⟩) hne]
  exact ⟨s, r, a', m, c, L, rfl, ho.low (by omega), fun x hx => (h.ok x hx).kept (h.ints x hx) hk, fun x hx => ⟨(h.ints x hx).1.kept hk, (h.ints x hx).2.kept hk⟩, hL, hb⟩

set_option maxRecDepth 100000 in
set_option maxHeartbeats 4000000 in
theorem made_any {w : World} {a : Option Addr} {n cap : Nat} {L : List NV} (S R : Int) (hn : Nums w a n cap L) :
    Calls Try.prog 24 #[.agg #[.int .i64 S, .int .i64 R, .slice a n cap]] w (MadeBack w) := by
  have HA := Lib.hid hn
  have hz := zeroSys
  have hn9 := hn.small
  obtain ⟨s, hs⟩ : ∃ s, restI S 8 = s := ⟨_, rfl⟩
  have R1 := Lib.hid (fun w => hs ▸ rest_any S 8 (by omega) (by omega) w)
  have hs0 : 0 ≤ s := by rw [← hs]; exact Int.emod_nonneg _ (by omega)
  have hs1 : s < 8 := by rw [← hs]; exact Int.emod_lt_of_pos _ (by omega)
  have hw1 : IntKind.i64.wrap (1 + s) = 1 + s := IntWalk.i64_in _ (by omega)
  obtain ⟨r, hr, hr2⟩ := and_small R 3 (by omega)
  have hr3 : bits .and .i64 R 3 = (r : Int) := hr2
  have hr9 : (r : Int) ≤ 3 := by omega
  clear hn hs hr2
  go_enter Try.func24, Try.ntmps24
  go_upto_region 1 with fail
  refine gen_world (fun v => Below w.heap.size w v ∧ v.heap[w.heap.size]? = some (.cells #[.int .i64 S, .int .i64 R, .slice a n cap] 61 (0, 0)) ∧ v.heap[w.heap.size + 1]? = some (.cells #[.int .i64 0, .int .i64 0, .slice none 0 0] 28 (0, 0))) ⟨(by repeat (first | exact Below.refl _ _ | (with_reducible assumption) | refine bw_alloc ?_ _ | refine bw_drew ?_)), by rw [Below.heap_alloc _ _ _ (by simp)]; exact heap_alloc_new w _, by have := heap_alloc_new (w.alloc (.cells #[.int .i64 S, .int .i64 R, .slice a n cap] 61)) (.cells #[.int .i64 0, .int .i64 0, .slice none 0 0] 28); rwa [World.size_alloc] at this⟩ ?_
  intro W1 ⟨hl, h1, h2⟩
  have HL := Lib.hid hl
  have H1 := Lib.hid h1
  have H2 := Lib.hid h2
  have e0 : W1.cell? ⟨w.heap.size, 0, none⟩ = some (.int .i64 S) := by rw [blk_cell h1]; rfl
  have e1 : W1.cell? ⟨w.heap.size, 1, none⟩ = some (.int .i64 R) := by rw [blk_cell h1]; rfl
  have hlt := lt_of_block h1
  clear hl h1 h2
  go_cut [3] from 5 to 12 (fun u wx => u = .pointer (some ⟨W1.heap.size, 0, none⟩) ∧ wx = (W1.alloc (.cells #[.int .i64 (1 + s), .int .i64 r, .slice none 0 0] 28)).drew)
  case first =>
    have MK : Hid (∀ v, Below W1.heap.size W1 v → (Below W1.heap.size W1 v ∧ v.cell? ⟨w.heap.size, 0, none⟩ = some (.int .i64 S) ∧ v.cell? ⟨w.heap.size, 1, none⟩ = some (.int .i64 R))) := fun v hb => ⟨hb, kept_cell hb (by rw [blk_cell H1.out]; rfl), kept_cell hb (by rw [blk_cell H1.out]; rfl)⟩
    go_region_held3 (fun v => Below W1.heap.size W1 v ∧ v.cell? ⟨w.heap.size, 0, none⟩ = some (.int .i64 S) ∧ v.cell? ⟨w.heap.size, 1, none⟩ = some (.int .i64 R)) (exact MK.out _ (by repeat (first | exact Below.refl _ _ | (with_reducible assumption) | refine bw_alloc ?_ _ | refine bw_drew ?_))) ((go_at_call 44; (with_reducible refine (R1.out _).mono ?_); rintro e w3 ⟨rfl, rfl⟩))
    all_goals (go_wp2_with fail; go_meet; exact ⟨rfl, rfl⟩)
  case rest =>
    obtain ⟨rfl, rfl⟩ := hcut
    have hgl0 : w.heap.size + 1 < W1.heap.size := lt_of_block H2.out
    go_wp2_with fail
    refine gen_world (MakeAt w S R a n cap W1.heap.size (1 + s) r (.slice none 0 0) []) ((makeAt_new HL.out H1.out H2.out).below (Below.refl _ _).drew) ?_
    intro W3 hw3
    have H3 := Lib.hid hw3
    have hs1' : 1 ≤ 1 + s := by omega
    have hs8' : 1 + s ≤ 8 := by omega
    have hr0 : (0 : Int) ≤ (r : Int) := by omega
    clear hw3 HL H1 H2 e0 e1 hlt hw1 hr3 R1 hs0 hs1
    generalize W1.heap.size = g at *
    generalize 1 + s = s at *
    generalize (r : Int) = r at *
    clear hgl0
    obtain ⟨m, hm⟩ : ∃ m, m = min n 6 := ⟨_, rfl⟩
    have hm1 : m ≤ n := by omega
    have hm6 : m ≤ 6 := by omega
    have hor : m = n ∨ (m = 6 ∧ 6 < n) := by omega
    have HOR := Lib.hid hor
    clear hm hor
    go_loopw [4] (fun u wr => ∃ (k : Nat) (a' : Option Addr) (cp' : Nat) (M : List TV), k ≤ m ∧ u = .int .i64 k ∧ Hid (M.length = k) ∧ Hid (∀ (j : Nat) (x : TV), M[j]? = some x → Good j s x) ∧ Hid (MakeAt w S R a n cap g s r (.slice a' k cp') M wr)) (fun u _ => (m - intOf u).toNat)
    case atStart => exact ⟨0, _, _, [], by omega, rfl, rfl, (fun j x hx => by simp at hx), H3⟩
    case round =>
      obtain ⟨k, a', cp', M, hk, rfl, HML, HMG, HP⟩ := hrel
      clear H3
      have b0 : wr.cell? ⟨g, 0, none⟩ = some (.int .i64 s) := by rw [blk_cell HP.out.box]; rfl
      have b2 : wr.cell? ⟨g, 2, none⟩ = some (.slice a' k cp') := by rw [blk_cell HP.out.box]; rfl
      have s2 : wr.cell? ⟨w.heap.size, 2, none⟩ = some (.slice a n cap) := by rw [blk_cell HP.out.src]; rfl
      have hgw : g < wr.heap.size := lt_of_block HP.out.box
      by_cases hlt : k < m
      · obtain ⟨x, hx⟩ := nth_of HA.out.len (show k < n by omega)
        obtain ⟨g', o', rfl, ⟨c0, c1, c2, c3, c4, c5⟩⟩ := (HA.out.view.below HP.out.low).at_ hx
        have hk1 : (k : Int) < (n : Int) := by omega
        have hk6 : (k : Int) < 6 := by omega
        have hk0 : (0 : Int) ≤ (k : Int) := by omega
        have HXO := Lib.hid ((HA.out.ok x (List.mem_of_getElem? hx)).below HP.out.low)
        have T : Hid (∀ v, Below wr.heap.size wr v → _) := fun v hb => task_any x k s ⟨hk0, hk6⟩ ⟨hs1', hs8'⟩ v (HXO.out.below hb)
        have HSM : Hid (M.length + 1 ≤ 1000000) := by show _ ≤ _; have := HML.out; omega
        have HNN : Hid (M.length + 1 = k + 1) := by show _ = _; rw [HML.out]
        have HL2 : Hid (∀ y, (M ++ [y]).length = k + 1) := fun y => by rw [List.length_append, HML.out]; rfl
        have HG2 : Hid (∀ y, Good k s y → ∀ (j : Nat) (x : TV), (M ++ [y])[j]? = some x → Good j s x) := fun y hy j x hj => by
          rw [List.getElem?_append] at hj
          split at hj
          · exact HMG.out j x hj
          · rename_i q
            have hjk : j = k := by
              have := (List.getElem?_eq_some_iff.1 hj).1
              simp at this
              have := HML.out; omega
            subst hjk
            have hj0 : j - M.length = 0 := by have := HML.out; omega
            rw [hj0] at hj
            simp at hj; subst hj; exact hy
        clear hx
        go_upto_region 5 with fail
        go_region_law (first
          | (refine step_append (m := 1) (l := [y]) rfl (.tmp 25) (.tmp 35) rfl (by rfl) (by rfl) (H5.out.below (by repeat (first | exact Below.refl _ _ | (with_reducible assumption) | refine bw_alloc ?_ _ | refine bw_drew ?_))).own (Nat.le_trans (lt_of_block H5.out.box) ((by repeat (first | exact Below.refl _ _ | (with_reducible assumption) | refine bw_alloc ?_ _ | refine bw_drew ?_)) : Below w5.heap.size w5 _).size) (by first | exact View.of_at (at_new _ _ _) | exact (View.of_at (at_new _ _ _)).below (by repeat (first | exact Below.refl _ _ | (with_reducible assumption) | refine bw_alloc ?_ _ | refine bw_drew ?_))) rfl HSM.out (fun z => by cases z) (k + 1) HNN.out ?_
             intro a3 k3 w3 o3 g3 l3
             obtain ⟨hn, z1, z2⟩ := (H5.out.below (by repeat (first | exact Below.refl _ _ | (with_reducible assumption) | refine bw_alloc ?_ _ | refine bw_drew ?_))).push g3 o3 (HY.out.below (by repeat (first | exact Below.refl _ _ | (with_reducible assumption) | refine bw_alloc ?_ _ | refine bw_drew ?_))) ⟨HI.out.1.below (by repeat (first | exact Below.refl _ _ | (with_reducible assumption) | refine bw_alloc ?_ _ | refine bw_drew ?_)), HI.out.2.below (by repeat (first | exact Below.refl _ _ | (with_reducible assumption) | refine bw_alloc ?_ _ | refine bw_drew ?_))⟩
             have HN := Lib.hid hn
             clear hn o3 g3 l3)
          | (go_simp; (with_reducible refine (T.out _ (by repeat (first | exact Below.refl _ _ | (with_reducible assumption) | refine bw_alloc ?_ _ | refine bw_drew ?_))).mono ?_); rintro e w5 ⟨y, rfl, hy, hgood, b5, hi1, hi2⟩; have H5 := Lib.hid (HP.out.below (below_up (W := wr) (by repeat (first | exact Below.refl _ _ | (with_reducible assumption) | refine bw_alloc ?_ _ | refine bw_drew ?_)) b5)); have b2' : w5.cell? ⟨g, 2, none⟩ = some (.slice a' k cp') := (by rw [blk_cell H5.out.box]; rfl); have hgw5 : g < w5.heap.size := lt_of_block H5.out.box; have HY := Lib.hid hy; have HG := Lib.hid hgood; have HI := Lib.hid (And.intro hi1 hi2); clear hy hgood b5 hi1 hi2))
        all_goals
          go_wp2
          go_roundw
          case rel => exact ⟨k + 1, a3, k3, M ++ [y], by omega, by go_num, HL2.out y, HG2.out y HG.out, HN⟩
          case measure => simp [intOf]; omega
      · obtain rfl : m = k := by omega
        have hr1 : w.heap.size + 1 < wr.heap.size := lt_of_block HP.out.res
        have b1 : wr.cell? ⟨g, 1, none⟩ = some (.int .i64 r) := by rw [blk_cell HP.out.box]; rfl
        have bf := blk_free HP.out.box 2
        have r0 : wr.cell? ⟨w.heap.size + 1, 0, none⟩ = some (.int .i64 0) := by rw [blk_cell HP.out.res]; rfl
        have r1 : wr.cell? ⟨w.heap.size + 1, 1, none⟩ = some (.int .i64 0) := by rw [blk_cell HP.out.res]; rfl
        have r2 : wr.cell? ⟨w.heap.size + 1, 2, none⟩ = some (.slice none 0 0) := by rw [blk_cell HP.out.res]; rfl
        have f0 := blk_free HP.out.res 0
        have f1 := blk_free HP.out.res 1
        have f2 := blk_free HP.out.res 2
        have hgne : ¬ g = w.heap.size + 1 := by have := HP.out.gl; omega
        by_cases hm0 : m = 0
        · have HD := Lib.hid (fun x0 x1 x2 => HP.out.lone.done (⟨hs1', hs8', hr0, hr9, by simp, by simp, (fun j x hx => by
            match j, hx with
            | 0, hx => simp at hx; subst hx; exact lone_good s
            | j + 1, hx => simp at hx)⟩ : Made s r [lone]) x0 x1 x2)
          have d1 : ((m : Int) == 0) = true := by rw [beq_iff_eq]; omega
          have d2 : ¬ (m : Int) < (n : Int) := by have := HOR.out; omega
          have HD2 : Hid (∀ x0 x1 x2, MadeBack w (.returned (.agg #[.int .i64 s, .int .i64 r, .slice (some ⟨wr.heap.size, 0, none⟩) 1 1])) (((((wr.setCell ⟨g, 2, none⟩ (.slice (some ⟨wr.heap.size, 0, none⟩) 1 1)).setCell ⟨w.heap.size + 1, 0, none⟩ x0).setCell ⟨w.heap.size + 1, 1, none⟩ x1).setCell ⟨w.heap.size + 1, 2, none⟩ x2).alloc (.cells #[.int .i64 1, .int .i64 1, .int .i64 4, .int .i64 4, .int .i64 10, .slice none 0 0, .slice none 0 0] TT))) := by
            intro x0 x1 x2
            have := HD.out x0 x1 x2
            rw [World.setCell_alloc_past _ _ _ _ hgw, World.setCell_alloc_past _ _ _ _ (by simpa using hr1), World.setCell_alloc_past _ _ _ _ (by simpa using hr1), World.setCell_alloc_past _ _ _ _ (by simpa using hr1)] at this
            exact this
          clear hm0 HMG HML hm1 HD
          go_wp2_with fail
          exact bodyPost_ret (v := .agg #[.int .i64 s, .int .i64 r, .slice (some ⟨wr.heap.size, 0, none⟩) 1 1]) (by simp [results, Try.results24, go_sem, r0, r1, r2, hr1]) rfl (HD2.out _ _ _)
        · have HD := Lib.hid (fun x0 x1 x2 => HP.out.done (⟨hs1', hs8', hr0, hr9, by rw [HML.out]; omega, by rw [HML.out]; omega, HMG.out⟩ : Made s r M) x0 x1 x2)
          have d1 : ((m : Int) == 0) = false := by rw [beq_eq_false_iff_ne]; omega
          have q1 : ¬ ((m : Int) < (n : Int)) ∨ ((m : Int) < (n : Int) ∧ ¬ ((m : Int) < 6)) := by
            rcases HOR.out with h | ⟨h1, h2⟩
            · left; omega
            · right; omega
          clear HMG HML
          rcases q1 with q1 | ⟨q1, q2⟩
          all_goals
            go_wp2_with fail
            exact bodyPost_ret (v := .agg #[.int .i64 s, .int .i64 r, .slice a' m cp']) (by simp [results, Try.results24, go_sem, r0, r1, r2, hr1]) rfl (HD.out _ _ _)
end Go.Proofs.Ytcanbjgbpkofaaa

/-
  The walk over the system that a statement's plain numbers mean.
-/
namespace Go.Proofs.Ytcanbjgbpkofaaa
open Go.RowKit Go.Maps

/-- Plain numbers in a box, a system that comes back, plain numbers that are being made. -/
structure CopyAt (w : World) (S R : Int) (a : Option Addr) (n cap : Nat) (v : Value) (M : List NV) (W : World) : Prop where
  low : Below w.heap.size w W
  src : W.heap[w.heap.size]? = some (.cells #[.int .i64 S, .int .i64 R, .slice a n cap] 24 (0, 0))
  res : W.heap[w.heap.size + 1]? = some (.cells #[.int .i64 0, .int .i64 0, .slice none 0 0] 28 (0, 0))
  box : W.heap[w.heap.size + 2]? = some (.cells #[.int .i64 S, .int .i64 R, v] 61 (0, 0))
  own : OwnN W (w.heap.size + 3) v M
theorem CopyAt.below {w W W' : World} {S R : Int} {a : Option Addr} {n cap : Nat} {v : Value} {M : List NV} (h : CopyAt w S R a n cap v M W) (hb : Below W.heap.size W W') : CopyAt w S R a n cap v M W' :=
  ⟨below_up h.low hb, kept_obj hb h.src, kept_obj hb h.res, kept_obj hb h.box, h.own.below hb⟩
theorem copyAt_new {w : World} {S R : Int} {a : Option Addr} {n cap : Nat} : CopyAt w S R a n cap (.slice none 0 0) [] (((w.alloc (.cells #[.int .i64 S, .int .i64 R, .slice a n cap] 24)).alloc (.cells #[.int .i64 0, .int .i64 0, .slice none 0 0] 28)).alloc (.cells #[.int .i64 S, .int .i64 R, .slice none 0 0] 61)) := by
  refine ⟨(by repeat (first | exact Below.refl _ _ | (with_reducible assumption) | refine bw_alloc ?_ _ | refine bw_drew ?_)), ?_, ?_, ?_, OwnN.nil _ _⟩
  · rw [Below.heap_alloc _ _ _ (by simp; omega), Below.heap_alloc _ _ _ (by simp)]; exact heap_alloc_new w _
  · rw [Below.heap_alloc _ _ _ (by simp)]
    have := heap_alloc_new (w.alloc (.cells #[.int .i64 S, .int .i64 R, .slice a n cap] 24)) (.cells #[.int .i64 0, .int .i64 0, .slice none 0 0] 28)
    rwa [World.size_alloc] at this
  · have := heap_alloc_new ((w.alloc (.cells #[.int .i64 S, .int .i64 R, .slice a n cap] 24)).alloc (.cells #[.int .i64 0, .int .i64 0, .slice none 0 0] 28)) (.cells #[.int .i64 S, .int .i64 R, .slice none 0 0] 61)
    rwa [World.size_alloc, World.size_alloc] at this
theorem OwnN.set {w : World} {B : Nat} {v : Value} {l : List NV} (h : OwnN w B v l) {a : Addr} (ha : a.block < B) (u : Value) : OwnN (w.setCell a u) B v l := ownsRow_setCell_below h ha u
theorem CopyAt.push {w W w3 : World} {S R : Int} {a : Option Addr} {n cap : Nat} {v v' : Value} {M M' : List NV} (h : CopyAt w S R a n cap v M W) (hg : W.grownBy w3 v.ownBlock) (ho : OwnN w3 (w.heap.size + 3) v' M') :
    CopyAt w S R a n cap v' M' (w3.setCell ⟨w.heap.size + 2, 2, none⟩ v') ∧ w3.cell? ⟨w.heap.size + 2, 2, none⟩ = some v ∧ w3.frozen? ⟨w.heap.size + 2, 2, none⟩ = false := by
  have hs : w.heap.size + 3 ≤ W.heap.size := lt_of_block h.box
  have hb : Below (w.heap.size + 3) W w3 := (Below.refl _ W).grown hg hs (fun k hk => (h.own.new hk).1)
  have h3 := kept_objB hb (by omega) h.box
  refine ⟨⟨(h.low.trans (hb.mono (by omega))).setCell (p := ⟨w.heap.size + 2, 2, none⟩) (by show _ ≤ _ + 2; omega) _, ?_, ?_, (blk_set h3 _).trans rfl, ho.set (by show _ + 2 < _; omega) _⟩, by rw [blk_cell h3]; rfl, blk_free h3 2⟩
  · rw [blk_far (a := ⟨w.heap.size + 2, 2, none⟩) (by show _ ≠ _ + 2; omega)]; exact kept_objB hb (by omega) h.src
  · rw [blk_far (a := ⟨w.heap.size + 2, 2, none⟩) (by show _ ≠ _ + 2; omega)]; exact kept_objB hb (by omega) h.res
theorem copy_done {w W W5 : World} {s r : Int} {a : Option Addr} {n c : Nat} {L : List TV} (hl : Below w.heap.size w W) (hb : Below W.heap.size W W5) (hres : W5.heap[w.heap.size + 1]? = some (.cells #[.int .i64 0, .int .i64 0, .slice none 0 0] 28 (0, 0))) (hrl : w.heap.size + 1 < W.heap.size)
    (ho : OwnT W5 W.heap.size (.slice a n c) L) (hok : AllOk W5 L) (hi : ∀ x ∈ L, IsI W5 x.a1 x.ch ∧ IsI W5 x.a2 x.us) (hm : Made s r L) (x0 x1 x2 : Value) :
    MadeBack w (.returned (.agg #[.int .i64 s, .int .i64 r, .slice a n c])) (((W5.setCell ⟨w.heap.size + 1, 0, none⟩ x0).setCell ⟨w.heap.size + 1, 1, none⟩ x1).setCell ⟨w.heap.size + 1, 2, none⟩ x2) := by
  have hb2 : Below w.heap.size w (((W5.setCell ⟨w.heap.size + 1, 0, none⟩ x0).setCell ⟨w.heap.size + 1, 1, none⟩ x1).setCell ⟨w.heap.size + 1, 2, none⟩ x2) :=
    (((below_up hl hb).setCell (p := ⟨w.heap.size + 1, 0, none⟩) (Nat.le_succ _) x0).setCell (p := ⟨w.heap.size + 1, 1, none⟩) (Nat.le_succ _) x1).setCell (p := ⟨w.heap.size + 1, 2, none⟩) (Nat.le_succ _) x2
  have ho2 := ((ho.set (a := ⟨w.heap.size + 1, 0, none⟩) hrl x0).set (a := ⟨w.heap.size + 1, 1, none⟩) hrl x1).set (a := ⟨w.heap.size + 1, 2, none⟩) hrl x2
  have hk : ∀ (b : Nat) (cs : Array Value) (T : TypeId) (fr : Nat × Nat), W5.heap[b]? = some (.cells cs T fr) → (T = 2 ∨ T = 3) → (((W5.setCell ⟨w.heap.size + 1, 0, none⟩ x0).setCell ⟨w.heap.size + 1, 1, none⟩ x1).setCell ⟨w.heap.size + 1, 2, none⟩ x2).heap[b]? = W5.heap[b]? := by
    intro b cs T fr hc hT
    have hne : b ≠ w.heap.size + 1 := by
      rintro rfl
      rw [hres] at hc
      simp at hc
      rcases hT with q | q <;> rw [q] at hc <;> exact absurd hc.2.1 (by decide)
    rw [blk_far (a := ⟨w.heap.size + 1, 2, none⟩) hne, blk_far (a := ⟨w.heap.size + 1, 1, none⟩) hne, blk_far (a := ⟨w.heap.size + 1, 0, none⟩) hne]
  exact ⟨s, r, a, n, c, L, rfl, ho2.low (by omega), fun x hx => (hok x hx).kept (hi x hx) hk, fun x hx => ⟨(hi x hx).1.kept hk, (hi x hx).2.kept hk⟩, hm, hb2⟩

set_option maxRecDepth 100000 in
set_option maxHeartbeats 4000000 in
theorem made5_any {w : World} {a : Option Addr} {n cap : Nat} {L : List NV} (S R : Int) (hn : Nums w a n cap L) :
    Calls Try.prog 9 #[.agg #[.int .i64 S, .int .i64 R, .slice a n cap]] w (MadeBack w) := by
  have HA := Lib.hid hn
  have hz := zeroSys
  have hn9 := hn.small
  clear hn
  go_enter Try.func9, Try.ntmps9
  go_wp2_with fail
  refine gen_world (CopyAt w S R a n cap (.slice none 0 0) []) copyAt_new ?_
  intro W1 hw1
  have H1 := Lib.hid hw1
  obtain ⟨m, hm⟩ : ∃ m, m = min n 6 := ⟨_, rfl⟩
  have hm1 : m ≤ n := by omega
  have hm6 : m ≤ 6 := by omega
  have hor : m = n ∨ (m = 6 ∧ 6 < n) := by omega
  have HOR := Lib.hid hor
  clear hm hor hw1
  go_loopw [4] (fun u wr => ∃ (k : Nat) (a' : Option Addr) (cp' : Nat), k ≤ m ∧ u = .int .i64 k ∧ Hid (CopyAt w S R a n cap (.slice a' k cp') (L.take k) wr)) (fun u _ => (m - intOf u).toNat)
  case atStart => exact ⟨0, _, _, by omega, rfl, H1⟩
  case round =>
    obtain ⟨k, a', cp', hk, rfl, HP⟩ := hrel
    clear H1
    have b2 : wr.cell? ⟨w.heap.size + 2, 2, none⟩ = some (.slice a' k cp') := by rw [blk_cell HP.out.box]; rfl
    have s2 : wr.cell? ⟨w.heap.size, 2, none⟩ = some (.slice a n cap) := by rw [blk_cell HP.out.src]; rfl
    have hl2 : w.heap.size + 2 < wr.heap.size := lt_of_block HP.out.box
    have hl0 : w.heap.size < wr.heap.size := lt_of_block HP.out.src
    by_cases hlt : k < m
    · obtain ⟨x, hx⟩ := nth_of HA.out.len (show k < n by omega)
      obtain ⟨g', o', rfl, ⟨c0, c1, c2, c3, c4, c5⟩⟩ := (HA.out.view.below HP.out.low).at_ hx
      have hk1 : (k : Int) < (n : Int) := by omega
      have hk6 : (k : Int) < 6 := by omega
      have hk0 : (0 : Int) ≤ (k : Int) := by omega
      have HTL : Hid ((L.take k).length = k) := by show _ = _; rw [List.length_take, HA.out.len]; omega
      have HSM : Hid ((L.take k).length + 1 ≤ 1000000) := by show _ ≤ _; rw [HTL.out]; omega
      have HNN : Hid ((L.take k).length + 1 = k + 1) := by show _ = _; rw [HTL.out]
      have HTK : Hid (L.take k ++ [x] = L.take (k + 1)) := by show _ = _; rw [List.take_add_one, hx]; rfl
      clear hx
      go_upto_region 5 with fail
      go_region_law (refine nstep_append (m := 1) (l := [x]) rfl (.tmp 22) (.tmp 28) rfl (by rfl) (by rfl) (HP.out.below (by repeat (first | exact Below.refl _ _ | (with_reducible assumption) | refine bw_alloc ?_ _ | refine bw_drew ?_))).own (Nat.le_trans (lt_of_block HP.out.box) ((by repeat (first | exact Below.refl _ _ | (with_reducible assumption) | refine bw_alloc ?_ _ | refine bw_drew ?_)) : Below wr.heap.size wr _).size) (by first | exact NView.of_at (nat_new _ _ _) | exact (NView.of_at (nat_new _ _ _)).below (by repeat (first | exact Below.refl _ _ | (with_reducible assumption) | refine bw_alloc ?_ _ | refine bw_drew ?_))) rfl HSM.out (fun z => by cases z) (k + 1) HNN.out ?_
                     intro a3 k3 w3 o3 g3 l3
                     obtain ⟨hq, z1, z2⟩ := (HP.out.below (by repeat (first | exact Below.refl _ _ | (with_reducible assumption) | refine bw_alloc ?_ _ | refine bw_drew ?_))).push g3 (HTK.out ▸ o3)
                     have HN := Lib.hid hq
                     clear hq o3 g3 l3)
      all_goals
        go_wp2
        go_roundw
        case rel => exact ⟨k + 1, _, _, by omega, by go_num, HN⟩
        case measure => simp [intOf]; omega
    · obtain rfl : m = k := by omega
      have b0 : wr.cell? ⟨w.heap.size + 2, 0, none⟩ = some (.int .i64 S) := by rw [blk_cell HP.out.box]; rfl
      have b1 : wr.cell? ⟨w.heap.size + 2, 1, none⟩ = some (.int .i64 R) := by rw [blk_cell HP.out.box]; rfl
      have HTL : Hid ((L.take m).length = m) := by show _ = _; rw [List.length_take, HA.out.len]; omega
      have HNU : Hid (Nums wr a' m cp' (L.take m)) := by
        obtain ⟨a9, c9, e9, v9, _⟩ := HP.out.own.slice
        simp only [Value.slice.injEq] at e9
        obtain ⟨rfl, _, rfl⟩ := e9
        exact ⟨HTL.out, v9, fun x hx => (HA.out.ok x (List.mem_of_mem_take hx)).below HP.out.low, by omega⟩
      have C := Lib.hid (made_any S R HNU.out)
      have q1 : ¬ ((m : Int) < (n : Int)) ∨ ((m : Int) < (n : Int) ∧ ¬ ((m : Int) < 6)) := by
        rcases HOR.out with h | ⟨h1, h2⟩
        · left; omega
        · right; omega
      rcases q1 with q1 | ⟨q1, q2⟩
      all_goals
        go_wp2_with (go_at_call 24; (with_reducible refine (C.out).mono ?_); rintro e w5 ⟨s5, r5, a5, n5, c5, L5, rfl, ho5, hok5, hi5, hm5, b5⟩; have HR := Lib.hid (kept_obj b5 HP.out.res); have r0 : w5.cell? ⟨w.heap.size + 1, 0, none⟩ = some (.int .i64 0) := (by rw [blk_cell HR.out]; rfl); have r1 : w5.cell? ⟨w.heap.size + 1, 1, none⟩ = some (.int .i64 0) := (by rw [blk_cell HR.out]; rfl); have r2 : w5.cell? ⟨w.heap.size + 1, 2, none⟩ = some (.slice none 0 0) := (by rw [blk_cell HR.out]; rfl); have f0 := blk_free HR.out 0; have f1 := blk_free HR.out 1; have f2 := blk_free HR.out 2; have HD := Lib.hid (copy_done HP.out.low b5 HR.out (lt_of_block HP.out.res) ho5 hok5 hi5 hm5); clear ho5 hok5 hi5 hm5 b5)
        exact bodyPost_ret (v := .agg #[.int .i64 s5, .int .i64 r5, .slice a5 n5 c5]) (by simp [results, Try.results9, go_sem, r0, r1, r2]) rfl (HD.out _ _ _)
end Go.Proofs.Ytcanbjgbpkofaaa
