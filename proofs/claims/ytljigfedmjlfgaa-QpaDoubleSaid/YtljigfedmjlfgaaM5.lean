/- Texts of this claim, put together: GSeq, GS2, GS3, GProg, VP0, VP1, VP2, VP3, VP4. -/
import Derived.Test.YtljigfedmjlfgaaM4
import Derived.RangeFuncNested
import Derived.RangeFuncBound
import Derived.RangeFuncCalls
import Derived.RangeFuncLeaves
import Derived.RangeFuncBox
import Derived.Shelf.Abstract
import Derived.Shelf.RegionOpen
import Derived.OwnWalkIn
import Derived.TacticsInMore
import Derived.LoopNIn
import Derived.LoopIn
import Derived.Deep.DeepCutAuto
set_option linter.unusedVariables false
set_option linter.unusedSimpArgs false

/-
  A range over a function that keeps a state of its own between two rounds.
-/
namespace Go.Proofs.Ytljigfedmjlfgaa
open Go.RowKit Go.Maps

/-- How a round ends. -/
def RoundEnds {α : Type} (B : Nat) (Kp : World → World → Prop) (I Ix : List α → World → Prop) (xs : List α) (W : World) : Exit → Act → World → Prop
  | .normal, _, W' => KeepsFrom B W W' ∧ Kp W W' ∧ I xs W'
  | .ret, _, W' => KeepsFrom B W W' ∧ Ix xs W'
  | _, _, _ => False
/-- What tells one after another, and steps by St between two of them. -/
def Tells {α : Type} (n : Nat) (P : Program) (gf : Nat) (lb : Array Value) (encs : α → Array Value) (Kp St : World → World → Prop) (S Sp : List α → Prop) (N : Nat) (w : World) : Prop :=
  ∀ (l : Nat) (J Jx : List α → World → Prop) (W : World), Below w.heap.size w W → (∀ s X Y, J s X → St X Y → J s Y) →
    (∀ pre x W1, J pre W1 → pre.length < N → YieldAt Fence.wide (n - 1) P l (encs x) W1 fun e W' => (e = .returned (.bool true) ∧ J (pre ++ [x]) W' ∧ Kp W1 W') ∨ (e = .returned (.bool false) ∧ Jx (pre ++ [x]) W')) →
    J [] W → CallsIn Fence.wide n P gf (#[.func (.yield l) #[] #[]] ++ lb) W fun e W' => (∃ v, e = .returned v) ∧ ((∃ xs, S xs ∧ J xs W') ∨ ∃ pre, Sp pre ∧ Jx pre W')

theorem range_tells {α : Type} {n : Nat} {P : Program} {g : Operand} {ps : Array Tmp} {assign body : Code} {Q : Exit → Act → World → Prop} {a : Act} {w : World} (h1 : 1 ≤ n) {gf : Nat} {lb : Array Value}
    (hg : a.eval g = .func (.func gf) #[] lb) (eg : ∀ args w, (callFunc gf args).run P w = .ok (.enter gf args) w) {encs : α → Array Value} {Kp St : World → World → Prop} {S Sp : List α → Prop} {N : Nat}
    (hseq : Tells (n - 1) P gf lb encs Kp St S Sp N w) (hKt : ∀ {A B C : World}, Kp A B → Kp B C → Kp A C)
    (hKb : ∀ (W : World) (l : Nat) (o o' : Obj), w.heap.size ≤ l → W.heap[l]? = some o → o.isCells = false → o.isWalk = false → Kp W (W.putObj l o'))
    (hSt : ∀ X Y, St X Y → KeepsFrom w.heap.size X Y) (hps : ∀ x, (encs x).size = ps.size)
    (I Ix : List α → World → Prop) (hI : OwnFrom w.heap.size I) (hIs : ∀ s X Y, I s X → St X Y → I s Y) (hIx : OwnFrom w.heap.size Ix) (h0 : I [] w) (a₁ : α → Act)
    (hassign : ∀ (l : Nat) (x : α) (W : World) (K : Act → World → Prop), K (a₁ x) W →
      assign.wpIn (Fence.wide.inRound l) (n - 1 - 1) P (Exit.then K (fun _ _ _ => False)) { tmps := (ps.zip (encs x)).foldl (fun t (p, v) => t.setIfInBounds p v) a.tmps, defers := [] } W)
    (hbody : ∀ (l : Nat) (pre : List α) (x : α) (W : World), I pre W → pre.length < N → body.wpIn (Fence.wide.inRound l) (n - 1 - 1) P (RoundEnds w.heap.size Kp I Ix (pre ++ [x]) W) (a₁ x) W)
    (hdone : ∀ (D : Nat) (xs : List α) (W : World), w.heap.size ≤ D → S xs → I xs W → W.heap[D]? = some (.deferred (some [])) → Q .normal { a with defers := { target := .collected D, args := #[] } :: a.defers } W)
    (hstop : ∀ (D : Nat) (pre : List α) (W : World), w.heap.size ≤ D → Sp pre → Ix pre W → W.heap[D]? = some (.deferred (some [])) → Code.ret.wpIn Fence.wide n P Q { a with defers := { target := .collected D, args := #[] } :: a.defers } W) :
    (Code.rangeFunc g ps assign body).wpIn Fence.wide n P Q a w := by
  refine wpIn_rangeFunc fun fn hfn => ?_
  -- the loop's record lies in block L, what its rounds defer in block D
  generalize hD : w.heap.size = D at *
  obtain ⟨rc, hrc⟩ : ∃ rc : LoopState → Option Code → Loop, (fun st pe => { state := st, pending := pe, fn, tmps := a.tmps, params := ps, assign, body, defers := D }) = rc := ⟨_, rfl⟩
  have rps : ∀ st pe, (rc st pe).params = ps := fun st pe => by rw [← hrc]
  obtain ⟨W1, hW1⟩ : ∃ W1, (w.alloc (.deferred (some []))).alloc (.loop (rc .ready none)) = W1 := ⟨_, rfl⟩
  have lay1 : W1.heap[D + 1]? = some (.loop (rc .ready none)) ∧ W1.heap[D]? = some (.deferred (some [])) := by
    rw [← hW1]
    constructor
    · have := World.alloc_heap_new (w.alloc (.deferred (some []))) (.loop (rc .ready none))
      rwa [World.size_alloc, hD] at this
    · rw [Below.heap_alloc _ _ _ (by simp; omega)]
      have := World.alloc_heap_new w (.deferred (some []))
      rwa [hD] at this
  have hb1 : Below w.heap.size w W1 := by rw [← hW1]; exact bw_alloc (bw_alloc (Below.refl _ _) _) _
  have hI1 : I [] W1 := by rw [← hW1]; exact hI.alloc _ (hI.alloc _ h0)
  refine ⟨D + 1, [{ target := .collected D, args := #[] }], W1, { target := .fn (.func gf) lb, args := #[.func (.yield (D + 1)) #[] #[]] }, W1, gf, #[.func (.yield (D + 1)) #[] #[]] ++ lb, W1, ?_, ?_, fun _ _ => trivial, ?_, fun _ => h1, ?_⟩
  · have := run_enterLoop_outer (P := P) (w := w) fn a.tmps ps assign body
    rw [hD] at this
    rw [← hW1, ← hrc]; exact this
  · simp only [resolve, hg]
    simp [go_sem]
  · simp [invoke, go_sem, eg]
  refine (hseq (D + 1)
    (fun pre W => I pre W ∧ W.heap[D + 1]? = some (.loop (rc .ready none)) ∧ W.heap[D]? = some (.deferred (some [])))
    (fun pre W => Ix pre W ∧ W.heap[D + 1]? = some (.loop (rc .done (some .ret))) ∧ W.heap[D]? = some (.deferred (some []))) W1 hb1
    (fun s X Y h hxy => ⟨hIs s X Y h.1 hxy, (hSt X Y hxy).same _ _ (by omega) h.2.1 rfl, (hSt X Y hxy).same _ _ (Nat.le_refl _) h.2.2 rfl⟩) ?_ ⟨hI1, lay1.1, lay1.2⟩).mono ?_
  · -- a round
    rintro pre x W ⟨hi, hl, hk⟩ hlen
    have hlt : D + 1 < W.heap.size := lt_of_block hl
    have hy := run_yield (P := P) (args := encs x) hl (by rw [rps]; exact hps x)
    have hbusy : (W.putObj (D + 1) (.loop { rc .ready none with state := .busy })).heap[D + 1]? = some (.loop { rc .ready none with state := .busy }) := World.putObj_heap_same hlt
    have hdef : (W.putObj (D + 1) (.loop { rc .ready none with state := .busy })).heap[D]? = some (.deferred (some [])) := (World.putObj_heap_other (by omega)).trans hk
    have hk0 : Kp W (W.putObj (D + 1) (.loop { rc .ready none with state := .busy })) := hKb _ _ _ _ (by omega) hl rfl rfl
    have hend : ∀ (jump : Option Code) (W3 : World), KeepsFrom D (W.putObj (D + 1) (.loop { rc .ready none with state := .busy })) W3 → W3.heap[D + 1]? = some (.loop { rc .ready none with state := .busy }) ∧
        (Instr.endRound (D + 1) jump).run P W3 = .ok (.bool jump.isNone) (W3.putObj (D + 1) (.loop (rc (if jump.isNone then .ready else .done) jump))) ∧
        (W3.putObj (D + 1) (.loop (rc (if jump.isNone then .ready else .done) jump))).heap[D + 1]? = some (.loop (rc (if jump.isNone then .ready else .done) jump)) ∧
        (W3.putObj (D + 1) (.loop (rc (if jump.isNone then .ready else .done) jump))).heap[D]? = some (.deferred (some [])) := fun jump W3 h3 => by
      have q := h3.same _ _ (by omega) hbusy rfl
      have r := run_endRound (P := P) jump q
      rw [← hrc] at r
      refine ⟨q, ?_, World.putObj_heap_same (lt_of_block q), (World.putObj_heap_other (by omega)).trans (h3.same _ _ (Nat.le_refl _) hdef rfl)⟩
      rw [← hrc]; exact r
    rw [← hrc] at hy
    refine ⟨fn, _, assign, body, hy, roundIn_of_wpIn hfn (hassign _ x W _ ⟨_, run_beginRound hl (by rw [← hrc]), ?_⟩)⟩
    refine wpIn_mono (hbody _ pre x _ (hI.putObj _ hi (by omega) hl rfl) hlen) ?_
    intro e a3 W3 hp
    cases e with
    | normal =>
      obtain ⟨p1, p2, p3⟩ := hp
      obtain ⟨q, r, r1, r2⟩ := hend none W3 p1
      exact ⟨_, _, r, .inl ⟨rfl, ⟨hI.putObj _ p3 (by omega) q rfl, r1, r2⟩, hKt (hKt hk0 p2) (hKb _ _ _ _ (by omega) q rfl rfl)⟩⟩
    | ret =>
      obtain ⟨p1, p2⟩ := hp
      obtain ⟨q, r, r1, r2⟩ := hend (some .ret) W3 p1
      exact ⟨_, _, r, .inr ⟨rfl, hIx.putObj _ p2 (by omega) q rfl, r1, r2⟩⟩
    | exit _ => exact hp.elim
    | goto _ => exact hp.elim
    | panic _ => exact hp.elim
    | outgrown => exact hp.elim
  · -- behind the last one
    rintro e W2 ⟨⟨v, rfl⟩, (⟨xs, hS, hi, hl, hk⟩ | ⟨pre, hSp, hi, hl, hk⟩)⟩
    · have r := run_endLoop (P := P) hl (by rw [← hrc]; simp)
      rw [← hrc] at r hl
      exact ⟨none, _, r, hdone _ xs _ (Nat.le_refl _) hS (hI.putObj _ hi (by omega) hl rfl) ((World.putObj_heap_other (by omega)).trans hk)⟩
    · have r := run_endLoop (P := P) hl (by rw [← hrc]; simp)
      rw [← hrc] at r hl
      exact ⟨some .ret, _, r, hstop _ pre _ (Nat.le_refl _) hSp (hIx.putObj _ hi (by omega) hl rfl) ((World.putObj_heap_other (by omega)).trans hk)⟩
end Go.Proofs.Ytljigfedmjlfgaa

/-
  The walk over what tells deadlines one by one.
-/
namespace Go.Proofs.Ytljigfedmjlfgaa
open Go.RowKit Go.Maps Go.Shelf
attribute [local go_sem] Oper.semAt_some

theorem numL11 : IsNum 94 2 := num_of Try.underlying94 (by kernel_rfl)
theorem infoL11 : (Try.prog.info? 2).map (fun i => (i.zero, i.size, i.bytes)) = some (some (.int .i64 0), 1, 8) := by kernel_rfl
theorem make_l (c : Nat) (hc : c ≤ 2000000000) (w : World) : (Instr.makeSlice 94 (.int .i64 0) (.int .i64 (c : Int))).run Try.prog w = .ok (.slice (some ⟨w.heap.size, 0, none⟩) 0 c) (w.alloc (.cells (madeCells #[.int .i64 0] c) 2)) := by
  obtain ⟨i0, hi, hz0, hz1, hz2⟩ := uparts infoL11
  have h := run_make w 94 2 i0 (.int .i64 0) Try.underlying94 hi hz0 .i64 .i64 0 c (by omega) (by omega) (by rw [hz2]; omega) (by omega)
  rw [hz1] at h
  simpa [Value.cells] using h
theorem ownL_made (w : World) (cap : Nat) (hc : cap ≤ 2000000000) (T : TypeId) : OwnI (w.alloc (.cells (madeCells #[.int .i64 0] cap) T)) T w.heap.size (.slice (some ⟨w.heap.size, 0, none⟩) 0 cap) [] :=
  World.ownsRow_made (e := T) (size := 1) (base := w.heap.size) (w := w) (madeCells #[.int .i64 0] cap) cap (by simp) (by unfold maxLen; omega) (by rw [size_madeCells]; omega)

/-- What a round keeps: all blocks of cells but some. -/
def KpN (N : Nat → Prop) (X Y : World) : Prop := (∀ k cs T fr, ¬ N k → X.heap[k]? = some (.cells cs T fr) → Y.heap[k]? = some (.cells cs T fr)) ∧ X.heap.size ≤ Y.heap.size
theorem kpN_t {N : Nat → Prop} {A B C : World} (h : KpN N A B) (k : KpN N B C) : KpN N A C := ⟨fun i cs T fr q z => k.1 i cs T fr q (h.1 i cs T fr q z), Nat.le_trans h.2 k.2⟩
theorem kpN_b {N : Nat → Prop} {B : Nat} (W : World) (l : Nat) (o o' : Obj) (_ : B ≤ l) (h : W.heap[l]? = some o) (hc : o.isCells = false) (_ : o.isWalk = false) : KpN N W (W.putObj l o') := by
  refine ⟨fun k cs T fr _ z => ?_, by simp [World.putObj]⟩
  by_cases e : k = l
  · subst e
    rw [z] at h
    cases h
    cases hc
  · exact (World.putObj_heap_other e).trans z
/-- A step of what tells. -/
def StD (D : Nat) (X Y : World) : Prop := Below D X Y ∧ KeepsFrom D X Y
theorem stD_below {D : Nat} {X Y : World} (hD : D ≤ X.heap.size) (h : Below X.heap.size X Y) : StD D X Y := ⟨h.mono hD, ⟨h.size, fun k o _ hk _ => kept_obj h hk⟩⟩
theorem stD_t {D : Nat} {X Y Z : World} (h : StD D X Y) (k : StD D Y Z) : StD D X Z := ⟨h.1.trans k.1, h.2.trans k.2⟩
theorem stD_pass {D g c : Nat} {X Y : World} {row row' : List Int} (hD : D ≤ g) (hr : RowI X g c row) (h : PassAt X g c row' Y) : StD D X Y := by
  have hlt := hr.lt
  refine ⟨h.turn.below (by omega) (fun i e => by omega), h.turn.size, fun k o _ hk hc => ?_⟩
  by_cases e : k = g
  · subst e
    obtain ⟨cur, h1, _⟩ := hr.blk
    rw [h1] at hk
    cases hk
    cases hc
  · exact h.turn.obj hk e
theorem RowI.kp {N : Nat → Prop} {X Y : World} {g c : Nat} {row : List Int} (h : RowI X g c row) (hk : KpN N X Y) (hn : ¬ N g) : RowI Y g c row := h.obj fun cs T fr z => hk.1 g cs T fr hn z
theorem cell_block {w : World} {b o : Nat} {v : Value} (h : w.cell? ⟨b, o, none⟩ = some v) : ∃ cs T fr, w.heap[b]? = some (.cells cs T fr) := by
  unfold World.cell? at h
  cases e : w.heap[b]? with
  | none => rw [e] at h; cases h
  | some ob =>
    rw [e] at h
    cases ob with
    | cells cs T fr => exact ⟨cs, T, fr, rfl⟩
    | _ => simp at h
theorem GView.kp {N : Nat → Prop} {X Y : World} {a : Option Addr} {l : List Dm} (h : GView X a l) (hk : KpN N X Y) (hn : ∀ b o i, a = some ⟨b, o, i⟩ → ¬ N b) : GView Y a l := by
  rcases h with rfl | ⟨b, o, rfl, hc⟩
  · exact .inl rfl
  · refine .inr ⟨b, o, rfl, fun j u hj => ?_⟩
    have hh := hc j u hj
    obtain ⟨cs, T, fr, e⟩ := cell_block hh
    rw [blk_cell (hk.1 b cs T fr (hn b o none rfl) e)]
    rw [blk_cell e] at hh; exact hh

/-- What it reads: its three boxes, the demands. -/
structure ItC (W : World) (D Bl Bf Bt : Nat) (N : Nat → Prop) (a : Option Addr) (m c : Nat) (L : List Dm) (fr tt : Int) : Prop where
  bl : W.heap[Bl]? = some (.cells #[.slice a m c] 25 (0, 0))
  bf : W.heap[Bf]? = some (.cells #[.int .i64 fr] 2 (0, 0))
  bt : W.heap[Bt]? = some (.cells #[.int .i64 tt] 2 (0, 0))
  nl : ¬ N Bl ∧ Bl < D
  nf : ¬ N Bf ∧ Bf < D
  nt : ¬ N Bt ∧ Bt < D
  view : GView W a L
  off : 0 < m → ∀ b o i, a = some ⟨b, o, i⟩ → ¬ N b ∧ b < D
theorem ItC.below {W W' : World} {D Bl Bf Bt : Nat} {N : Nat → Prop} {a : Option Addr} {m c : Nat} {L : List Dm} {fr tt : Int} (h : ItC W D Bl Bf Bt N a m c L fr tt) (hb : Below W.heap.size W W') : ItC W' D Bl Bf Bt N a m c L fr tt :=
  ⟨kept_obj hb h.bl, kept_obj hb h.bf, kept_obj hb h.bt, h.nl, h.nf, h.nt, h.view.below hb, h.off⟩
theorem ItC.kp {W W' : World} {D Bl Bf Bt : Nat} {N : Nat → Prop} {a : Option Addr} {m c : Nat} {L : List Dm} {fr tt : Int} (h : ItC W D Bl Bf Bt N a m c L fr tt) (hm : 0 < m) (hk : KpN N W W') : ItC W' D Bl Bf Bt N a m c L fr tt :=
  ⟨hk.1 _ _ _ _ h.nl.1 h.bl, hk.1 _ _ _ _ h.nf.1 h.bf, hk.1 _ _ _ _ h.nt.1 h.bt, h.nl, h.nf, h.nt, h.view.kp hk (fun b o i e => (h.off hm b o i e).1), h.off⟩
theorem ItC.turn {W W' : World} {D Bl Bf Bt g : Nat} {N : Nat → Prop} {a : Option Addr} {m c : Nat} {L : List Dm} {fr tt : Int} (h : ItC W D Bl Bf Bt N a m c L fr tt) (hm : 0 < m) (hg : D ≤ g) (ht : Turn (fun k => k = g) W W') : ItC W' D Bl Bf Bt N a m c L fr tt :=
  ⟨ht.obj h.bl (by have := h.nl.2; omega), ht.obj h.bf (by have := h.nf.2; omega), ht.obj h.bt (by have := h.nt.2; omega), h.nl, h.nf, h.nt, h.view.turn ht (fun b o i e => by have := (h.off hm b o i e).2; omega), h.off⟩
theorem ItC.low {W W' : World} {D Bl Bf Bt : Nat} {N : Nat → Prop} {a : Option Addr} {m c : Nat} {L : List Dm} {fr tt : Int} (h : ItC W D Bl Bf Bt N a m c L fr tt) (hm : 0 < m) (hb : Below D W W') : ItC W' D Bl Bf Bt N a m c L fr tt := by
  refine ⟨kept_objB hb h.nl.2 h.bl, kept_objB hb h.nf.2 h.bf, kept_objB hb h.nt.2 h.bt, h.nl, h.nf, h.nt, ?_, h.off⟩
  rcases h.view with hv | ⟨b, o, rfl, hc⟩
  · exact .inl hv
  · refine .inr ⟨b, o, rfl, fun j u hj => ?_⟩
    have hlt := (h.off hm b o none rfl).2
    rw [hb.cell (p := ⟨b, o + j, none⟩) hlt]; exact hc j u hj
theorem own_cells {w : World} {e : TypeId} {B k : Nat} {v : Value} {row : List Int} (h : OwnI w e B v row) (hk : v.ownBlock = some k) : ∃ cs T fr, w.heap[k]? = some (.cells cs T fr) := by
  rcases h.2 with ⟨rfl, _⟩ | ⟨g, cap, cur, rfl, _, h3, _⟩
  · cases hk
  · cases hk; exact ⟨_, _, _, h3⟩
theorem stD_grow {D B : Nat} {X Y Z : World} {e : TypeId} {v : Value} {row : List Int} (hDB : D ≤ B) (ho : OwnI X e B v row) (hBX : B ≤ X.heap.size) (hb : Below X.heap.size X Y) (hg : Y.grownBy Z v.ownBlock) : StD D X Z := by
  refine ⟨(hb.mono (Nat.le_trans hDB hBX)).grown hg (Nat.le_trans (Nat.le_trans hDB hBX) hb.size) (fun q hq => Nat.le_trans hDB (ho.new hq).1), Nat.le_trans hb.size hg.size, fun k o _ hk hc => ?_⟩
  have hk2 := kept_obj hb hk
  refine (hg.block k (lt_of_block hk2) (fun z => ?_)).trans hk2
  obtain ⟨cs, T, fr, h3⟩ := own_cells ho z.symm
  rw [h3] at hk
  cases hk
  cases hc
theorem pnone_len {a : Option Addr} {m c : Nat} {w : World} {B : Nat} {row : List Int} (h : OwnI w 2 B (.slice a m c) row) : row.length = m := by
  obtain ⟨_, _, e, _⟩ := h.slice
  exact (Value.slice.inj e).2.1.symm
/-- How far it is to the end. -/
def far (fr tt : Int) : Value → Nat
  | .int _ t => (tt - t).toNat
  | _ => (tt - fr + 1).toNat
theorem pmin_fn : Fence.wide.fn 61 := trivial
theorem ppass_fn : Fence.wide.fn 62 := trivial
/-- What is told. -/
def DlX (x : Int × Int) : Prop := 0 ≤ x.1 ∧ x.1 ≤ 2199023255552 ∧ 0 ≤ x.2 ∧ x.2 ≤ 70368744177664
/-- One answer or the other one. -/
theorem told_or {e : Ending} {A B : Prop} (h : (e = .returned (.bool true) ∧ A) ∨ (e = .returned (.bool false) ∧ B)) : ∃ q, e = .returned (.bool q) ∧ Hid ((q = true → A) ∧ (q = false → B)) := by
  rcases h with ⟨h, a⟩ | ⟨h, b⟩
  · exact ⟨true, h, fun _ => a, fun q => by cases q⟩
  · exact ⟨false, h, fun q => by (cases q), fun _ => b⟩

set_option maxRecDepth 100000 in
set_option maxHeartbeats 8000000 in
theorem deadlines1_in (n : Nat) (hn : 1 ≤ n) (y : Nat) (L : List Dm) (m c : Nat) (hL : L.length = m) (hm : m ≤ 64) (hok : ∀ x ∈ L, x.ok) (fr tt : Int) (hfr : timeOk fr) (htt : timeOk tt) (hft : tt - fr ≤ 1048576) (a : Option Addr) (Bl Bf Bt D : Nat) (N : Nat → Prop) (hN : ∀ k, D ≤ k → ¬ N k)
    (J Jx : List (Int × Int) → World → Prop) (W : World) (hD : D ≤ W.heap.size) (hJ : ∀ q X Y, J q X → StD D X Y → J q Y)
    (hY : ∀ pre x W1, DlX x → J pre W1 → pre.length < 2000000 → YieldAt Fence.wide (n - 1) Try.prog y #[.int .i64 x.1, .int .i64 x.2] W1 fun e W' =>
      (e = .returned (.bool true) ∧ J (pre ++ [x]) W' ∧ KpN N W1 W') ∨ (e = .returned (.bool false) ∧ Jx (pre ++ [x]) W'))
    (hC : ItC W D Bl Bf Bt N a m c L fr tt) (h0 : J [] W) :
    CallsIn Fence.wide n Try.prog 59 #[.func (.yield y) #[] #[], .pointer (some ⟨Bl, 0, none⟩), .pointer (some ⟨Bf, 0, none⟩), .pointer (some ⟨Bt, 0, none⟩)] W fun e W' => (∃ v, e = .returned v) ∧
      ((∃ ys, (∃ u, Chain L fr tt ys u ∧ ∀ t, nextA L u = some t → tt ≤ t) ∧ J ys W') ∨ (∃ pre, (∃ u, Chain L fr tt pre u) ∧ Jx pre W')) := by
  have HY := Lib.hid hY
  have HJ := Lib.hid hJ
  have HN := Lib.hid hN
  have HC := Lib.hid hC
  have HOK := Lib.hid hok
  have HL := Lib.hid hL
  have HD := Lib.hid hD
  have HNN1 := Lib.hid hn
  have HT := Lib.hid (And.intro hfr (And.intro htt hft))
  have H0 : Hid (J [] W) := h0
  have k0 : W.cell? ⟨Bl, 0, none⟩ = some (.slice a m c) := by rw [blk_cell hC.bl]; rfl
  have MK := make_l m (by omega)
  have hOM : Hid (∀ (w : World) (T : TypeId), OwnI (w.alloc (.cells (madeCells #[.int .i64 0] m) T)) T w.heap.size (.slice (some ⟨w.heap.size, 0, none⟩) 0 m) []) := fun w T => ownL_made w m (by omega) T
  clear hY hJ hN hC hok hL hD hfr htt hft h0 hn
  refine callsIn_of_wp Try.func59 rfl trivial ?_ rfl
  simp only [Try.ntmps59, List.size_toArray, List.length_cons, List.length_nil, Nat.reduceAdd, Nat.reduceSub, Array.replicate_succ, Array.replicate_zero, List.push_toArray, List.append_toArray, List.nil_append, List.cons_append]
  refine wpIn_wide.2 ?_
  go_upto_region 1 with fail
  have HO1 := Lib.hid (hOM.out W 2)
  obtain ⟨V, hV⟩ : ∃ V, W.alloc (.cells (madeCells #[.int .i64 0] m) 2) = V := ⟨_, rfl⟩
  have HBV : Hid (Below W.heap.size W V) := by rw [← hV]; exact bw_alloc (Below.refl _ _) _
  rw [hV] at HO1 ⊢
  have HCV := Lib.hid (HC.out.below HBV.out)
  have HJV := Lib.hid (HJ.out _ _ _ H0.out (stD_below HD.out HBV.out))
  have HSV : Hid (W.heap.size ≤ V.heap.size) := HBV.out.size
  have k1 : V.cell? ⟨Bl, 0, none⟩ = some (.slice a m c) := by rw [blk_cell HCV.out.bl]; rfl
  clear hV k0 MK hOM H0 HBV HC
  generalize W.heap.size = B at *
  go_upto_block 0 with fail
  go_cut [5] (fun u wx => ∃ (a' : Option Addr) (c' : Nat), u = .slice a' m c' ∧ Hid (OwnI wx 2 B (.slice a' m c') (nxR L (fr - 1))) ∧ Hid (ItC wx D Bl Bf Bt N a m c L fr tt) ∧ Hid (J [] wx))
  case first =>
    go_wp2
    go_loopw [5, 14] (fun g u wr => ∃ (k : Nat) (a' : Option Addr) (c' : Nat), k ≤ m ∧ u = .int .i64 k ∧ g = .slice a' k c' ∧ Hid (OwnI wr 2 B (.slice a' k c') ((nxR L (fr - 1)).take k)) ∧ Hid (Below B V wr) ∧ Hid (ItC wr D Bl Bf Bt N a m c L fr tt) ∧ Hid (J [] wr)) (fun _ u _ => (m - intOf u).toNat)
    case atStart => exact ⟨0, _, _, Nat.zero_le _, rfl, rfl, HO1, Below.refl _ _, HCV, HJV⟩
    case round =>
      obtain ⟨k, a', c', hk, rfl, rfl, HO, HB, HCr, HJr⟩ := hrel
      clear HO1 HCV HJV k1
      by_cases hlt : k < m
      · obtain ⟨x, hx⟩ := nth_of HL.out hlt
        obtain ⟨g, o, rfl, ⟨c0, c1, c2⟩⟩ := HCr.out.view.at_ hx
        have hk1 : (k : Int) < (m : Int) := by omega
        have hk0 : (0 : Int) ≤ (k : Int) := by omega
        have hxo := HOK.out x (List.mem_of_getElem? hx)
        have AC := Lib.hid (fun v => pafter_any x hxo (fr - 1) (by have := HT.out.1.1; omega) (by have := HT.out.1.2; omega) v)
        have ef : IntKind.i64.wrap (fr - 1) = fr - 1 := IntWalk.i64_in _ (by have := HT.out.1.1; have := HT.out.1.2; omega)
        have HX : Hid ((nxR L (fr - 1)).take (k + 1) = (nxR L (fr - 1)).take k ++ [nxtD x (fr - 1)]) := nxR_next hx
        have HLN : Hid (((nxR L (fr - 1)).take k).length = k) := by show _ = _; rw [List.length_take, nxR_len]; have := HL.out; omega
        have HSM : Hid (((((nxR L (fr - 1)).take k).length + 1 : Nat) : Int) ≤ 17592186044416) := by show _ ≤ _; rw [HLN.out]; omega
        have HNN : Hid (((nxR L (fr - 1)).take k).length + 1 = k + 1) := by show _ = _; rw [HLN.out]
        have HSZ : Hid (B ≤ wr.heap.size) := Nat.le_trans HSV.out HB.out.size
        have HSX : Hid (D ≤ B) := HD.out
        have HM0 : Hid (0 < m) := by show 0 < m; omega
        generalize (nxR L (fr - 1)).take k = Q at *
        generalize nxtD x (fr - 1) = z at *
        clear hx hxo
        go_upto_region 4 with fail
        refine gen_world (fun v => Below wr.heap.size wr v ∧ v.cell? ⟨wr.heap.size, 0, none⟩ = some (.int .i64 x.c) ∧ v.cell? ⟨wr.heap.size, 1, none⟩ = some (.int .i64 x.d) ∧ v.cell? ⟨wr.heap.size, 2, none⟩ = some (.int .i64 x.t)) ⟨(by repeat (first | exact Below.refl _ _ | (with_reducible assumption) | refine bw_alloc ?_ _ | refine bw_drew ?_)), by rw [World.cell?_alloc_new]; rfl, by rw [World.cell?_alloc_new]; rfl, by rw [World.cell?_alloc_new]; rfl⟩ ?_
        intro v7 ⟨hb7, d0, d1, d2⟩
        have HB7 := Lib.hid hb7
        have HC7 := Lib.hid (HCr.out.below hb7)
        have k2 : v7.cell? ⟨Bf, 0, none⟩ = some (.int .i64 fr) := by rw [blk_cell HC7.out.bf]; rfl
        clear c0 c1 c2 hb7
        obtain ⟨gx, hgx⟩ : ∃ gx, wr.heap.size = gx := ⟨_, rfl⟩
        simp only [hgx] at d0 d1 d2 ⊢
        clear hgx
        go_wp2_with (first
          | (go_at_call 60; (with_reducible refine (AC.out _).mono ?_); rintro e w5 ⟨rfl, b5⟩; have HB5 := Lib.hid (below_up HB7.out b5); clear b5)
          | (at_builtin; refine wp_ints (m := 1) (l := [z]) numL11 rfl _ _ rfl rfl rfl ((HO.out.below HB5.out).below (by repeat (first | exact Below.refl _ _ | (with_reducible assumption) | refine bw_alloc ?_ _ | refine bw_drew ?_))) (Nat.le_trans (Nat.le_trans HSZ.out HB5.out.size) ((by repeat (first | exact Below.refl _ _ | (with_reducible assumption) | refine bw_alloc ?_ _ | refine bw_drew ?_)) : Below w5.heap.size w5 _).size) (ints_new w5 z _) rfl (by have := HSM.out; omega) (fun z => by cases z) (k + 1) HNN.out ?_; intro a6 c6 w6 o6 n6 l6; rw [← HX.out] at o6; have HO6 := Lib.hid o6; have HB6 : Hid (Below B V w6) := (HB.out.trans ((below_up HB5.out (by repeat (first | exact Below.refl _ _ | (with_reducible assumption) | refine bw_alloc ?_ _ | refine bw_drew ?_))).mono HSZ.out)).grown n6 (Nat.le_trans HSZ.out (below_up HB5.out (by repeat (first | exact Below.refl _ _ | (with_reducible assumption) | refine bw_alloc ?_ _ | refine bw_drew ?_))).size) (fun q hq => (OwnI.new (HO.out.below (below_up HB5.out (by repeat (first | exact Below.refl _ _ | (with_reducible assumption) | refine bw_alloc ?_ _ | refine bw_drew ?_)))) hq).1); have HST : Hid (StD D wr w6) := stD_grow HSX.out HO.out HSZ.out (below_up HB5.out (by repeat (first | exact Below.refl _ _ | (with_reducible assumption) | refine bw_alloc ?_ _ | refine bw_drew ?_))) n6; have HC6 := Lib.hid (HCr.out.low HM0.out HST.out.1); clear o6 n6 l6))
        have HJ6 := Lib.hid (HJ.out _ _ _ HJr.out HST.out)
        go_roundw
        case rel => exact ⟨k + 1, a6, c6, by omega, by go_num, rfl, HO6, HB6, HC6, HJ6⟩
        case measure => simp [intOf]; omega
      · obtain rfl : k = m := by omega
        have HE : Hid (OwnI wr 2 B (.slice a' k c') (nxR L (fr - 1))) := by
          have := HO.out
          rwa [List.take_of_length_le (by rw [nxR_len]; have := HL.out; omega)] at this
        clear HO HB
        go_wp2_with fail
        go_meet
        exact ⟨a', c', rfl, HE, HCr, HJr⟩
  case rest =>
    obtain ⟨a', c', rfl, HO, HCx, HJx⟩ := hcut
    clear HO1 HCV HJV k1
    go_upto_block 2 with fail
    refine (wpIn_wide (n := n)).1 ?_
    have hn := HNN1.out
    gi_wp2
    by_cases hm0 : m = 0
    · subst hm0
      have HLN : Hid (L = []) := List.length_eq_zero_iff.1 HL.out
      gi_loopw [] (fun wr => Hid (J [] wr)) (fun _ => 0)
      case atStart => exact HJx
      case round =>
        gi_wp2
        go_end0
        exact ⟨⟨_, rfl⟩, .inl ⟨[], ⟨fr - 1, .nil, fun t e => by rw [HLN.out] at e; cases e⟩, hrel.out⟩⟩
    · have hm1 : (0 : Int) < (m : Int) := by omega
      have hm2 : 0 < m := by omega
      have HM0 : Hid (0 < m) := by show 0 < m; omega
      obtain ⟨g, rfl, hBg, hrow, _⟩ := RowI.of_own HO.out HM0.out
      have HROW := Lib.hid hrow
      have HDg : Hid (D ≤ g) := Nat.le_trans HD.out hBg
      clear hm0 hrow hBg HO
      gi_loopw [8] (fun v wr => ∃ (pre : List (Int × Int)) (u : Int), Hid (Chain L fr tt pre u) ∧ Hid (far fr tt v = (tt - u).toNat) ∧ Hid (RowI wr g c' (nxR L u)) ∧ Hid (ItC wr D Bl Bf Bt N a m c L fr tt) ∧ Hid (J pre wr)) (fun v _ => far fr tt v)
      case atStart => exact ⟨[], fr - 1, .nil, by show (tt - fr + 1).toNat = _; congr 1; omega, HROW, HCx, HJx⟩
      case round =>
        obtain ⟨pre, u, HCH, HFAR, HR0, HCr, HJr⟩ := hrel
        clear HROW HCx HJx
        obtain ⟨t, ht⟩ := next_some_of HOK.out (u := u) (by rw [HL.out]; exact HM0.out)
        have HNX := Lib.hid ht
        have hlow := HCH.out.low HOK.out
        have hut := (next_some HOK.out ht).2.1
        obtain ⟨hmem, hle⟩ := nxR_least HOK.out ht
        have MC := Lib.hid (pmin_any (nxR L u) t hmem hle m (by rw [nxR_len, HL.out]) (by omega) _ c' wr HR0.out.ints)
        have k1 : wr.cell? ⟨Bt, 0, none⟩ = some (.int .i64 tt) := by rw [blk_cell HCr.out.bt]; rfl
        have k2 : wr.cell? ⟨Bl, 0, none⟩ = some (.slice a m c) := by rw [blk_cell HCr.out.bl]; rfl
        by_cases hq : tt ≤ t
        · have HE : Hid (∀ z, nextA L u = some z → tt ≤ z) := fun z hz => by rw [HNX.out] at hz; cases hz; exact hq
          clear hmem hle ht hlow hut
          gi_wp2_with ((with_reducible refine And.intro (a := Fence.wide.fn 61) pmin_fn ?_); gi_at_call 61; (refine (callsIn_wide.2 MC.out).mono ?_); rintro e w' ⟨rfl, rfl⟩)
          refine ⟨ppass_fn, ?_⟩
          gi_wp2
          refine ⟨fun _ h => (by cases h), ?_⟩
          gi_wp2
          refine bodyPost_ret (results_none rfl _ _ _) rfl ?_
          exact ⟨⟨_, rfl⟩, .inl ⟨pre, ⟨u, HCH.out, HE.out⟩, HJr.out⟩⟩
        · obtain ⟨M, hM⟩ : ∃ M, dueA L t - dueA L u = M := ⟨_, rfl⟩
          have PC := Lib.hid (ppass_any L m c HL.out hm HOK.out a u t (by omega) (by have := HT.out.1.1; omega) (by have := HT.out.2.1.2; omega) (nxR_le HOK.out ht) g c' wr HCr.out.view HR0.out (fun b o i e => by have := (HCr.out.off HM0.out b o i e).2; have := HDg.out; omega))
          have hj := due_jump HOK.out (show u ≤ t by omega) (nxR_le HOK.out ht) L.length
          have HDX : Hid (DlX (t, M)) := by
            refine ⟨by have := HT.out.1.1; show 0 ≤ t; omega, by have := HT.out.2.1.2; show t ≤ _; omega, ?_, ?_⟩
            · show 0 ≤ M; rw [← hM]; exact hj.1
            · show M ≤ _; rw [← hM]; have h1 := hj.2; have h2 := HL.out; unfold dueA; omega
          have HLEN : Hid (pre.length < 2000000) := by
                                                                                     have h1 := HT.out.2.2
                                                                                     show _ < _
                                                                                     rcases hlow.2.2 with z | ⟨_, z⟩
                                                                                     · omega
                                                                                     · rw [z]; decide
          have HCH2 : Hid (Chain L fr tt (pre ++ [(t, M)]) t) := by rw [← hM]; exact .snoc HCH.out ht (by omega)
          rw [hM] at PC
          have HME : Hid ((tt - t).toNat < (tt - u).toNat) := by show _ < _; omega
          have hq2 : decide (tt ≤ t) = false := decide_eq_false hq
          clear hmem hle ht hlow hut hM hj
          gi_wp2_with (first
            | ((with_reducible refine And.intro (a := Fence.wide.fn 61) pmin_fn ?_); gi_at_call 61; (refine (callsIn_wide.2 MC.out).mono ?_); rintro e w' ⟨rfl, rfl⟩)
            | ((with_reducible refine And.intro (a := Fence.wide.fn 62) ppass_fn ?_); gi_at_call 62; (refine (callsIn_wide.2 PC.out).mono ?_); rintro e w2 ⟨rfl, hp2⟩; have HP2 := Lib.hid hp2; clear hp2; obtain ⟨fn, tmps, assign, body, hy, hR⟩ := HY.out pre (t, M) w2 HDX.out (HJ.out _ _ _ HJr.out (stD_pass HDg.out HR0.out HP2.out)) HLEN.out; have HR := Lib.hid hR; clear hR; dsimp only at hy)
            | ((refine HR.out.mono ?_); rintro e W3 h3; obtain ⟨q, rfl, H3⟩ := told_or h3; clear h3))
          · have HX := Lib.hid (H3.out.2 (by first | (simpa using (by assumption : (!q) = true)) | (simpa using (by assumption : (!q) = false)) | (simpa using (by assumption : ¬ (!q) = true))))
            clear H3
            refine bodyPost_ret (results_none rfl _ _ _) rfl ?_
            exact ⟨⟨_, rfl⟩, .inr ⟨_, ⟨t, HCH2.out⟩, HX.out⟩⟩
          · have HX := Lib.hid (H3.out.1 (by first | (simpa using (by assumption : (!q) = true)) | (simpa using (by assumption : (!q) = false)) | (simpa using (by assumption : ¬ (!q) = true))))
            clear H3
            go_roundw
            case rel =>
              have h2 := HCr.out.turn HM0.out HDg.out HP2.out.turn
              exact ⟨pre ++ [(t, M)], t, HCH2, Lib.hid rfl, HP2.out.row.kp HX.out.2 (HN.out _ HDg.out), h2.kp HM0.out HX.out.2, HX.out.1⟩
            case measure => rw [HFAR.out]; exact HME.out
end Go.Proofs.Ytljigfedmjlfgaa

/-
  The walk over the program's slack.
-/
namespace Go.Proofs.Ytljigfedmjlfgaa
open Go.RowKit Go.Maps Go.Shelf
attribute [local go_sem] Oper.semAt_some

abbrev rowsT : TypeId := 25
set_option maxRecDepth 100000 in
theorem pdeadlines_any (a : Option Addr) (n c : Nat) (fr tt : Int) (w : World) : Calls Try.prog 46 #[.slice a n c, .int .i64 fr, .int .i64 tt] w fun e w' =>
    e = .returned (.func (.func 59) #[] #[.pointer (some ⟨w.heap.size, 0, none⟩), .pointer (some ⟨w.heap.size + 1, 0, none⟩), .pointer (some ⟨w.heap.size + 2, 0, none⟩)]) ∧
      w' = ((w.alloc (.cells #[.slice a n c] 25)).alloc (.cells #[.int .i64 fr] 2)).alloc (.cells #[.int .i64 tt] 2) := by
  have hmf : ∀ (fn : Fn) (first cap : Array Value) (w : World), (Instr.makeFunc fn first cap).run Try.prog w = .ok (.func fn first cap) w := fun _ _ _ _ => rfl
  go_enter Try.func46, Try.ntmps46
  go_wp2
  go_ret
  exact ⟨rfl, rfl⟩

/-- A box of one number or one truth. -/
def Bx (W : World) (b : Nat) (T : TypeId) (v : Value) : Prop := W.heap[b]? = some (.cells #[v] T (0, 0))
theorem Bx.cell {W : World} {b : Nat} {T : TypeId} {v : Value} (h : Bx W b T v) : W.cell? ⟨b, 0, none⟩ = some v := by rw [blk_cell h]; rfl
theorem Bx.free {W : World} {b : Nat} {T : TypeId} {v : Value} (h : Bx W b T v) : W.frozen? ⟨b, 0, none⟩ = false := blk_free h 0
theorem Bx.set {W : World} {b : Nat} {T : TypeId} {v : Value} (h : Bx W b T v) (u : Value) : Bx (W.setCell ⟨b, 0, none⟩ u) b T u := (blk_set (o := 0) h u).trans rfl
theorem Bx.far {W : World} {b b' : Nat} {T : TypeId} {v : Value} (h : Bx W b T v) (hne : b ≠ b') (u : Value) : Bx (W.setCell ⟨b', 0, none⟩ u) b T v := (blk_far hne u).trans h
theorem Bx.low {D : Nat} {W W' : World} {b : Nat} {T : TypeId} {v : Value} (h : Bx W b T v) (hb : Below D W W') (hl : b < D) : Bx W' b T v := kept_objB hb hl h

/-- The boxes: what comes back (two), the work so far, the least so far and whether there is one. -/
structure SlB (w : World) (G : Nat) (s : Int) (b : Option Int) (V : World) : Prop where
  low : Below w.heap.size w V
  r0 : Bx V w.heap.size 2 (.int .i64 0)
  r1 : Bx V (w.heap.size + 1) 4 (.bool false)
  wk : Bx V G 2 (.int .i64 s)
  ls : Bx V (G + 1) 2 (.int .i64 (b.getD 0))
  fd : Bx V (G + 1 + 1) 4 (.bool b.isSome)
  lt : w.heap.size + 1 < G
/-- .. and where it was too much. -/
structure SlX (w : World) (V : World) : Prop where
  low : Below w.heap.size w V
  r0 : Bx V w.heap.size 2 (.int .i64 0)
  r1 : Bx V (w.heap.size + 1) 4 (.bool false)
theorem SlB.lowD {w V V' : World} {G D : Nat} {s : Int} {b : Option Int} (h : SlB w G s b V) (hb : Below D V V') (hD : G + 1 + 1 < D) : SlB w G s b V' := by
  have := h.lt
  exact ⟨h.low.trans (hb.mono (by omega)), h.r0.low hb (by omega), h.r1.low hb (by omega), h.wk.low hb (by omega), h.ls.low hb (by omega), h.fd.low hb (by omega), h.lt⟩
theorem SlB.put {w V : World} {G : Nat} {s : Int} {b : Option Int} (h : SlB w G s b V) (s' : Int) : SlB w G s' b (V.setCell ⟨G, 0, none⟩ (.int .i64 s')) := by
  have := h.lt
  exact ⟨h.low.setCell (p := ⟨G, 0, none⟩) (by show _ ≤ G; omega) _, h.r0.far (by omega) _, h.r1.far (by omega) _, h.wk.set _, h.ls.far (by omega) _, h.fd.far (by omega) _, h.lt⟩
theorem SlB.best {w V : World} {G : Nat} {s : Int} {b : Option Int} (h : SlB w G s b V) (v : Int) : SlB w G s (some v) ((V.setCell ⟨G + 1, 0, none⟩ (.int .i64 v)).setCell ⟨G + 1 + 1, 0, none⟩ (.bool true)) := by
  have := h.lt
  exact ⟨(h.low.setCell (p := ⟨G + 1, 0, none⟩) (by show _ ≤ G + 1; omega) _).setCell (p := ⟨G + 1 + 1, 0, none⟩) (by show _ ≤ G + 1 + 1; omega) _, (h.r0.far (by omega) _).far (by omega) _, (h.r1.far (by omega) _).far (by omega) _, (h.wk.far (by omega) _).far (by omega) _, (h.ls.set _).far (by omega) _, (h.fd.far (by omega) _).set _, h.lt⟩
theorem SlB.over {w V : World} {G : Nat} {s : Int} {b : Option Int} (h : SlB w G s b V) : SlX w ((V.setCell ⟨w.heap.size, 0, none⟩ (.int .i64 0)).setCell ⟨w.heap.size + 1, 0, none⟩ (.bool false)) :=
  ⟨(h.low.setCell (p := ⟨w.heap.size, 0, none⟩) (Nat.le_refl _) _).setCell (p := ⟨w.heap.size + 1, 0, none⟩) (by simp) _, (h.r0.set _).far (by omega) _, (h.r1.far (by omega) _).set _⟩
theorem Bx.own {X Y : World} {b : Nat} {T : TypeId} {v : Value} {row : Option Nat} (h : Bx X b T v) (hg : X.grownBy Y row) (hr : ∀ r, row = some r → ∃ o : Obj, X.heap[r]? = some o ∧ o.isCells = false) : Bx Y b T v :=
  (hg.block b (lt_of_block h) (fun e => by
    obtain ⟨o, ho, hc⟩ := hr b e.symm
    rw [show X.heap[b]? = _ from h] at ho
    cases ho
    cases hc)).trans h
theorem SlB.own {w : World} {G : Nat} {D : Nat} (hD : w.heap.size ≤ D) {s : Int} {b : Option Int} {X Y : World} {row : Option Nat} (h : SlB w G s b X) (hg : X.grownBy Y row) (hr : ∀ r, row = some r → D ≤ r ∧ ∃ o : Obj, X.heap[r]? = some o ∧ o.isCells = false) : SlB w G s b Y :=
  ⟨ownFrom_below (β := Unit) (Nat.le_refl _) hD () X Y row h.low hg hr, h.r0.own hg (fun r e => (hr r e).2), h.r1.own hg (fun r e => (hr r e).2), h.wk.own hg (fun r e => (hr r e).2), h.ls.own hg (fun r e => (hr r e).2), h.fd.own hg (fun r e => (hr r e).2), h.lt⟩
theorem SlX.own {w : World} {D : Nat} (hD : w.heap.size ≤ D) {X Y : World} {row : Option Nat} (h : SlX w X) (hg : X.grownBy Y row) (hr : ∀ r, row = some r → D ≤ r ∧ ∃ o : Obj, X.heap[r]? = some o ∧ o.isCells = false) : SlX w Y :=
  ⟨ownFrom_below (β := Unit) (Nat.le_refl _) hD () X Y row h.low hg hr, h.r0.own hg (fun r e => (hr r e).2), h.r1.own hg (fun r e => (hr r e).2)⟩
theorem kpN_set {N : Nat → Prop} (W : World) {b : Nat} (hb : N b) (v : Value) : KpN N W (W.setCell ⟨b, 0, none⟩ v) :=
  ⟨fun k cs T fr hk hz => (blk_far (a := ⟨b, 0, none⟩) (fun e => hk (by rw [e]; exact hb)) v).trans hz, by simp [World.setCell]⟩
theorem kf_set {D : Nat} (W : World) (p : Addr) (v : Value) : KeepsFrom D W (W.setCell p v) := (KeepsOthers.setCell _ _ _).from _
/-- The boxes that a round may turn. -/
def NB (w : World) (G : Nat) (k : Nat) : Prop := k = w.heap.size ∨ k = w.heap.size + 1 ∨ k = G ∨ k = G + 1 ∨ k = G + 1 + 1
abbrev DlP := { x : Int × Int // DlX x }
theorem deadlines_tells (n : Nat) (hn : 1 ≤ n) (L : List Dm) (m c : Nat) (hL : L.length = m) (hm : m ≤ 64) (hok : ∀ x ∈ L, x.ok) (fr tt : Int) (hfr : timeOk fr) (htt : timeOk tt) (hft : tt - fr ≤ 1048576) (a : Option Addr) (Bl Bf Bt : Nat) (N : Nat → Prop) (w : World) (hN : ∀ k, w.heap.size ≤ k → ¬ N k)
    (hC : ItC w w.heap.size Bl Bf Bt N a m c L fr tt) :
    Tells n Try.prog 59 #[.pointer (some ⟨Bl, 0, none⟩), .pointer (some ⟨Bf, 0, none⟩), .pointer (some ⟨Bt, 0, none⟩)] (fun x : DlP => #[.int .i64 x.1.1, .int .i64 x.1.2]) (KpN N) (StD w.heap.size)
      (fun ys => ∃ u, Chain L fr tt (ys.map (·.1)) u ∧ ∀ t, nextA L u = some t → tt ≤ t) (fun ys => ∃ u, Chain L fr tt (ys.map (·.1)) u) 2000000 w :=
  fun l J Jx W hW hJ hY hs0 =>
    (deadlines1_in n hn l L m c hL hm hok fr tt hfr htt hft a Bl Bf Bt w.heap.size N hN (fun q W => ∃ q' : List DlP, q'.map (·.1) = q ∧ J q' W) (fun q W => ∃ q' : List DlP, q'.map (·.1) = q ∧ Jx q' W) W hW.size
      (fun q X Y ⟨q', e, h⟩ st => ⟨q', e, hJ _ _ _ h st⟩)
      (fun pre x W1 hx ⟨q', e, h⟩ hlen => by
        subst e
        obtain ⟨fn, tmps, assign, body, hy, hR⟩ := hY q' ⟨x, hx⟩ W1 h (by simpa using hlen)
        refine ⟨fn, tmps, assign, body, hy, hR.mono ?_⟩
        rintro e W' (⟨rfl, hj, hk⟩ | ⟨rfl, hj⟩)
        · exact .inl ⟨rfl, ⟨_, by simp, hj⟩, hk⟩
        · exact .inr ⟨rfl, _, by simp, hj⟩)
      (hC.below hW) ⟨[], rfl, hs0⟩).mono fun e W' ⟨hv, h⟩ => ⟨hv, by
        rcases h with ⟨ys, ⟨u, h1, h2⟩, q', rfl, hj⟩ | ⟨pre, ⟨u, h1⟩, q', rfl, hj⟩
        · exact .inl ⟨q', ⟨u, h1, h2⟩, hj⟩
        · exact .inr ⟨q', ⟨u, h1⟩, hj⟩⟩

set_option maxRecDepth 100000 in
set_option maxHeartbeats 8000000 in
theorem pslack_any {w : World} {a : Option Addr} {n c : Nat} {l : List Dm} (h : Dems w a n c l) (fr tt : Int) (hf : I64 fr) (ht : I64 tt) : Calls Try.prog 25 #[.slice a n c, .int .i64 fr, .int .i64 tt] w fun e w' => e = .returned (.tuple #[.int .i64 ((slS l fr tt).getD 0), .bool (slS l fr tt).isSome]) ∧ Below w.heap.size w w' := by
  have HV := Lib.hid h.view
  have HL := Lib.hid h.len
  have RC := Lib.hid (fun v (hb : Below w.heap.size w v) => pchk_any l n c h.len h.n9 a v (h.view.below hb))
  have TC := Lib.hid (fun v => ptime_any fr v)
  have UC := Lib.hid (fun v => ptime_any tt v)
  have HN9 := Lib.hid h.n9
  have HF := Lib.hid hf
  have HT := Lib.hid ht
  obtain ⟨b1, hb1⟩ : ∃ b1, okL l = b1 := ⟨_, rfl⟩
  obtain ⟨b2, hb2⟩ : ∃ b2, timeB fr = b2 := ⟨_, rfl⟩
  obtain ⟨b3, hb3⟩ : ∃ b3, timeB tt = b3 := ⟨_, rfl⟩
  by_cases hbad : b1 = false ∨ (b1 = true ∧ b2 = false) ∨ (b1 = true ∧ b2 = true ∧ b3 = false) ∨ (b1 = true ∧ b2 = true ∧ b3 = true ∧ 1048576 < tt - fr)
  · have HN : Hid (slS l fr tt = none) := by
      rcases hbad with rfl | ⟨rfl, rfl⟩ | ⟨rfl, rfl, rfl⟩ | ⟨rfl, rfl, rfl, hq⟩
      · show _ = _; unfold slS; rw [if_neg (fun z => by rw [hb1] at z; cases z.1)]
      · exact slS_bad (fun z => by rw [hb2] at z; cases z.1)
      · exact slS_bad (fun z => by rw [hb3] at z; cases z.2.1)
      · exact slS_bad (fun z => by omega)
    rw [hb1] at RC
    rw [hb2] at TC
    rw [hb3] at UC
    have HB2 := Lib.hid hb2
    have HB3 := Lib.hid hb3
    clear hb1 hb2 hb3 h hf ht
    rcases hbad with rfl | ⟨rfl, rfl⟩ | ⟨rfl, rfl, rfl⟩ | ⟨rfl, rfl, rfl, hq⟩
    rotate_left 3
    have ew : IntKind.i64.wrap (tt - fr) = tt - fr := IntWalk.i64_in _ (by have h1 := timeB_iff.1 HB2.out; have h2 := timeB_iff.1 HB3.out; unfold timeOk at h1 h2; omega)
    rotate_left 1
    all_goals
      go_enter Try.func25, Try.ntmps25
      go_upto_region 1 with fail
      refine gen_world (fun v => Below w.heap.size w v ∧ Bx v w.heap.size 2 (.int .i64 0) ∧ Bx v (w.heap.size + 1) 4 (.bool false)) ⟨(by repeat (first | exact Below.refl _ _ | (with_reducible assumption) | refine bw_alloc ?_ _ | refine bw_drew ?_)), (two_boxes w rfl _ _).1, (two_boxes w rfl _ _).2⟩ ?_
      intro V ⟨hb, hr0, hr1⟩
      have HB := Lib.hid hb
      have HR0 := Lib.hid hr0
      have HR1 := Lib.hid hr1
      clear hb hr0 hr1
      go_upto_region 2 with (first
        | (go_at_call 43; (with_reducible refine (RC.out _ HB.out).mono ?_); rintro e w1 ⟨rfl, bx1⟩; have HBB := Lib.hid (below_up HB.out bx1); have hq0 : Bx w1 w.heap.size 2 (.int .i64 0) := kept_obj bx1 HR0.out; have hq1 : Bx w1 (w.heap.size + 1) 4 (.bool false) := kept_obj bx1 HR1.out; have f0 := hq0.free; have f1 := hq1.free; have r0 := hq0.cell; have r1 := hq1.cell; have HQ0 := Lib.hid hq0; have HQ1 := Lib.hid hq1; clear bx1 hq0 hq1)
        | (go_at_call 44; (first | (with_reducible refine (TC.out _).mono ?_) | (with_reducible refine (UC.out _).mono ?_)); rintro e w2 ⟨rfl, rfl⟩))
      go_wp2_with fail
      have y0 := ((HQ0.out.set (.int .i64 0)).far (b' := w.heap.size + 1) (by omega) (.bool false)).cell
      have y1 := ((HQ1.out.far (b' := w.heap.size) (by omega) (.int .i64 0)).set (.bool false)).cell
      refine bodyPost_ret (v := .tuple #[.int .i64 0, .bool false]) ?_ rfl ⟨by rw [HN.out]; rfl, (HBB.out.setCell (p := ⟨w.heap.size, 0, none⟩) (Nat.le_refl _) _).setCell (p := ⟨w.heap.size + 1, 0, none⟩) (by simp) _⟩
      simp [results, Try.results25, go_sem, y0, y1]
  obtain rfl : b1 = true := by cases b1 with | true => rfl | false => exact absurd (.inl rfl) hbad
  obtain rfl : b2 = true := by cases b2 with | true => rfl | false => exact absurd (.inr (.inl ⟨rfl, rfl⟩)) hbad
  obtain rfl : b3 = true := by cases b3 with | true => rfl | false => exact absurd (.inr (.inr (.inl ⟨rfl, rfl, rfl⟩))) hbad
  have hq : ¬ 1048576 < tt - fr := fun q => hbad (.inr (.inr (.inr ⟨rfl, rfl, rfl, q⟩)))
  have ht1 := timeB_iff.1 hb2
  have ht2 := timeB_iff.1 hb3
  have ew : IntKind.i64.wrap (tt - fr) = tt - fr := IntWalk.i64_in _ (by unfold timeOk at ht1 ht2; omega)
  have ef : IntKind.i64.wrap (fr - 1) = fr - 1 := IntWalk.i64_in _ (by unfold timeOk at ht1 ht2; omega)
  have hok := okL_iff.1 hb1
  have DC := Lib.hid (fun v (hb : Below w.heap.size w v) => pdue_any l n c h.len h.n9 hok.1 a (fr - 1) (by have := ht1.1; omega) (by have := ht1.2; omega) v (h.view.below hb))
  have HD0 := Lib.hid (due_nonneg hok.1 (fr - 1))
  have HIN := Lib.hid (And.intro hb1 (And.intro hb2 (And.intro hb3 (show tt - fr ≤ 1048576 by omega))))
  rw [hb1] at RC
  rw [hb2] at TC
  rw [hb3] at UC
  have HM64 : Hid (n ≤ 64) := by have h1 := hok.2; have h2 := HL.out; show n ≤ 64; omega
  by_cases hmuch : 4611686018427387904 < dueA l (fr - 1)
  · have HN : Hid (slS l fr tt = none) := slS_much hok.1 hmuch
    rw [cap_not hmuch] at DC
    clear hb1 hb2 hb3 h hf ht hbad ht1 ht2 hok hmuch
    go_enter Try.func25, Try.ntmps25
    go_upto_region 1 with fail
    refine gen_world (fun v => Below w.heap.size w v ∧ Bx v w.heap.size 2 (.int .i64 0) ∧ Bx v (w.heap.size + 1) 4 (.bool false)) ⟨(by repeat (first | exact Below.refl _ _ | (with_reducible assumption) | refine bw_alloc ?_ _ | refine bw_drew ?_)), (two_boxes w rfl _ _).1, (two_boxes w rfl _ _).2⟩ ?_
    intro V ⟨hb, hr0, hr1⟩
    have HB := Lib.hid hb
    have HR0 := Lib.hid hr0
    have HR1 := Lib.hid hr1
    clear hb hr0 hr1
    go_upto_region 3 with (first
      | (go_at_call 43; (with_reducible refine (RC.out _ HB.out).mono ?_); rintro e w1 ⟨rfl, bx1⟩; have HBB := Lib.hid (below_up HB.out bx1); have HQ0 : Hid (Bx w1 w.heap.size 2 (.int .i64 0)) := kept_obj bx1 HR0.out; have HQ1 : Hid (Bx w1 (w.heap.size + 1) 4 (.bool false)) := kept_obj bx1 HR1.out; clear bx1)
      | (go_at_call 44; (first | (with_reducible refine (TC.out _).mono ?_) | (with_reducible refine (UC.out _).mono ?_)); rintro e w2 ⟨rfl, rfl⟩))
    go_upto_region 4 with (go_at_call 45; (with_reducible refine (DC.out _ HBB.out).mono ?_); rintro e w3 ⟨rfl, bx3⟩; have HB3 := Lib.hid (below_up HBB.out bx3); have HS0 : Hid (Bx w3 w.heap.size 2 (.int .i64 0)) := kept_obj bx3 HQ0.out; have HS1 : Hid (Bx w3 (w.heap.size + 1) 4 (.bool false)) := kept_obj bx3 HQ1.out; clear bx3)
    refine gen_world (fun v => Below w.heap.size w v ∧ Bx v w.heap.size 2 (.int .i64 0) ∧ Bx v (w.heap.size + 1) 4 (.bool false)) ⟨below_up HB3.out (by repeat (first | exact Below.refl _ _ | (with_reducible assumption) | refine bw_alloc ?_ _ | refine bw_drew ?_)), kept_obj (by repeat (first | exact Below.refl _ _ | (with_reducible assumption) | refine bw_alloc ?_ _ | refine bw_drew ?_)) HS0.out, kept_obj (by repeat (first | exact Below.refl _ _ | (with_reducible assumption) | refine bw_alloc ?_ _ | refine bw_drew ?_)) HS1.out⟩ ?_
    intro V2 ⟨hb, hr0, hr1⟩
    have HB2 := Lib.hid hb
    have HU0 := Lib.hid hr0
    have HU1 := Lib.hid hr1
    have f0 := hr0.free
    have f1 := hr1.free
    have r0 := hr0.cell
    have r1 := hr1.cell
    clear hb hr0 hr1
    go_wp2_with fail
    have y0 := ((HU0.out.set (.int .i64 0)).far (b' := w.heap.size + 1) (by omega) (.bool false)).cell
    have y1 := ((HU1.out.far (b' := w.heap.size) (by omega) (.int .i64 0)).set (.bool false)).cell
    refine bodyPost_ret (v := .tuple #[.int .i64 0, .bool false]) ?_ rfl ⟨by rw [HN.out]; rfl, (HB2.out.setCell (p := ⟨w.heap.size, 0, none⟩) (Nat.le_refl _) _).setCell (p := ⟨w.heap.size + 1, 0, none⟩) (by simp) _⟩
    simp [results, Try.results25, go_sem, y0, y1]
  have hmuch' : dueA l (fr - 1) ≤ 4611686018427387904 := by omega
  rw [cap_is hmuch'] at DC
  obtain ⟨w0, hw0⟩ : ∃ w0, dueA l (fr - 1) = w0 := ⟨_, rfl⟩
  have HW0 := Lib.hid hw0
  rw [hw0] at DC HD0 hmuch'
  have HW1 := Lib.hid hmuch'
  have PDL := Lib.hid (fun v => pdeadlines_any a n c fr tt v)
  clear hb1 hb2 hb3 h hf ht hbad ht1 ht2 hok hmuch hmuch' hw0
  refine (callsIn_wide (n := 4)).1 ?_
  refine callsIn_of_wp_marks Try.func25 rfl trivial ?_ rfl
  simp only [Try.ntmps25, List.size_toArray, List.length_cons, List.length_nil, Nat.reduceAdd, Nat.reduceSub, Array.replicate_succ, Array.replicate_zero, List.push_toArray, List.append_toArray, List.nil_append, List.cons_append]
  refine wpIn_wide.2 ?_
  go_upto_region 1 with fail
  refine gen_world (fun v => Below w.heap.size w v ∧ Bx v w.heap.size 2 (.int .i64 0) ∧ Bx v (w.heap.size + 1) 4 (.bool false)) ⟨(by repeat (first | exact Below.refl _ _ | (with_reducible assumption) | refine bw_alloc ?_ _ | refine bw_drew ?_)), (two_boxes w rfl _ _).1, (two_boxes w rfl _ _).2⟩ ?_
  intro V ⟨hb, hr0, hr1⟩
  have HB := Lib.hid hb
  have HR0 := Lib.hid hr0
  have HR1 := Lib.hid hr1
  clear hb hr0 hr1
  go_upto_region 3 with (first
    | (go_at_call 43; (with_reducible refine (RC.out _ HB.out).mono ?_); rintro e w1 ⟨rfl, bx1⟩; have HBB := Lib.hid (below_up HB.out bx1); have HQ0 : Hid (Bx w1 w.heap.size 2 (.int .i64 0)) := kept_obj bx1 HR0.out; have HQ1 : Hid (Bx w1 (w.heap.size + 1) 4 (.bool false)) := kept_obj bx1 HR1.out; clear bx1)
    | (go_at_call 44; (first | (with_reducible refine (TC.out _).mono ?_) | (with_reducible refine (UC.out _).mono ?_)); rintro e w2 ⟨rfl, rfl⟩))
  clear RC TC UC HB HR0 HR1
  go_upto_region 4 with (go_at_call 45; (with_reducible refine (DC.out _ HBB.out).mono ?_); rintro e w3 ⟨rfl, bx3⟩; have HB3 := Lib.hid (below_up HBB.out bx3); have HS0 : Hid (Bx w3 w.heap.size 2 (.int .i64 0)) := kept_obj bx3 HQ0.out; have HS1 : Hid (Bx w3 (w.heap.size + 1) 4 (.bool false)) := kept_obj bx3 HQ1.out; clear bx3)
  clear DC HBB HQ0 HQ1
  go_upto_region 6 with fail
  go_upto_region 7 with fail
  refine gen_world (SlB w w3.heap.size w0 none) ⟨below_up HB3.out (by repeat (first | exact Below.refl _ _ | (with_reducible assumption) | refine bw_alloc ?_ _ | refine bw_drew ?_)), kept_obj (by repeat (first | exact Below.refl _ _ | (with_reducible assumption) | refine bw_alloc ?_ _ | refine bw_drew ?_)) HS0.out, kept_obj (by repeat (first | exact Below.refl _ _ | (with_reducible assumption) | refine bw_alloc ?_ _ | refine bw_drew ?_)) HS1.out, kept_obj (by repeat (first | exact Below.refl _ _ | (with_reducible assumption) | refine bw_alloc ?_ _ | refine bw_drew ?_)) (heap_alloc_new w3 _), ?_, ?_, lt_of_block HS1.out⟩ ?_
  · have := heap_alloc_new (w3.alloc (.cells #[.int .i64 w0] 2)) (.cells #[.int .i64 0] 2)
    rw [World.size_alloc] at this
    exact kept_obj (by repeat (first | exact Below.refl _ _ | (with_reducible assumption) | refine bw_alloc ?_ _ | refine bw_drew ?_)) this
  · have := heap_alloc_new ((w3.alloc (.cells #[.int .i64 w0] 2)).alloc (.cells #[.int .i64 0] 2)) (.cells #[.bool false] 4)
    rw [World.size_alloc, World.size_alloc] at this
    exact this
  intro V7 hv7
  have HV7 := Lib.hid hv7
  clear hv7 HB3 HS0 HS1
  generalize w3.heap.size = G at *
  go_upto_block 0 with (go_at_call 46; (with_reducible refine (PDL.out _).mono ?_); rintro e w8 ⟨rfl, rfl⟩)
  clear PDL
  obtain ⟨D, hD⟩ : ∃ D, V7.heap.size = D := ⟨_, rfl⟩
  have HDG : Hid (G + 1 + 1 < D) := by show _ < _; rw [← hD]; exact lt_of_block HV7.out.fd
  have hIT : SlB w G w0 none (((V7.alloc (.cells #[.slice a n c] 25)).alloc (.cells #[.int .i64 fr] 2)).alloc (.cells #[.int .i64 tt] 2)) := HV7.out.lowD (D := V7.heap.size) (by repeat (first | exact Below.refl _ _ | (with_reducible assumption) | refine bw_alloc ?_ _ | refine bw_drew ?_)) (by rw [hD]; exact HDG.out)
  have hx0 : Bx (((V7.alloc (.cells #[.slice a n c] 25)).alloc (.cells #[.int .i64 fr] 2)).alloc (.cells #[.int .i64 tt] 2)) V7.heap.size 25 (.slice a n c) := kept_obj (by repeat (first | exact Below.refl _ _ | (with_reducible assumption) | refine bw_alloc ?_ _ | refine bw_drew ?_)) (heap_alloc_new V7 (.cells #[.slice a n c] 25))
  have hx1 : Bx (((V7.alloc (.cells #[.slice a n c] 25)).alloc (.cells #[.int .i64 fr] 2)).alloc (.cells #[.int .i64 tt] 2)) (V7.heap.size + 1) 2 (.int .i64 fr) := by
    have := heap_alloc_new (V7.alloc (.cells #[.slice a n c] 25)) (.cells #[.int .i64 fr] 2)
    rw [World.size_alloc] at this
    exact kept_obj (by repeat (first | exact Below.refl _ _ | (with_reducible assumption) | refine bw_alloc ?_ _ | refine bw_drew ?_)) this
  have hx2 : Bx (((V7.alloc (.cells #[.slice a n c] 25)).alloc (.cells #[.int .i64 fr] 2)).alloc (.cells #[.int .i64 tt] 2)) (V7.heap.size + 2) 2 (.int .i64 tt) := by
    have := heap_alloc_new ((V7.alloc (.cells #[.slice a n c] 25)).alloc (.cells #[.int .i64 fr] 2)) (.cells #[.int .i64 tt] 2)
    rw [World.size_alloc, World.size_alloc] at this
    exact this
  have hsz : (((V7.alloc (.cells #[.slice a n c] 25)).alloc (.cells #[.int .i64 fr] 2)).alloc (.cells #[.int .i64 tt] 2)).heap.size = V7.heap.size + 3 := by simp
  rw [hD] at hx0 hx1 hx2 hsz ⊢
  generalize (((V7.alloc (.cells #[.slice a n c] 25)).alloc (.cells #[.int .i64 fr] 2)).alloc (.cells #[.int .i64 tt] 2)) = W8 at *
  clear hD HV7
  have HTL : Hid (∀ n1, 1 ≤ n1 → Tells n1 Try.prog 59 #[.pointer (some ⟨D, 0, none⟩), .pointer (some ⟨D + 1, 0, none⟩), .pointer (some ⟨D + 2, 0, none⟩)] (fun x : DlP => #[.int .i64 x.1.1, .int .i64 x.1.2]) (KpN (NB w G)) (StD W8.heap.size)
      (fun ys => ∃ u, Chain l fr tt (ys.map (·.1)) u ∧ ∀ t, nextA l u = some t → tt ≤ t) (fun ys => ∃ u, Chain l fr tt (ys.map (·.1)) u) 2000000 W8) := fun n1 h1 => by
    have hg := HDG.out
    have hlt := hIT.lt
    have hnb : ∀ k, D ≤ k → ¬ NB w G k := fun k hk q => by unfold NB at q; omega
    have hok := okL_iff.1 HIN.out.1
    refine deadlines_tells n1 h1 l n c HL.out HM64.out hok.1 fr tt (timeB_iff.1 HIN.out.2.1) (timeB_iff.1 HIN.out.2.2.1) HIN.out.2.2.2 a D (D + 1) (D + 2) (NB w G) W8 (fun k hk => hnb k (by omega)) ⟨hx0, hx1, hx2, ⟨hnb _ (by omega), by omega⟩, ⟨hnb _ (by omega), by omega⟩, ⟨hnb _ (by omega), by omega⟩, HV.out.below hIT.low, fun hn0 b o i e => ?_⟩
    rcases HV.out with rfl | ⟨g, o', e', hc⟩
    · have := HL.out; rw [List.length_nil] at this; omega
    · rw [e] at e'
      cases e'
      obtain ⟨x, hx⟩ := nth_of HL.out hn0
      have hb : b < w.heap.size := by
        have h0 := gflat_at l 0 x hx 0 (by omega)
        exact block_of_cell (hc 0 _ (by rw [← Nat.zero_mul 3]; exact h0))
      exact ⟨fun q => by unfold NB at q; omega, by omega⟩
  clear hx0 hx1 hx2
  have HI0 := Lib.hid hIT
  clear hIT
  refine (wpIn_wide (n := 4)).1 ?_
  have HSZ := Lib.hid hsz
  clear hsz
  gi_wp2
  have HDW : Hid (w.heap.size ≤ W8.heap.size) := HI0.out.low.size
  refine range_tells (n := 4) (by omega) (gf := 59) (lb := #[.pointer (some ⟨D, 0, none⟩), .pointer (some ⟨D + 1, 0, none⟩), .pointer (some ⟨D + 2, 0, none⟩)]) rfl (fun _ _ => MuLone.run_callFunc_enter Try.func59 (by kernel_rfl) rfl _ _)
    (HTL.out _ (by omega)) kpN_t kpN_b (fun X Y st => st.2) (fun _ => rfl)
    (fun pre V => ∃ s b, stF w0 (pre.map (·.1)) = some (s, b) ∧ 0 ≤ s ∧ s ≤ 4611686018427387904 ∧ SlB w G s b V)
    (fun pre V => stF w0 (pre.map (·.1)) = none ∧ SlX w V)
    (fun _ X Y row ⟨s, b, e1, e2, e3, e4⟩ hg hr => ⟨s, b, e1, e2, e3, e4.own HDW.out hg hr⟩)
    (fun _ X Y ⟨s, b, e1, e2, e3, e4⟩ st => ⟨s, b, e1, e2, e3, e4.lowD st.1 (by rw [HSZ.out]; have := HDG.out; omega)⟩)
    (fun _ X Y row ⟨e1, e2⟩ hg hr => ⟨e1, e2.own HDW.out hg hr⟩)
    ⟨w0, none, rfl, HD0.out, HW1.out, HI0.out⟩
    (fun x => { tmps := List.toArray (Value.slice a n c :: Value.int IntKind.i64 fr :: Value.int IntKind.i64 tt :: undef :: undef :: undef :: Value.pointer (some ⟨w.heap.size, 0, none⟩) :: Value.pointer (some ⟨w.heap.size + 1, 0, none⟩) :: Value.pointer (some ⟨G, 0, none⟩) :: Value.bool true :: Value.pointer (some ⟨G + 1, 0, none⟩) :: Value.pointer (some ⟨G + 1 + 1, 0, none⟩) :: Value.int IntKind.i64 x.1.1 :: Value.int IntKind.i64 x.1.2 :: Value.slice a n c :: Value.bool true :: Value.bool false :: Value.bool false :: Value.int IntKind.i64 fr :: Value.bool true :: Value.bool false :: Value.bool false :: Value.bool false :: Value.int IntKind.i64 tt :: Value.bool true :: Value.bool false :: Value.bool false :: Value.bool false :: Value.int IntKind.i64 tt :: Value.int IntKind.i64 fr :: Value.int IntKind.i64 (tt - fr) :: Value.bool (decide (1048576 < tt - fr)) :: Value.bool (decide (1048576 < tt - fr)) :: Value.tuple #[Value.int IntKind.i64 w0, Value.bool true] :: Value.slice a n c :: Value.int IntKind.i64 fr :: Value.int IntKind.i64 (fr - 1) :: Value.tuple #[Value.int IntKind.i64 w0, Value.bool true] :: Value.int IntKind.i64 w0 :: Value.bool true :: Value.bool true :: Value.bool false :: Value.slice a n c :: Value.int IntKind.i64 fr :: Value.int IntKind.i64 tt :: Value.func (Fn.func 59) #[] #[.pointer (some ⟨D, 0, none⟩), .pointer (some ⟨D + 1, 0, none⟩), .pointer (some ⟨D + 2, 0, none⟩)] :: Value.int IntKind.i64 x.1.1 :: Value.int IntKind.i64 x.1.2 :: undef :: undef :: undef :: undef :: undef :: undef :: undef :: undef :: undef :: undef :: undef :: undef :: undef :: undef :: undef :: undef :: undef :: undef :: undef :: []), defers := [] })
    ?assign ?body ?done ?stop
  case assign =>
    intro y x V K hK
    gi_wp2
    exact hK
  case body =>
    rintro y pre ⟨⟨t, m⟩, hx⟩ V ⟨s, b, e1, e2, e3, hB⟩ hlt
    obtain ⟨t0, t1, m0, m1⟩ := id hx
    dsimp only at t0 t1 m0 m1
    have hltG := hB.lt
    have HB := Lib.hid hB
    have HE1 := Lib.hid e1
    have k0 := hB.wk.cell
    have k1 := hB.ls.cell
    have k2 := hB.fd.cell
    have f0 := hB.wk.free
    have f1 := hB.ls.free
    have f2 := hB.fd.free
    have q0 := hB.r0.cell
    have q1 := hB.r1.cell
    have g0 := hB.r0.free
    have g1 := hB.r1.free
    have ew : IntKind.i64.wrap (s + m) = s + m := IntWalk.i64_in _ (by omega)
    have n1 : ¬ G = w.heap.size := by omega
    have n2 : ¬ G = w.heap.size + 1 := by omega
    have n3 : ¬ w.heap.size = G := by omega
    have n4 : ¬ w.heap.size + 1 = G := by omega
    have HS2 : Hid (0 ≤ s + m) := by show 0 ≤ s + m; omega
    have et : IntKind.i64.wrap (t - (s + m)) = t - (s + m) := IntWalk.i64_in _ (by omega)
    clear HTL hB e1
    dsimp only
    obtain ⟨v, hv⟩ : ∃ v, s + m = v := ⟨_, rfl⟩
    have HVV := Lib.hid hv
    have HP0 := Lib.hid (HB.out.put v)
    have ev : IntKind.i64.wrap (s + m) = v := by rw [ew, hv]
    rw [hv] at et HS2
    clear t0 t1 m0 m1 e2 e3 ew
    have HK0 : Hid (KeepsFrom W8.heap.size V (V.setCell ⟨G, 0, none⟩ (.int .i64 v)) ∧ KpN (NB w G) V (V.setCell ⟨G, 0, none⟩ (.int .i64 v))) := ⟨kf_set _ _ _, kpN_set V (.inr (.inr (.inl rfl))) _⟩
    have HK1 : Hid (∀ V1 q, KeepsFrom W8.heap.size V1 ((V1.setCell ⟨G + 1, 0, none⟩ (.int .i64 q)).setCell ⟨G + 1 + 1, 0, none⟩ (.bool true)) ∧ KpN (NB w G) V1 ((V1.setCell ⟨G + 1, 0, none⟩ (.int .i64 q)).setCell ⟨G + 1 + 1, 0, none⟩ (.bool true))) :=
      fun V1 q => ⟨(kf_set _ _ _).trans (kf_set _ _ _), kpN_t (kpN_set V1 (.inr (.inr (.inr (.inl rfl)))) _) (kpN_set _ (.inr (.inr (.inr (.inr rfl)))) _)⟩
    by_cases hq : 4611686018427387904 < v
    · have HN : Hid (stF w0 ((pre ++ [(⟨(t, m), hx⟩ : DlP)]).map (·.1)) = none) := by show _ = _; rw [List.map_append, List.map_singleton]; exact stF_over HE1.out (by rw [← HVV.out] at hq; exact hq)
      clear hv
      gi_wp2
      exact ⟨HK0.out.1.trans ((kf_set _ _ _).trans (kf_set _ _ _)), HN.out, HP0.out.over⟩
    · have hq' : v ≤ 4611686018427387904 := by omega
      have HN : Hid (stF w0 ((pre ++ [(⟨(t, m), hx⟩ : DlP)]).map (·.1)) = some (v, some (slkMin b (t - v)))) := by show _ = _; rw [List.map_append, List.map_singleton]; have := stF_go HE1.out (x := (t, m)) (by rw [← HVV.out] at hq; exact hq); rw [show s + (t, m).2 = v from hv] at this; exact this
      have HQ := Lib.hid hq'
      clear hv
      cases b with
      | none =>
        gi_wp2
        have h1 := HK1.out (V.setCell ⟨G, 0, none⟩ (.int .i64 v)) (t - v)
        exact ⟨HK0.out.1.trans h1.1, kpN_t HK0.out.2 h1.2, v, _, HN.out, HS2.out, HQ.out, HP0.out.best (t - v)⟩
      | some u =>
        by_cases hl : t - v < u
        · have hm : slkMin (some u) (t - v) = t - v := if_pos hl
          rw [hm] at HN
          clear hm
          gi_wp2
          have h1 := HK1.out (V.setCell ⟨G, 0, none⟩ (.int .i64 v)) (t - v)
          exact ⟨HK0.out.1.trans h1.1, kpN_t HK0.out.2 h1.2, v, _, HN.out, HS2.out, HQ.out, HP0.out.best (t - v)⟩
        · have hm : slkMin (some u) (t - v) = u := if_neg hl
          rw [hm] at HN
          clear hm
          gi_wp2
          exact ⟨HK0.out.1, HK0.out.2, v, _, HN.out, HS2.out, HQ.out, HP0.out⟩
  case done =>
    rintro Dd ys V hDd ⟨u, h1, h2⟩ ⟨s, b, e1, e2, e3, hB⟩ hK
    have HR : Hid (slS l fr tt = b) := Chain.ends HIN.out.1 HIN.out.2 h1 h2 (by rw [HW0.out]; exact e1)
    have HB := Lib.hid hB
    have HKD := Lib.hid hK
    have hltG := hB.lt
    have k1 := hB.ls.cell
    have k2 := hB.fd.cell
    have q0 := hB.r0.cell
    have q1 := hB.r1.cell
    have g0 := hB.r0.free
    have g1 := hB.r1.free
    have n1 : ¬ G + 1 = w.heap.size := by omega
    have n2 : ¬ G + 1 + 1 = w.heap.size := by omega
    clear HTL hB e1 e2 e3 h1 h2 hK
    gi_wp2
    go_upto_region 15 with fail
    go_region_with fail
    all_goals
      go_wp2
    all_goals
      have hds := HSZ.out
      have hdw := HDW.out
      have hlg := HI0.out.lt
      have hdg := HDG.out
      have hz0 : Bx ((V.setCell ⟨w.heap.size, 0, none⟩ (.int .i64 (b.getD 0))).setCell ⟨w.heap.size + 1, 0, none⟩ (.bool b.isSome)).drew w.heap.size 2 (.int .i64 (b.getD 0)) := (HB.out.r0.set _).far (by omega) _
      have hz1 : Bx ((V.setCell ⟨w.heap.size, 0, none⟩ (.int .i64 (b.getD 0))).setCell ⟨w.heap.size + 1, 0, none⟩ (.bool b.isSome)).drew (w.heap.size + 1) 4 (.bool b.isSome) := (HB.out.r1.far (by omega) _).set _
      have hz2 : ((V.setCell ⟨w.heap.size, 0, none⟩ (.int .i64 (b.getD 0))).setCell ⟨w.heap.size + 1, 0, none⟩ (.bool b.isSome)).drew.heap[Dd]? = some (.deferred (some [])) := ((KeepsOthers.setCell _ _ _).trans (KeepsOthers.setCell _ _ _)).same Dd _ HKD.out rfl
      have hz3 : Below w.heap.size w ((V.setCell ⟨w.heap.size, 0, none⟩ (.int .i64 (b.getD 0))).setCell ⟨w.heap.size + 1, 0, none⟩ (.bool b.isSome)).drew := ((HB.out.low.setCell (p := ⟨w.heap.size, 0, none⟩) (Nat.le_refl _) _).setCell (p := ⟨w.heap.size + 1, 0, none⟩) (by simp) _).drew
      generalize ((V.setCell ⟨w.heap.size, 0, none⟩ (.int .i64 (b.getD 0))).setCell ⟨w.heap.size + 1, 0, none⟩ (.bool b.isSome)).drew = X at hz0 hz1 hz2 hz3 ⊢
      have p1 : (X.putObj Dd (.deferred none)).cell? ⟨w.heap.size, 0, none⟩ = some (.int .i64 (b.getD 0)) := Bx.cell (T := 2) ((World.putObj_heap_other (by omega)).trans hz0)
      have p2 : (X.putObj Dd (.deferred none)).cell? ⟨w.heap.size + 1, 0, none⟩ = some (.bool b.isSome) := Bx.cell (T := 4) ((World.putObj_heap_other (by omega)).trans hz1)
      refine ⟨by simp, .inl ⟨_, _, rfl, run_takeDeferred hz2, ?_⟩⟩
      refine ⟨.tuple #[.int .i64 (b.getD 0), .bool b.isSome], by simp [results, Try.results25, go_sem, p1, p2], by rw [HR.out], hz3.trans (belowK_b (w := w) (Nat.le_refl _) X Dd _ _ (by omega) hz2 rfl rfl)⟩
  case stop =>
    rintro Dd pre V hDd ⟨u, h1⟩ ⟨e1, hX⟩ hK
    have HR : Hid (slS l fr tt = none) := Chain.fell (okL_iff.1 HIN.out.1).1 h1 (by rw [HW0.out]; exact e1)
    clear HTL
    gi_wp2
    have hds := HSZ.out
    have hdw := HDW.out
    have hlg := HI0.out.lt
    have hdg := HDG.out
    have p1 : (V.putObj Dd (.deferred none)).cell? ⟨w.heap.size, 0, none⟩ = some (.int .i64 0) := Bx.cell (T := 2) ((World.putObj_heap_other (by omega)).trans hX.r0)
    have p2 : (V.putObj Dd (.deferred none)).cell? ⟨w.heap.size + 1, 0, none⟩ = some (.bool false) := Bx.cell (T := 4) ((World.putObj_heap_other (by omega)).trans hX.r1)
    refine ⟨by simp, .inl ⟨_, _, rfl, run_takeDeferred hK, ?_⟩⟩
    refine ⟨.tuple #[.int .i64 0, .bool false], by simp [results, Try.results25, go_sem, p1, p2], by rw [HR.out]; rfl, hX.low.trans (belowK_b (w := w) (Nat.le_refl _) V Dd _ _ (by omega) hK rfl rfl)⟩
end Go.Proofs.Ytljigfedmjlfgaa

/-
  What the program's calls answer.
-/
namespace Go.Proofs.Ytljigfedmjlfgaa
open Go.RowKit Go.Maps

theorem pcheck_any {w : World} {a : Option Addr} {n c : Nat} {l : List Dm} (h : Dems w a n c l) : Calls Try.prog 43 #[.slice a n c] w fun e w' => e = .returned (.bool (okL l)) ∧ Below w.heap.size w w' := pchk_any l n c h.len h.n9 a w h.view
end Go.Proofs.Ytljigfedmjlfgaa

/-
  Rows of times of which each holds the same; deadlines one by one: plainly.
-/
namespace Go.Proofs.Ytljigfedmjlfgaa

/-- One row of times. -/
structure CutX (L : List Bk) (E : Int) (x : Int × Int) : Prop where
  lo : 1 ≤ x.1
  lt : x.1 < x.2
  hi : x.2 ≤ E + 1
  len : x.2 ≤ x.1 + 1024
  flat : ∀ z ∈ L, ¬ (x.1 < z.d ∧ z.d < x.2)
/-- One behind the other, up to a time. -/
inductive Cuts : List (Int × Int) → Int → Prop
  | nil : Cuts [] 1
  | snoc {pre : List (Int × Int)} {u v : Int} : Cuts pre u → u < v → Cuts (pre ++ [(u, v)]) v
theorem Cuts.low {pre : List (Int × Int)} {u : Int} (h : Cuts pre u) : (pre.length : Int) ≤ u - 1 := by
  induction h with
  | nil => simp
  | snoc _ hlt ih => simp; omega
theorem Cuts.pos {pre : List (Int × Int)} {u : Int} (h : Cuts pre u) : 1 ≤ u := by
  induction h with
  | nil => omega
  | snoc _ hlt ih => omega
theorem Cuts.find {pre : List (Int × Int)} {u y : Int} (h : Cuts pre u) (h1 : 1 ≤ y) (h2 : y < u) : ∃ x ∈ pre, x.1 ≤ y ∧ y < x.2 := by
  induction h with
  | nil => omega
  | @snoc pre u v _ hlt ih =>
    rcases Int.lt_or_le y u with q | q
    · obtain ⟨x, hx, a⟩ := ih q
      exact ⟨x, List.mem_append_left _ hx, a⟩
    · exact ⟨(u, v), List.mem_append_right _ (List.mem_singleton_self _), q, h2⟩
theorem Cuts.last {pre : List (Int × Int)} {x : Int × Int} {u : Int} (h : Cuts (pre ++ [x]) u) : Cuts pre x.1 ∧ u = x.2 := by
  generalize hq : pre ++ [x] = q at h
  cases h with
  | nil => simp at hq
  | @snoc pre' u v h1 h2 =>
    obtain ⟨rfl, e⟩ := List.append_inj' hq rfl
    simp at e
    subst e
    exact ⟨h1, rfl⟩
theorem held_flat {L : List Bk} {E : Int} {x : Int × Int} (h : CutX L E x) {y : Int} (h1 : x.1 ≤ y) (h2 : y < x.2) : heldA L y = heldA L x.1 := by
  have a := held_anti L h1
  rcases held_in L x.1 with e | ⟨z, hz, hd, e⟩
  · have := held_nonneg L y; omega
  · have := h.flat z hz
    have := held_ge (t := y) hz (by omega)
    omega
/-- Deadlines, one by one. -/
inductive DCh (l : List Dm) (fr tt : Int) : List Int → Int → Prop
  | nil : DCh l fr tt [] (fr - 1)
  | snoc {pre : List Int} {u v : Int} : DCh l fr tt pre u → nextA l u = some v → v < tt → DCh l fr tt (pre ++ [v]) v
theorem DCh.low {l : List Dm} (hok : ∀ x ∈ l, x.ok) {fr tt : Int} {pre : List Int} {u : Int} (h : DCh l fr tt pre u) : (pre.length : Int) ≤ u + 1 - fr ∧ (u < tt ∨ u = fr - 1) ∧ fr - 1 ≤ u := by
  induction h with
  | nil => simp
  | snoc _ hn hlt ih =>
    have := (next_some hok hn).2.1
    simp; omega
theorem DCh.find {l : List Dm} (hok : ∀ x ∈ l, x.ok) {fr tt : Int} {pre : List Int} {u : Int} (h : DCh l fr tt pre u) {y : Int} (hy : Dl l y) (h1 : fr ≤ y) (h2 : y ≤ u) : y ∈ pre := by
  induction h with
  | nil => omega
  | @snoc pre u v _ hn hlt ih =>
    rcases Int.lt_or_le u y with q | q
    · have := (next_some hok hn).2.2 y hy q
      obtain rfl : y = v := by omega
      exact List.mem_append_right _ (List.mem_singleton_self _)
    · exact List.mem_append_left _ (ih q)
theorem DCh.mem {l : List Dm} (hok : ∀ x ∈ l, x.ok) {fr tt : Int} {pre : List Int} {u : Int} (h : DCh l fr tt pre u) {y : Int} (hy : y ∈ pre) : Dl l y ∧ fr ≤ y ∧ y < tt := by
  induction h with
  | nil => cases hy
  | @snoc pre u v h0 hn hlt ih =>
    rcases List.mem_append.1 hy with q | q
    · exact ih q
    · obtain rfl := List.mem_singleton.1 q
      obtain ⟨a, b, _⟩ := next_some hok hn
      have := (DCh.low hok h0).2.2
      exact ⟨a, by omega, hlt⟩
theorem DCh.last {l : List Dm} {fr tt : Int} {pre : List Int} {x u : Int} (h : DCh l fr tt (pre ++ [x]) u) : ∃ u', DCh l fr tt pre u' ∧ nextA l u' = some x ∧ x < tt := by
  generalize hq : pre ++ [x] = q at h
  cases h with
  | nil => simp at hq
  | @snoc pre' u v h1 h2 h3 =>
    obtain ⟨rfl, e⟩ := List.append_inj' hq rfl
    simp at e
    subst e
    exact ⟨_, h1, h2, h3⟩
/-- At no deadline of the row it is too much. -/
def Clean (l : List Dm) (L : List Bk) (x : Int × Int) : Prop := ∀ y, Dl l y → x.1 ≤ y → y < x.2 → 0 ≤ leftA l L y
theorem miss_none {l : List Dm} (hok : ∀ x ∈ l, x.ok) {L : List Bk} {xs : List (Int × Int)} {u : Int} (h : Cuts xs u) (he : endA l L < u) (hc : ∀ x ∈ xs, Clean l L x) : msS l L = none := by
  refine ms_none fun y hy => ?_
  obtain ⟨x, hx, a, b⟩ := h.find (dl_pos' hok hy.1) (y := y) (by have := hy.2.1; omega)
  have := hc x hx y hy.1 a b
  have := hy.2.2
  omega
theorem miss_some {l : List Dm} (hok : ∀ x ∈ l, x.ok) {L : List Bk} {xs : List (Int × Int)} {x : Int × Int} {u : Int} (h : Cuts (xs ++ [x]) u) (hc : ∀ x ∈ xs, Clean l L x) {y : Int} (hy : Dl l y) (h1 : x.1 ≤ y) (h2 : y < x.2) (hx : x.2 ≤ endA l L + 1) (hb : leftA l L y < 0)
    (hm : ∀ z, Dl l z → x.1 ≤ z → z < y → 0 ≤ leftA l L z) : msS l L = some y := by
  refine ms_some ⟨⟨hy, by omega, hb⟩, fun z hz => ?_⟩
  rcases Int.lt_or_le z y with q | q
  · have hb2 := hz.2.2
    rcases Int.lt_or_le z x.1 with r | r
    · obtain ⟨v, hv, a, b⟩ := h.last.1.find (dl_pos' hok hz.1) r
      have := hc v hv z hz.1 a b
      omega
    · have := hm z hz.1 r q
      omega
  · exact q
/-- How much is left at the deadlines of some rows. -/
def RoomP (l : List Dm) (L : List Bk) (xs : List (Int × Int)) (b : Option Int) : Prop :=
  (b = none → ∀ x ∈ xs, ∀ y, Dl l y → x.1 ≤ y → ¬ y < x.2) ∧
  ∀ n, b = some n → (∃ x ∈ xs, ∃ y, Dl l y ∧ x.1 ≤ y ∧ y < x.2 ∧ leftA l L y = n) ∧ ∀ x ∈ xs, ∀ y, Dl l y → x.1 ≤ y → y < x.2 → n ≤ leftA l L y
theorem room_ends {l : List Dm} (hok : ∀ x ∈ l, x.ok) {L : List Bk} {xs : List (Int × Int)} {u : Int} (h : Cuts xs u) (he : endA l L < u) (hi : ∀ x ∈ xs, x.2 ≤ endA l L + 1) (hf : FitsA l L) {b : Option Int} (hb : RoomP l L xs b) : rmS l L = b := by
  cases b with
  | none =>
    refine rm_none (.inr fun y hy hle => ?_)
    obtain ⟨x, hx, a, c⟩ := h.find (dl_pos' hok hy) (y := y) (by omega)
    exact hb.1 rfl x hx y hy a c
  | some n =>
    obtain ⟨⟨x, hx, y, y1, y2, y3, y4⟩, h2⟩ := hb.2 n rfl
    refine rm_some ⟨hf, ⟨y, y1, by have := hi x hx; omega, y4⟩, fun z hz hle => ?_⟩
    obtain ⟨x, hx, a, c⟩ := h.find (dl_pos' hok hz) (y := z) (by omega)
    exact h2 x hx z hz a c
theorem room_nil {l : List Dm} {L : List Bk} : RoomP l L [] none := ⟨fun _ x hx => absurd hx List.not_mem_nil, fun n e => (by cases e)⟩
/-- What slack says of a row. -/
structure SlkOf (l : List Dm) (x : Int × Int) (s : Option Int) : Prop where
  no : s = none → ∀ y, Dl l y → x.1 ≤ y → ¬ y < x.2
  yes : ∀ n, s = some n → (∃ y, Dl l y ∧ x.1 ≤ y ∧ y < x.2 ∧ y - dueA l y = n) ∧ ∀ y, Dl l y → x.1 ≤ y → y < x.2 → n ≤ y - dueA l y
theorem room_same {l : List Dm} {L : List Bk} {xs : List (Int × Int)} {b : Option Int} {x : Int × Int} (h : RoomP l L xs b) (hs : SlkOf l x none) : RoomP l L (xs ++ [x]) b := by
  refine ⟨fun e z hz y hy a c => ?_, fun n e => ?_⟩
  · rcases List.mem_append.1 hz with q | q
    · exact h.1 e z q y hy a c
    · obtain rfl := List.mem_singleton.1 q
      exact hs.no rfl y hy a c
  · obtain ⟨⟨z, hz, y, h1⟩, h2⟩ := h.2 n e
    refine ⟨⟨z, List.mem_append_left _ hz, y, h1⟩, fun z hz y hy a c => ?_⟩
    rcases List.mem_append.1 hz with q | q
    · exact h2 z q y hy a c
    · obtain rfl := List.mem_singleton.1 q
      exact absurd c (hs.no rfl y hy a)
theorem room_less {l : List Dm} {L : List Bk} {E : Int} {xs : List (Int × Int)} {b : Option Int} {x : Int × Int} (hx : CutX L E x) {s : Int} (h : RoomP l L xs b) (hs : SlkOf l x (some s)) (hl : ∀ n, b = some n → s - heldA L x.1 ≤ n) : RoomP l L (xs ++ [x]) (some (s - heldA L x.1)) := by
  obtain ⟨⟨y, y1, y2, y3, y4⟩, h2⟩ := hs.yes s rfl
  refine ⟨fun e => (by cases e), fun n e => ?_⟩
  cases e
  refine ⟨⟨x, List.mem_append_right _ (List.mem_singleton_self _), y, y1, y2, y3, by unfold leftA; rw [held_flat hx y2 y3]; omega⟩, fun z hz v hv a c => ?_⟩
  rcases List.mem_append.1 hz with q | q
  · cases b with
    | none => exact absurd c (h.1 rfl z q v hv a)
    | some n => have := (h.2 n rfl).2 z q v hv a c; have := hl n rfl; omega
  · obtain rfl := List.mem_singleton.1 q
    have := h2 v hv a c
    unfold leftA; rw [held_flat hx a c]; omega
theorem room_keep {l : List Dm} {L : List Bk} {E : Int} {xs : List (Int × Int)} {n : Int} {x : Int × Int} (hx : CutX L E x) {s : Int} (h : RoomP l L xs (some n)) (hs : SlkOf l x (some s)) (hl : n ≤ s - heldA L x.1) : RoomP l L (xs ++ [x]) (some n) := by
  obtain ⟨⟨z, hz, y, h1⟩, h2⟩ := h.2 n rfl
  refine ⟨fun e => (by cases e), fun n e => ?_⟩
  cases e
  refine ⟨⟨z, List.mem_append_left _ hz, y, h1⟩, fun z hz v hv a c => ?_⟩
  rcases List.mem_append.1 hz with q | q
  · exact h2 z q v hv a c
  · obtain rfl := List.mem_singleton.1 q
    have := (hs.yes s rfl).2 v hv a c
    unfold leftA; rw [held_flat hx a c]; omega
theorem clean_slack {l : List Dm} {L : List Bk} {E : Int} {x : Int × Int} (hx : CutX L E x) {s : Int} (hs : SlkOf l x (some s)) (h : heldA L x.1 ≤ s) : Clean l L x := fun y hy a c => by
  have := (hs.yes s rfl).2 y hy a c
  unfold leftA; rw [held_flat hx a c]; omega

theorem work_under {x : Dm} (h : x.ok) (hc : x.c ≤ x.d) {t : Int} (ht : 0 ≤ t) : x.c * jobsD x t ≤ t := by
  have h1 := h.d1; have h2 := h.d2; have h0 := h.c0
  unfold jobsD
  split
  · rw [Int.mul_zero]; exact ht
  · have hq : 0 ≤ (t - x.d) / x.t := Int.ediv_nonneg (by omega) (by omega)
    have a : x.c * ((t - x.d) / x.t) ≤ x.t * ((t - x.d) / x.t) := Int.mul_le_mul_of_nonneg_right (by omega) hq
    have b := Int.mul_ediv_self_le (x := t - x.d) (k := x.t) (by omega)
    rw [Int.mul_add, Int.mul_one]; omega
theorem due_under {l : List Dm} (h : Nice l) {t : Int} (h0 : 0 ≤ t) (h1 : t ≤ 1048577) : 0 ≤ dueA l t ∧ dueA l t ≤ 7340039 := by
  refine ⟨due_nonneg h.ok t, ?_⟩
  have key : ∀ k : Nat, dueN l t k ≤ (k : Int) * 1048577 := by
    intro k
    induction k with
    | zero => show (0 : Int) ≤ _; omega
    | succ k ih =>
      cases hx : l[k]? with
      | none => rw [due_end hx]; omega
      | some x =>
        have hm := List.mem_of_getElem? hx
        have := work_under (h.ok x hm) (h.cd x hm) h0
        rw [due_next hx]
        omega
  have := key l.length
  have := h.len
  unfold dueA
  omega
theorem slk_of {l : List Dm} (h : Nice l) {x : Int × Int} (h0 : 1 ≤ x.1) (h1 : x.2 ≤ 1048577) (h2 : x.1 < x.2) : SlkOf l x (slS l x.1 x.2) := by
  obtain ⟨b, hb⟩ := slk_small (l := l) (fr := x.1) (k := (x.2 - x.1).toNat) (fun i hi => by have := (due_under h (t := x.1 + (i : Nat)) (by omega) (by omega)).2; omega)
  have ht : timeB x.1 = true ∧ timeB x.2 = true ∧ x.2 - x.1 ≤ 1048576 := ⟨timeB_iff.2 ⟨by omega, by omega⟩, timeB_iff.2 ⟨by omega, by omega⟩, by omega⟩
  rw [slS_is h.okL ht hb]
  obtain ⟨a, c⟩ := slk_is hb
  have hn : ∀ y, x.1 ≤ y → y < x.2 → ∃ i : Nat, i < (x.2 - x.1).toNat ∧ x.1 + (i : Nat) = y := fun y q r => ⟨(y - x.1).toNat, by omega, by omega⟩
  refine ⟨fun e y hy q r => ?_, fun n e => ?_⟩
  · obtain ⟨i, hi, rfl⟩ := hn y q r
    have := a e i hi
    rw [(dlB_iff h.ok).2 hy] at this
    cases this
  · obtain ⟨⟨i, hi, hd, hv⟩, hall⟩ := c n e
    refine ⟨⟨x.1 + (i : Nat), (dlB_iff h.ok).1 hd, by omega, by omega, hv⟩, fun y hy q r => ?_⟩
    obtain ⟨i, hi, rfl⟩ := hn y q r
    exact hall i hi ((dlB_iff h.ok).2 hy)
/-- The least end of a row from a time on. -/
def toN (L : List Bk) (fr t0 : Int) : Nat → Int
  | 0 => t0
  | k + 1 => match L[k]? with
    | some x => if fr < x.d ∧ x.d < toN L fr t0 k then x.d else toN L fr t0 k
    | none => toN L fr t0 k
theorem to_next {L : List Bk} {fr t0 : Int} {k : Nat} {x : Bk} (h : L[k]? = some x) : toN L fr t0 (k + 1) = if fr < x.d ∧ x.d < toN L fr t0 k then x.d else toN L fr t0 k := by rw [toN, h]
theorem to_is {L : List Bk} {fr t0 : Int} (h0 : fr < t0) : ∀ k, fr < toN L fr t0 k ∧ toN L fr t0 k ≤ t0 ∧ ∀ j x, j < k → L[j]? = some x → ¬ (fr < x.d ∧ x.d < toN L fr t0 k)
  | 0 => ⟨h0, Int.le_refl _, fun j x h => absurd h (Nat.not_lt_zero _)⟩
  | k + 1 => by
    obtain ⟨i0, i1, i2⟩ := to_is (L := L) h0 k
    cases hx : L[k]? with
    | none =>
      have e : toN L fr t0 (k + 1) = toN L fr t0 k := by rw [toN, hx]
      rw [e]
      refine ⟨i0, i1, fun j x hj hjx => ?_⟩
      rcases Nat.lt_or_ge j k with q | q
      · exact i2 j x q hjx
      · obtain rfl : j = k := by omega
        rw [hx] at hjx; cases hjx
    | some x =>
      rw [to_next hx]
      by_cases q : fr < x.d ∧ x.d < toN L fr t0 k
      · rw [if_pos q]
        refine ⟨q.1, by omega, fun j y hj hjy => ?_⟩
        rcases Nat.lt_or_ge j k with z | z
        · have := i2 j y z hjy; omega
        · obtain rfl : j = k := by omega
          rw [hx] at hjy; cases hjy; omega
      · rw [if_neg q]
        refine ⟨i0, i1, fun j y hj hjy => ?_⟩
        rcases Nat.lt_or_ge j k with z | z
        · exact i2 j y z hjy
        · obtain rfl : j = k := by omega
          rw [hx] at hjy; cases hjy; exact q
theorem to_cut {L : List Bk} {E fr t0 : Int} (h1 : 1 ≤ fr) (h2 : fr < t0) (h3 : t0 ≤ E + 1) (h4 : t0 ≤ fr + 1024) : CutX L E (fr, toN L fr t0 L.length) := by
  obtain ⟨a, b, c⟩ := to_is (L := L) h2 L.length
  refine ⟨h1, a, by show toN _ _ _ _ ≤ _; omega, by show toN _ _ _ _ ≤ fr + _; omega, fun z hz => ?_⟩
  obtain ⟨j, hj⟩ := List.mem_iff_getElem?.1 hz
  exact c j z (List.getElem?_eq_some_iff.1 hj).1 hj
/-- The greatest D of the first, or what was there. -/
def maxN (L : List Bk) (p : Int) : Nat → Int
  | 0 => p
  | k + 1 => match L[k]? with
    | some x => if maxN L p k < x.d then x.d else maxN L p k
    | none => maxN L p k
theorem max_next {L : List Bk} {p : Int} {k : Nat} {x : Bk} (h : L[k]? = some x) : maxN L p (k + 1) = if maxN L p k < x.d then x.d else maxN L p k := by rw [maxN, h]
theorem max_is (L : List Bk) (p : Int) : ∀ k, p ≤ maxN L p k ∧ (∀ j x, j < k → L[j]? = some x → x.d ≤ maxN L p k) ∧ (maxN L p k = p ∨ ∃ x ∈ L, x.d = maxN L p k)
  | 0 => ⟨Int.le_refl _, fun j x h => absurd h (Nat.not_lt_zero _), .inl rfl⟩
  | k + 1 => by
    obtain ⟨i0, i1, i2⟩ := max_is L p k
    cases hx : L[k]? with
    | none =>
      have e : maxN L p (k + 1) = maxN L p k := by rw [maxN, hx]
      rw [e]
      refine ⟨i0, fun j x hj hjx => ?_, i2⟩
      rcases Nat.lt_or_ge j k with q | q
      · exact i1 j x q hjx
      · obtain rfl : j = k := by omega
        rw [hx] at hjx; cases hjx
    | some x =>
      rw [max_next hx]
      by_cases q : maxN L p k < x.d
      · rw [if_pos q]
        refine ⟨by omega, fun j y hj hjy => ?_, .inr ⟨x, List.mem_of_getElem? hx, rfl⟩⟩
        rcases Nat.lt_or_ge j k with z | z
        · have := i1 j y z hjy; omega
        · obtain rfl : j = k := by omega
          rw [hx] at hjy; cases hjy; omega
      · rw [if_neg q]
        refine ⟨i0, fun j y hj hjy => ?_, i2⟩
        rcases Nat.lt_or_ge j k with z | z
        · exact i1 j y z hjy
        · obtain rfl : j = k := by omega
          rw [hx] at hjy; cases hjy; omega
theorem max_end (l : List Dm) (L : List Bk) : maxN L (perS l).1 L.length = endA l L := by
  obtain ⟨a, b, c⟩ := max_is L (perS l).1 L.length
  have hb : ∀ x ∈ L, x.d ≤ maxN L (perS l).1 L.length := fun x hx => by
    obtain ⟨j, hj⟩ := List.mem_iff_getElem?.1 hx
    exact b j x (List.getElem?_eq_some_iff.1 hj).1 hj
  have h1 := end_per l L
  have u : maxN L (perS l).1 L.length ≤ endA l L := by
    rcases c with e | ⟨x, hx, e⟩
    · omega
    · rw [← e]; exact end_top hx
  have v : endA l L ≤ maxN L (perS l).1 L.length := by
    rcases end_in l L with e | ⟨x, hx, e⟩
    · omega
    · rw [← e]; exact hb x hx
  omega
theorem end_under {l : List Dm} (h : Nice l) {L : List Bk} (hL : NiceB L) : 1 ≤ endA l L ∧ endA l L ≤ 1048576 := by
  obtain ⟨_, p1, p2, _⟩ := h.per
  have := end_per l L
  refine ⟨by omega, ?_⟩
  rcases end_in l L with e | ⟨x, hx, e⟩
  · omega
  · have := hL.ok x hx; omega
/-- What is held, of the first, and whether there is one. -/
def fndN (L : List Bk) (t : Int) : Nat → Bool
  | 0 => false
  | k + 1 => match L[k]? with
    | some x => fndN L t k || decide (t < x.d)
    | none => fndN L t k
theorem fnd_next {L : List Bk} {t : Int} {k : Nat} {x : Bk} (h : L[k]? = some x) : fndN L t (k + 1) = (fndN L t k || decide (t < x.d)) := by rw [fndN, h]
theorem fnd_not {L : List Bk} {t : Int} : ∀ {k : Nat}, fndN L t k = false → heldN L t k = 0
  | 0, _ => rfl
  | k + 1, h => by
    cases hx : L[k]? with
    | none =>
      have e : fndN L t (k + 1) = fndN L t k := by rw [fndN, hx]
      rw [held_end hx]; rw [e] at h; exact fnd_not h
    | some x =>
      rw [fnd_next hx] at h
      simp at h
      rw [held_next hx, if_neg (fun q => by omega)]
      exact fnd_not h.1
end Go.Proofs.Ytljigfedmjlfgaa

/-
  The walks over what is held, over whether blocks may be, over the end.
-/
namespace Go.Proofs.Ytljigfedmjlfgaa
open Go.RowKit Go.Maps
attribute [-go_sem] run_min_int2 run_max_int2

set_option maxRecDepth 100000 in
set_option maxHeartbeats 8000000 in
/-- What is held, told by what keeps the row in a box. -/
theorem pheld1_any (L : List Bk) (n c : Nat) (hl : L.length = n) (hn : (n : Int) ≤ 9223372036854775807) (h0 : ∀ x ∈ L, 0 ≤ x.b) (a : Option Addr) (t : Int) (b : Nat) (w : World) (hv : VView w a L) (hb : w.heap[b]? = some (.cells #[.slice a n c] 27 (0, 0))) :
    Calls Try.prog 40 #[.int .i64 t, .pointer (some ⟨b, 0, none⟩)] w fun e w' => e = .returned (.int .i64 (heldA L t)) ∧ Below w.heap.size w w' := by
  have HV := Lib.hid hv
  have HL := Lib.hid hl
  have H0 := Lib.hid h0
  obtain ⟨res, hres⟩ : ∃ res, heldA L t = res := ⟨_, rfl⟩
  have HRES := Lib.hid hres
  rw [hres]
  have k0 : w.cell? ⟨b, 0, none⟩ = some (.slice a n c) := by rw [blk_cell hb]; rfl
  clear hv hl hres h0 hb
  go_enter Try.func40, Try.ntmps40
  go_upto_block 0 with fail
  go_cut [4] (fun u wx => u = .int .i64 res ∧ Hid (Below w.heap.size w wx))
  case first =>
    go_wp2
    go_loopw [4, 5, 10] (fun h f u wr => ∃ k : Nat, k ≤ n ∧ u = .int .i64 k ∧ h = .int .i64 (heldN L t k) ∧ f = .bool (fndN L t k) ∧ Hid (Below w.heap.size w wr)) (fun _ _ u _ => (n - intOf u).toNat)
    case atStart => exact ⟨0, Nat.zero_le _, rfl, rfl, rfl, Below.refl _ _⟩
    case round =>
      obtain ⟨k, hk, rfl, rfl, rfl, HP⟩ := hrel
      by_cases hlt : k < n
      · obtain ⟨x, hx⟩ := nth_of HL.out hlt
        obtain ⟨g, o, rfl, ⟨c0, c1⟩⟩ := (HV.out.below HP.out).at_ hx
        have hk1 : (k : Int) < (n : Int) := by omega
        have hk0 : (0 : Int) ≤ (k : Int) := by omega
        have hb0 := H0.out x (List.mem_of_getElem? hx)
        have HN := Lib.hid (held_next (t := t) hx)
        have HF := Lib.hid (fnd_next (t := t) hx)
        have hh0 := (heldN_is L t k).1
        have hnf := fnd_not (L := L) (t := t) (k := k)
        obtain ⟨v, hv⟩ : ∃ v, heldN L t k = v := ⟨_, rfl⟩
        obtain ⟨f, hf⟩ : ∃ f, fndN L t k = f := ⟨_, rfl⟩
        rw [hv] at hh0 HN hnf
        rw [hf] at HF hnf
        rw [hv, hf]
        clear hx hv hf
        by_cases ht : t < x.d
        · have hd1 : decide (t < x.d) = true := decide_eq_true ht
          have HF2 : Hid (fndN L t (k + 1) = true) := by show _ = _; rw [HF.out, hd1, Bool.or_true]
          cases f with
          | false =>
            obtain rfl := hnf rfl
            have HN2 : Hid (heldN L t (k + 1) = x.b) := by
              show _ = _
              rw [HN.out]
              by_cases q : 0 < x.b
              · rw [if_pos ⟨ht, q⟩]
              · rw [if_neg (fun z => q z.2)]; omega
            clear HN HF hnf
            go_wp2_with fail
            go_roundw
            case rel => exact ⟨k + 1, by omega, by go_num, by rw [HN2.out], by rw [HF2.out], Lib.hid (below_up HP.out (by repeat (first | exact Below.refl _ _ | (with_reducible assumption) | refine bw_alloc ?_ _ | refine bw_drew ?_)))⟩
            case measure => simp [intOf]; omega
          | true =>
            by_cases hq : v < x.b
            · have HN2 : Hid (heldN L t (k + 1) = x.b) := by show _ = _; rw [HN.out, if_pos ⟨ht, hq⟩]
              clear HN HF hnf
              go_wp2_with fail
              go_roundw
              case rel => exact ⟨k + 1, by omega, by go_num, by rw [HN2.out], by rw [HF2.out], Lib.hid (below_up HP.out (by repeat (first | exact Below.refl _ _ | (with_reducible assumption) | refine bw_alloc ?_ _ | refine bw_drew ?_)))⟩
              case measure => simp [intOf]; omega
            · have HN2 : Hid (heldN L t (k + 1) = v) := by show _ = _; rw [HN.out, if_neg (fun z => hq z.2)]
              clear HN HF hnf
              go_wp2_with fail
              go_roundw
              case rel => exact ⟨k + 1, by omega, by go_num, by rw [HN2.out], by rw [HF2.out], Lib.hid (below_up HP.out (by repeat (first | exact Below.refl _ _ | (with_reducible assumption) | refine bw_alloc ?_ _ | refine bw_drew ?_)))⟩
              case measure => simp [intOf]; omega
        · have HN2 : Hid (heldN L t (k + 1) = v) := by show _ = _; rw [HN.out, if_neg (fun z => ht z.1)]
          have HF2 : Hid (fndN L t (k + 1) = f) := by show _ = _; rw [HF.out, decide_eq_false ht, Bool.or_false]
          clear HN HF hnf
          go_wp2_with fail
          go_roundw
          case rel => exact ⟨k + 1, by omega, by go_num, by rw [HN2.out], by rw [HF2.out], Lib.hid (below_up HP.out (by repeat (first | exact Below.refl _ _ | (with_reducible assumption) | refine bw_alloc ?_ _ | refine bw_drew ?_)))⟩
          case measure => simp [intOf]; omega
      · obtain rfl : k = n := by omega
        have HE : Hid (heldN L t k = res) := by show _ = _; rw [← HRES.out]; unfold heldA; rw [HL.out]
        go_wp2_with fail
        go_meet
        exact ⟨by rw [HE.out], HP⟩
  case rest =>
    obtain ⟨rfl, HP⟩ := hcut
    go_wp2_with fail
    go_ret
    exact ⟨rfl, HP.out⟩

set_option maxRecDepth 100000 in
theorem pholder_any (a : Option Addr) (n c : Nat) (w : World) : Calls Try.prog 21 #[.slice a n c] w fun e w' =>
    e = .returned (.func (.func 40) #[] #[.pointer (some ⟨w.heap.size, 0, none⟩)]) ∧ w' = w.alloc (.cells #[.slice a n c] 27) := by
  have hmf : ∀ (fn : Fn) (first cap : Array Value) (w : World), (Instr.makeFunc fn first cap).run Try.prog w = .ok (.func fn first cap) w := fun _ _ _ _ => rfl
  go_enter Try.func21, Try.ntmps21
  go_wp2
  go_ret
  exact ⟨rfl, rfl⟩

set_option maxRecDepth 100000 in
set_option maxHeartbeats 4000000 in
theorem qat_any {w : World} {a : Option Addr} {n c : Nat} {L : List Bk} (h : Blks w a n c L) (t : Int) (_ : I64 t) : Calls Try.prog 12 #[.slice a n c, .int .i64 t] w fun e w' => e = .returned (.int .i64 (heldA L t)) ∧ Below w.heap.size w w' := by
  have HC := Lib.hid (fun v => pholder_any a n c v)
  have HH := Lib.hid (fun v b (hb : Below w.heap.size w v) (hx : v.heap[b]? = some (.cells #[.slice a n c] 27 (0, 0))) => pheld1_any L n c h.len h.n9 (fun x hx => (h.nice.ok x hx).2.2.1) a t b v (h.view.below hb) hx)
  generalize heldA L t = res at *
  clear h
  go_enter Try.func12, Try.ntmps12
  go_wp2_with (first
    | (go_at_call 21; (with_reducible refine (HC.out _).mono ?_); rintro e w1 ⟨rfl, rfl⟩)
    | (go_at_call 40; (with_reducible refine (HH.out _ _ (by repeat (first | exact Below.refl _ _ | (with_reducible assumption) | refine bw_alloc ?_ _ | refine bw_drew ?_)) (heap_alloc_new _ _)).mono ?_); rintro e w2 ⟨rfl, bx2⟩; have HB := Lib.hid (below_up (show Below w.heap.size w _ from (by repeat (first | exact Below.refl _ _ | (with_reducible assumption) | refine bw_alloc ?_ _ | refine bw_drew ?_))) bx2); clear bx2))
  go_ret
  exact ⟨rfl, HB.out⟩

set_option maxRecDepth 100000 in
set_option maxHeartbeats 4000000 in
theorem pright1_any (x : Bk) (hx : 1 ≤ x.d ∧ x.d ≤ 1048576 ∧ 0 ≤ x.b ∧ x.b ≤ 1000000) (w : World) : Calls Try.prog 36 #[.agg #[.int .i64 x.d, .int .i64 x.b]] w fun e w' => e = .returned (.bool false) ∧ Below w.heap.size w w' := by
  obtain ⟨h1, h2, h3, h4⟩ := hx
  have q1 : ¬ x.d < 1 := by omega
  have q2 : ¬ 1048576 < x.d := by omega
  have q3 : ¬ x.b < 0 := by omega
  have q4 : ¬ 1099511627776 < x.b := by omega
  clear h1 h2 h3 h4
  go_enter Try.func36, Try.ntmps36
  go_wp2
  go_ret
  exact ⟨rfl, (by repeat (first | exact Below.refl _ _ | (with_reducible assumption) | refine bw_alloc ?_ _ | refine bw_drew ?_))⟩

set_option maxRecDepth 100000 in
set_option maxHeartbeats 4000000 in
theorem pindexB_any (l : List Bk) (n c : Nat) (hl : l.length = n) (hn : (n : Int) ≤ 9223372036854775807) (hok : ∀ x ∈ l, 1 ≤ x.d ∧ x.d ≤ 1048576 ∧ 0 ≤ x.b ∧ x.b ≤ 1000000) (a : Option Addr) (w : World) (hv : VView w a l) :
    Calls Try.prog 51 #[.slice a n c, .func (.func 36) #[] #[]] w fun e w' => e = .returned (.int .i64 (-1)) ∧ Below w.heap.size w w' := by
  have HV := Lib.hid hv
  have HL := Lib.hid hl
  have HOK := Lib.hid hok
  clear hv hl hok
  go_enter Try.func51, Try.ntmps51
  go_wp2
  go_loopw [8] (fun u wr => ∃ k : Nat, k ≤ n ∧ u = .int .i64 k ∧ Hid (Below w.heap.size w wr)) (fun u _ => (n - intOf u).toNat)
  case atStart => exact ⟨0, by omega, rfl, Below.refl _ _⟩
  case round =>
    obtain ⟨k, hk, rfl, HP⟩ := hrel
    by_cases hlt : k < n
    · obtain ⟨x, hx⟩ := nth_of HL.out hlt
      obtain ⟨g, o, rfl, ⟨c0, c1⟩⟩ := (HV.out.below HP.out).at_ hx
      have hk1 : (k : Int) < (n : Int) := by omega
      have hk0 : (0 : Int) ≤ (k : Int) := by omega
      have CC := Lib.hid (fun v => pright1_any x (HOK.out x (List.mem_of_getElem? hx)) v)
      clear hx
      go_wp2_with (go_at_call 36; (with_reducible refine (CC.out _).mono ?_); rintro e wj ⟨rfl, bx1⟩)
      go_roundw
      case rel => exact ⟨k + 1, by omega, by go_num, Lib.hid (below_up HP.out bx1)⟩
      case measure => simp [intOf]; omega
    · obtain rfl : k = n := by omega
      go_wp2
      go_ret
      exact ⟨rfl, HP.out⟩

set_option maxRecDepth 100000 in
set_option maxHeartbeats 4000000 in
theorem pcontainsB_any (l : List Bk) (n c : Nat) (hl : l.length = n) (hn : (n : Int) ≤ 9223372036854775807) (hok : ∀ x ∈ l, 1 ≤ x.d ∧ x.d ≤ 1048576 ∧ 0 ≤ x.b ∧ x.b ≤ 1000000) (a : Option Addr) (w : World) (hv : VView w a l) :
    Calls Try.prog 35 #[.slice a n c, .func (.func 36) #[] #[]] w fun e w' => e = .returned (.bool false) ∧ Below w.heap.size w w' := by
  have HC := Lib.hid (pindexB_any l n c hl hn hok a w hv)
  clear hv hl hok
  go_enter Try.func35, Try.ntmps35
  go_wp2_with (go_at_call 51; (with_reducible refine (HC.out).mono ?_); rintro e wj ⟨rfl, bx1⟩)
  go_ret
  exact ⟨by first | rfl | simp [go_sem], bx1⟩

set_option maxRecDepth 100000 in
set_option maxHeartbeats 4000000 in
theorem pright_any {w : World} {a : Option Addr} {n c : Nat} {L : List Bk} (h : Blks w a n c L) : Calls Try.prog 19 #[.slice a n c] w fun e w' => e = .returned (.bool true) ∧ Below w.heap.size w w' := by
  have HC := Lib.hid (pcontainsB_any L n c h.len h.n9 h.nice.ok a w h.view)
  have q1 : (n : Int) ≤ 64 := by have h1 := h.nice.len; have h2 := h.len; omega
  clear h
  go_enter Try.func19, Try.ntmps19
  go_wp2_with (go_at_call 35; (with_reducible refine (HC.out).mono ?_); rintro e wj ⟨rfl, bx1⟩)
  go_ret
  exact ⟨rfl, bx1⟩

set_option maxRecDepth 100000 in
set_option maxHeartbeats 8000000 in
theorem pend_any {w : World} {a : Option Addr} {n c : Nat} {L : List Bk} (h : Blks w a n c L) (p : Int) : Calls Try.prog 24 #[.int .i64 p, .slice a n c] w fun e w' => e = .returned (.int .i64 (maxN L p L.length)) ∧ Below w.heap.size w w' := by
  have HV := Lib.hid h.view
  have HL := Lib.hid h.len
  have hn := h.n9
  obtain ⟨res, hres⟩ : ∃ res, maxN L p L.length = res := ⟨_, rfl⟩
  have HRES := Lib.hid hres
  rw [hres]
  clear h hres
  go_enter Try.func24, Try.ntmps24
  go_upto_block 0 with fail
  go_cut [0] (fun u wx => u = .int .i64 res ∧ Hid (Below w.heap.size w wx))
  case first =>
    go_wp2
    go_loopw [0, 9] (fun h u wr => ∃ k : Nat, k ≤ n ∧ u = .int .i64 k ∧ h = .int .i64 (maxN L p k) ∧ Hid (Below w.heap.size w wr)) (fun _ u _ => (n - intOf u).toNat)
    case atStart => exact ⟨0, Nat.zero_le _, rfl, rfl, Below.refl _ _⟩
    case round =>
      obtain ⟨k, hk, rfl, rfl, HP⟩ := hrel
      by_cases hlt : k < n
      · obtain ⟨x, hx⟩ := nth_of HL.out hlt
        obtain ⟨g, o, rfl, ⟨c0, c1⟩⟩ := (HV.out.below HP.out).at_ hx
        have hk1 : (k : Int) < (n : Int) := by omega
        have hk0 : (0 : Int) ≤ (k : Int) := by omega
        have HN := Lib.hid (max_next (p := p) hx)
        obtain ⟨v, hv⟩ : ∃ v, maxN L p k = v := ⟨_, rfl⟩
        rw [hv] at HN
        rw [hv]
        clear hx hv
        by_cases hq : v < x.d
        · have mn : ∀ (ts : Array TypeId) (t : TypeId) (w : World), (Builtin.max_ ts t #[.int .i64 v, .int .i64 x.d]).run Try.prog w = .ok (.int .i64 x.d) w := fun ts t w => by rw [run_max_int2, if_pos hq]
          rw [if_pos hq] at HN
          clear hq
          go_wp2_with fail
          go_roundw
          case rel => exact ⟨k + 1, by omega, by go_num, by rw [HN.out], Lib.hid (below_up HP.out (by repeat (first | exact Below.refl _ _ | (with_reducible assumption) | refine bw_alloc ?_ _ | refine bw_drew ?_)))⟩
          case measure => simp [intOf]; omega
        · have mn : ∀ (ts : Array TypeId) (t : TypeId) (w : World), (Builtin.max_ ts t #[.int .i64 v, .int .i64 x.d]).run Try.prog w = .ok (.int .i64 v) w := fun ts t w => by rw [run_max_int2, if_neg hq]
          rw [if_neg hq] at HN
          clear hq
          go_wp2_with fail
          go_roundw
          case rel => exact ⟨k + 1, by omega, by go_num, by rw [HN.out], Lib.hid (below_up HP.out (by repeat (first | exact Below.refl _ _ | (with_reducible assumption) | refine bw_alloc ?_ _ | refine bw_drew ?_)))⟩
          case measure => simp [intOf]; omega
      · obtain rfl : k = n := by omega
        have HE : Hid (maxN L p k = res) := by show _ = _; rw [← HRES.out, HL.out]
        go_wp2_with fail
        go_meet
        exact ⟨by rw [HE.out], HP⟩
  case rest =>
    obtain ⟨rfl, HP⟩ := hcut
    go_wp2_with fail
    go_ret
    exact ⟨rfl, HP.out⟩
end Go.Proofs.Ytljigfedmjlfgaa

/-
  The walks over what tells rows of times, and over what tells deadlines one by one.
-/
namespace Go.Proofs.Ytljigfedmjlfgaa
open Go.RowKit Go.Maps Go.Shelf
attribute [local go_sem] Oper.semAt_some
attribute [-go_sem] run_min_int2 run_max_int2

theorem VView.kp {N : Nat → Prop} {X Y : World} {a : Option Addr} {l : List Bk} (h : VView X a l) (hk : KpN N X Y) (hn : 0 < l.length → ∀ b o i, a = some ⟨b, o, i⟩ → ¬ N b) : VView Y a l := by
  cases l with
  | nil => exact .inl rfl
  | cons z l =>
    rcases h with e | ⟨b, o, rfl, hc⟩
    · cases e
    · refine .inr ⟨b, o, rfl, fun j u hj => ?_⟩
      have hh := hc j u hj
      obtain ⟨cs, T, fr, e⟩ := cell_block hh
      rw [blk_cell (hk.1 b cs T fr (hn (by simp) b o none rfl) e)]
      rw [blk_cell e] at hh; exact hh
theorem VView.off {w : World} {a : Option Addr} {l : List Bk} (h : VView w a l) : 0 < l.length → ∀ b o i, a = some ⟨b, o, i⟩ → b < w.heap.size := by
  intro h0 b o i e
  cases l with
  | nil => simp at h0
  | cons z l =>
    rcases h with e' | ⟨g, o', rfl, hc⟩
    · cases e'
    · cases e
      obtain ⟨cs, T, fr, e⟩ := cell_block (hc 0 (.int .i64 z.d) rfl)
      exact lt_of_block e
/-- What it reads: its two boxes, the blocks. -/
structure SC (W : World) (Be Bl : Nat) (N : Nat → Prop) (a : Option Addr) (m c : Nat) (L : List Bk) (E : Int) : Prop where
  be : W.heap[Be]? = some (.cells #[.int .i64 E] 2 (0, 0))
  bl : W.heap[Bl]? = some (.cells #[.slice a m c] 27 (0, 0))
  ne : ¬ N Be
  nl : ¬ N Bl
  view : VView W a L
  off : 0 < L.length → ∀ b o i, a = some ⟨b, o, i⟩ → ¬ N b
theorem SC.below {W W' : World} {Be Bl : Nat} {N : Nat → Prop} {a : Option Addr} {m c : Nat} {L : List Bk} {E : Int} (h : SC W Be Bl N a m c L E) (hb : Below W.heap.size W W') : SC W' Be Bl N a m c L E :=
  ⟨kept_obj hb h.be, kept_obj hb h.bl, h.ne, h.nl, h.view.below hb, h.off⟩
theorem SC.kp {W W' : World} {Be Bl : Nat} {N : Nat → Prop} {a : Option Addr} {m c : Nat} {L : List Bk} {E : Int} (h : SC W Be Bl N a m c L E) (hk : KpN N W W') : SC W' Be Bl N a m c L E :=
  ⟨hk.1 _ _ _ _ h.ne h.be, hk.1 _ _ _ _ h.nl h.bl, h.ne, h.nl, h.view.kp hk h.off, h.off⟩
theorem grown_none {X Y : World} (h : Below X.heap.size X Y) : X.grownBy Y none := ⟨h.os, h.tape, h.output, h.size, fun k hk _ => h.block k hk⟩

set_option maxRecDepth 100000 in
set_option maxHeartbeats 8000000 in
theorem stretches1_in (n : Nat) (hn : 1 ≤ n) (y : Nat) (L : List Bk) (m c : Nat) (hL : L.length = m) (hm : m ≤ 64) (E : Int) (hE : 1 ≤ E ∧ E ≤ 1048576) (a : Option Addr) (Be Bl : Nat) (N : Nat → Prop)
    (J Jx : List (Int × Int) → World → Prop) (W : World) (hJ : ∀ q X Y, J q X → Below X.heap.size X Y → J q Y)
    (hY : ∀ pre x W1, CutX L E x → J pre W1 → pre.length < 2000000 → YieldAt Fence.wide (n - 1) Try.prog y #[.int .i64 x.1, .int .i64 x.2] W1 fun e W' =>
      (e = .returned (.bool true) ∧ J (pre ++ [x]) W' ∧ KpN N W1 W') ∨ (e = .returned (.bool false) ∧ Jx (pre ++ [x]) W'))
    (hC : SC W Be Bl N a m c L E) (h0 : J [] W) :
    CallsIn Fence.wide n Try.prog 42 #[.func (.yield y) #[] #[], .pointer (some ⟨Be, 0, none⟩), .pointer (some ⟨Bl, 0, none⟩)] W fun e W' => (∃ v, e = .returned v) ∧
      ((∃ ys, (∃ u, Cuts ys u ∧ E < u) ∧ J ys W') ∨ (∃ pre, (∃ u, Cuts pre u) ∧ Jx pre W')) := by
  have HY := Lib.hid hY
  have HJ := Lib.hid hJ
  have HC := Lib.hid hC
  have HL := Lib.hid hL
  have HNN1 := Lib.hid hn
  have HE := Lib.hid hE
  have H0 : Hid (J [] W) := h0
  have hm9 : (m : Int) ≤ 9223372036854775807 := by omega
  clear hY hJ hC hL hE h0 hn hm
  refine callsIn_of_wp Try.func42 rfl trivial ?_ rfl
  simp only [Try.ntmps42, List.size_toArray, List.length_cons, List.length_nil, Nat.reduceAdd, Nat.reduceSub, Array.replicate_succ, Array.replicate_zero, List.push_toArray, List.append_toArray, List.nil_append, List.cons_append]
  have hn := HNN1.out
  gi_wp2
  gi_loopw [4] (fun v wr => ∃ (pre : List (Int × Int)) (u : Int), v = .int .i64 u ∧ Hid (Cuts pre u ∧ u ≤ E + 1) ∧ Hid (SC wr Be Bl N a m c L E) ∧ Hid (J pre wr)) (fun v _ => (E + 1 - intOf v).toNat)
  case atStart => exact ⟨[], 1, rfl, ⟨.nil, by have := HE.out.1; omega⟩, HC, H0⟩
  case round =>
    obtain ⟨pre, u, rfl, HU, HCr, HJr⟩ := hrel
    clear HC H0
    have k1 : wr.cell? ⟨Be, 0, none⟩ = some (.int .i64 E) := by rw [blk_cell HCr.out.be]; rfl
    have k2 : wr.cell? ⟨Bl, 0, none⟩ = some (.slice a m c) := by rw [blk_cell HCr.out.bl]; rfl
    by_cases hq : u ≤ E
    · have hu1 := HU.out.1.pos
      have hE2 := HE.out.2
      have e1 : IntKind.i64.wrap (u + 1024) = u + 1024 := IntWalk.i64_in _ (by omega)
      have e2 : IntKind.i64.wrap (E + 1) = E + 1 := IntWalk.i64_in _ (by omega)
      obtain ⟨t0, ht0⟩ : ∃ t0, (if E + 1 < u + 1024 then E + 1 else u + 1024) = t0 := ⟨_, rfl⟩
      have mn : ∀ (ts : Array TypeId) (t : TypeId) (w : World), (Builtin.min_ ts t #[.int .i64 (u + 1024), .int .i64 (E + 1)]).run Try.prog w = .ok (.int .i64 t0) w := fun ts t w => by rw [run_min_int2, ht0]
      have HT0 : Hid (u < t0 ∧ t0 ≤ E + 1 ∧ t0 ≤ u + 1024) := by
        show _ ∧ _ ∧ _
        rw [← ht0]
        split <;> omega
      have HU1 := Lib.hid hu1
      clear ht0 hu1 hE2
      refine wpIn_wide.2 ?_
      go_upto_block 2 with fail
      clear mn e1 e2 k1
      go_cut [5] (fun v wx => ∃ t, v = .int .i64 t ∧ Hid (toN L u t0 m = t) ∧ Hid (Below wr.heap.size wr wx))
      case first =>
        go_wp2
        go_loopw [5, 18] (fun v k ww => ∃ i : Nat, i ≤ m ∧ k = .int .i64 i ∧ v = .int .i64 (toN L u t0 i) ∧ Hid (Below wr.heap.size wr ww)) (fun _ k _ => (m - intOf k).toNat)
        case atStart => exact ⟨0, Nat.zero_le _, rfl, rfl, Below.refl _ _⟩
        case round =>
          rename_i wr2 _ _ _
          obtain ⟨i, hi, rfl, rfl, HP⟩ := hrel
          by_cases hlt : i < m
          · obtain ⟨x, hx⟩ := nth_of HL.out hlt
            obtain ⟨g, o, rfl, ⟨c0, c1⟩⟩ := (HCr.out.view.below HP.out).at_ hx
            have hk1 : (i : Int) < (m : Int) := by omega
            have hk0 : (0 : Int) ≤ (i : Int) := by omega
            have HN := Lib.hid (to_next (fr := u) (t0 := t0) hx)
            obtain ⟨v, hv⟩ : ∃ v, toN L u t0 i = v := ⟨_, rfl⟩
            rw [hv] at HN
            rw [hv]
            clear hx hv k2
            by_cases hd : u < x.d
            · obtain ⟨r, hr⟩ : ∃ r, (if x.d < v then x.d else v) = r := ⟨_, rfl⟩
              have mn : ∀ (ts : Array TypeId) (t : TypeId) (w : World), (Builtin.min_ ts t #[.int .i64 v, .int .i64 x.d]).run Try.prog w = .ok (.int .i64 r) w := fun ts t w => by rw [run_min_int2, hr]
              have HR : Hid (toN L u t0 (i + 1) = r) := by
                show _ = _
                rw [HN.out, ← hr]
                by_cases z : x.d < v
                · rw [if_pos ⟨hd, z⟩, if_pos z]
                · rw [if_neg (fun k => z k.2), if_neg z]
              clear hr HN
              go_wp2_with fail
              go_roundw
              case rel => exact ⟨i + 1, by omega, by go_num, by rw [HR.out], Lib.hid (below_up HP.out (by repeat (first | exact Below.refl _ _ | (with_reducible assumption) | refine bw_alloc ?_ _ | refine bw_drew ?_)))⟩
              case measure => simp [intOf]; omega
            · have HR : Hid (toN L u t0 (i + 1) = v) := by show _ = _; rw [HN.out, if_neg (fun k => hd k.1)]
              clear HN
              go_wp2_with fail
              go_roundw
              case rel => exact ⟨i + 1, by omega, by go_num, by rw [HR.out], Lib.hid (below_up HP.out (by repeat (first | exact Below.refl _ _ | (with_reducible assumption) | refine bw_alloc ?_ _ | refine bw_drew ?_)))⟩
              case measure => simp [intOf]; omega
          · obtain rfl : i = m := by omega
            go_wp2_with fail
            go_meet
            exact ⟨_, rfl, rfl, HP⟩
      case rest =>
        obtain ⟨t, rfl, HT, HP⟩ := hcut
        clear k2
        refine (‹∀ (a : Act) (w : World), Code.wp _ _ _ a w → _› _ _ ?_)
        refine (wpIn_wide (n := n)).1 ?_
        have HX : Hid (CutX L E (u, t)) := by
          have := to_cut (L := L) HU1.out HT0.out.1 HT0.out.2.1 HT0.out.2.2
          rw [HL.out, HT.out] at this
          exact this
        have HLEN : Hid (pre.length < 2000000) := by
          have h1 := HU.out.1.low; have h2 := HU.out.2; have h3 := HE.out.2
          show _ < _
          omega
        obtain ⟨fn, tmps, assign, body, hy, hR⟩ := HY.out pre (u, t) wc HX.out (HJ.out _ _ _ HJr.out HP.out) HLEN.out
        have HR := Lib.hid hR
        clear hR
        dsimp only at hy
        gi_wp2_with ((refine HR.out.mono ?_); rintro e W3 h3; obtain ⟨q, rfl, H3⟩ := told_or h3; clear h3)
        · have HX2 := Lib.hid (H3.out.2 (by first | (simpa using (by assumption : (!q) = true)) | (simpa using (by assumption : (!q) = false)) | (simpa using (by assumption : ¬ (!q) = true))))
          clear H3
          refine bodyPost_ret (results_none rfl _ _ _) rfl ?_
          exact ⟨⟨_, rfl⟩, .inr ⟨_, ⟨t, .snoc HU.out.1 HX.out.lt⟩, HX2.out⟩⟩
        · have HX2 := Lib.hid (H3.out.1 (by first | (simpa using (by assumption : (!q) = true)) | (simpa using (by assumption : (!q) = false)) | (simpa using (by assumption : ¬ (!q) = true))))
          clear H3
          go_roundw
          case rel => exact ⟨pre ++ [(u, t)], t, rfl, ⟨.snoc HU.out.1 HX.out.lt, HX.out.hi⟩, (HCr.out.below HP.out).kp HX2.out.2, HX2.out.1⟩
          case measure => have := HX.out.lt; simp [intOf]; simp at this; omega
    · have hq' : E < u := by omega
      gi_wp2
      go_end0
      exact ⟨⟨_, rfl⟩, .inl ⟨pre, ⟨u, HU.out.1, hq'⟩, HJr.out⟩⟩
end Go.Proofs.Ytljigfedmjlfgaa

/-
  The walks over what tells deadlines one by one; what both tell, as callers have it.
-/
namespace Go.Proofs.Ytljigfedmjlfgaa
open Go.RowKit Go.Maps Go.Shelf
attribute [local go_sem] Oper.semAt_some

theorem Dems.kp {N : Nat → Prop} {X Y : World} {a : Option Addr} {n c : Nat} {l : List Dm} (h : Dems X a n c l) (hk : KpN N X Y) (hn : 0 < l.length → ∀ b o i, a = some ⟨b, o, i⟩ → ¬ N b) : Dems Y a n c l := by
  refine ⟨h.len, ?_, h.le, h.small, h.wf⟩
  cases l with
  | nil => exact .inl rfl
  | cons z l => exact h.view.kp hk (hn (by simp))
theorem GView.off {w : World} {a : Option Addr} {l : List Dm} (h : GView w a l) : 0 < l.length → ∀ b o i, a = some ⟨b, o, i⟩ → b < w.heap.size := by
  intro h0 b o i e
  cases l with
  | nil => simp at h0
  | cons z l =>
    rcases h with e' | ⟨g, o', rfl, hc⟩
    · cases e'
    · cases e
      obtain ⟨cs, T, fr, e⟩ := cell_block (hc 0 (.int .i64 z.c) rfl)
      exact lt_of_block e
/-- What it reads: its three boxes, the demands. -/
structure DC (W : World) (Bl Bf Bt : Nat) (N : Nat → Prop) (a : Option Addr) (m c : Nat) (l : List Dm) (fr tt : Int) : Prop where
  bl : W.heap[Bl]? = some (.cells #[.slice a m c] 25 (0, 0))
  bf : W.heap[Bf]? = some (.cells #[.int .i64 fr] 2 (0, 0))
  bt : W.heap[Bt]? = some (.cells #[.int .i64 tt] 2 (0, 0))
  nl : ¬ N Bl
  nf : ¬ N Bf
  nt : ¬ N Bt
  dems : Dems W a m c l
  off : 0 < l.length → ∀ b o i, a = some ⟨b, o, i⟩ → ¬ N b
theorem DC.below {W W' : World} {Bl Bf Bt : Nat} {N : Nat → Prop} {a : Option Addr} {m c : Nat} {l : List Dm} {fr tt : Int} (h : DC W Bl Bf Bt N a m c l fr tt) (hb : Below W.heap.size W W') : DC W' Bl Bf Bt N a m c l fr tt :=
  ⟨kept_obj hb h.bl, kept_obj hb h.bf, kept_obj hb h.bt, h.nl, h.nf, h.nt, h.dems.below hb, h.off⟩
theorem DC.kp {W W' : World} {Bl Bf Bt : Nat} {N : Nat → Prop} {a : Option Addr} {m c : Nat} {l : List Dm} {fr tt : Int} (h : DC W Bl Bf Bt N a m c l fr tt) (hk : KpN N W W') : DC W' Bl Bf Bt N a m c l fr tt :=
  ⟨hk.1 _ _ _ _ h.nl h.bl, hk.1 _ _ _ _ h.nf h.bf, hk.1 _ _ _ _ h.nt h.bt, h.nl, h.nf, h.nt, h.dems.kp hk h.off, h.off⟩
theorem pnext_fn : Fence.wide.fn 48 := trivial
/-- How far it is to the end. -/
def farD (tt : Int) : Value → Value → Nat
  | .int _ t, .bool true => (tt - t).toNat + 1
  | _, _ => 0
theorem farD_none (tt t : Int) (k : IntKind) : farD tt (.int k t) (.bool false) = 0 := rfl
theorem farD_some (tt t : Int) (k : IntKind) : farD tt (.int k t) (.bool true) = (tt - t).toNat + 1 := rfl
theorem farD_less {tt t : Int} (o : Option Int) (h : t < tt) (ho : ∀ v, o = some v → t < v) : farD tt (.int .i64 (o.getD 0)) (.bool o.isSome) < farD tt (.int .i64 t) (.bool true) := by
  cases o with
  | none => rw [farD_some]; show 0 < _; omega
  | some v => have := ho v rfl; rw [farD_some]; show (tt - v).toNat + 1 < _; omega

set_option maxRecDepth 100000 in
set_option maxHeartbeats 8000000 in
theorem qdead1_in (n : Nat) (hn : 1 ≤ n) (y : Nat) (l : List Dm) (m c : Nat) (hok : okL l = true) (fr tt : Int) (hfr : 1 ≤ fr ∧ tt ≤ 1048577) (a : Option Addr) (Bl Bf Bt : Nat) (N : Nat → Prop)
    (J Jx : List Int → World → Prop) (W : World) (hJ : ∀ q X Y, J q X → Below X.heap.size X Y → J q Y)
    (hY : ∀ pre x W1, (Dl l x ∧ fr ≤ x ∧ x < tt) → J pre W1 → pre.length < 2000000 → YieldAt Fence.wide (n - 1) Try.prog y #[.int .i64 x] W1 fun e W' =>
      (e = .returned (.bool true) ∧ J (pre ++ [x]) W' ∧ KpN N W1 W') ∨ (e = .returned (.bool false) ∧ Jx (pre ++ [x]) W'))
    (hC : DC W Bl Bf Bt N a m c l fr tt) (h0 : J [] W) (hft : fr < tt) :
    CallsIn Fence.wide n Try.prog 47 #[.func (.yield y) #[] #[], .pointer (some ⟨Bl, 0, none⟩), .pointer (some ⟨Bf, 0, none⟩), .pointer (some ⟨Bt, 0, none⟩)] W fun e W' => (∃ v, e = .returned v) ∧
      ((∃ ys, (∃ u, DCh l fr tt ys u ∧ ∀ t, nextA l u = some t → tt ≤ t) ∧ J ys W') ∨ (∃ pre, (∃ u, DCh l fr tt pre u) ∧ Jx pre W')) := by
  have HY := Lib.hid hY
  have HJ := Lib.hid hJ
  have HC := Lib.hid hC
  have HNN1 := Lib.hid hn
  have HF := Lib.hid (And.intro hfr hft)
  have hok2 := (okL_iff.1 hok).1
  have HOK := Lib.hid hok2
  have H0 : Hid (J [] W) := h0
  have HNC : Hid (∀ (u : Int), fr - 1 ≤ u → u ≤ 1048577 → ∀ V, Dems V a m c l → Calls Try.prog 48 #[.slice a m c, .int .i64 u] V fun e w' => e = .returned (.tuple #[.int .i64 ((nextA l u).getD 0), .bool (nextA l u).isSome]) ∧ Below V.heap.size V w') := fun u h1 h2 V hd => by
    have := pnext_any hd u (by unfold I64; omega)
    rwa [nextS_is hok (timeB_iff.2 ⟨by omega, by omega⟩)] at this
  have k0 : W.cell? ⟨Bl, 0, none⟩ = some (.slice a m c) := by rw [blk_cell hC.bl]; rfl
  have k1 : W.cell? ⟨Bf, 0, none⟩ = some (.int .i64 fr) := by rw [blk_cell hC.bf]; rfl
  have ef : IntKind.i64.wrap (fr - 1) = fr - 1 := IntWalk.i64_in _ (by omega)
  have NC0 := Lib.hid (HNC.out (fr - 1) (by omega) (by omega) W hC.dems)
  obtain ⟨o0, ho0⟩ : ∃ o0, nextA l (fr - 1) = o0 := ⟨_, rfl⟩
  rw [ho0] at NC0
  have HO0 := Lib.hid ho0
  clear hY hJ hC hok h0 hn hfr hft hok2 ho0
  refine callsIn_of_wp Try.func47 rfl trivial ?_ rfl
  simp only [Try.ntmps47, List.size_toArray, List.length_cons, List.length_nil, Nat.reduceAdd, Nat.reduceSub, Array.replicate_succ, Array.replicate_zero, List.push_toArray, List.append_toArray, List.nil_append, List.cons_append]
  have hn := HNN1.out
  gi_wp2_with ((with_reducible refine And.intro (a := Fence.wide.fn 48) pnext_fn ?_); gi_at_call 48; (refine (callsIn_wide.2 NC0.out).mono ?_); rintro e w1 ⟨rfl, b1⟩; have HB1 := Lib.hid b1; clear b1)
  gi_loopw [5, 6] (fun t o wr => ∃ (pre : List Int) (u : Int), t = .int .i64 ((nextA l u).getD 0) ∧ o = .bool (nextA l u).isSome ∧ Hid (DCh l fr tt pre u) ∧ Hid (DC wr Bl Bf Bt N a m c l fr tt) ∧ Hid (J pre wr)) (fun t o _ => farD tt t o)
  case atStart => exact ⟨[], fr - 1, by rw [HO0.out], by rw [HO0.out], .nil, HC.out.below HB1.out, HJ.out _ _ _ H0.out HB1.out⟩
  case round =>
    obtain ⟨pre, u, rfl, rfl, HCH, HCr, HJr⟩ := hrel
    clear HC H0 k0 k1 ef NC0 HO0 HB1
    have k1 : wr.cell? ⟨Bt, 0, none⟩ = some (.int .i64 tt) := by rw [blk_cell HCr.out.bt]; rfl
    obtain ⟨o, ho⟩ : ∃ o, nextA l u = o := ⟨_, rfl⟩
    rw [ho]
    have HO := Lib.hid ho
    clear ho
    cases o with
    | none =>
      gi_wp2
      refine ⟨fun _ h => (by cases h), ?_⟩
      gi_wp2
      go_end0
      exact ⟨⟨_, rfl⟩, .inl ⟨pre, ⟨u, HCH.out, fun t e => by rw [HO.out] at e; cases e⟩, HJr.out⟩⟩
    | some t =>
      by_cases hq : t < tt
      · have HX : Hid (Dl l t ∧ fr ≤ t ∧ t < tt) := by
          have h1 := next_some HOK.out HO.out
          have h2 := (HCH.out.low HOK.out).2.2
          exact ⟨h1.1, by omega, hq⟩
        have HLEN : Hid (pre.length < 2000000) := by
          have h1 := HCH.out.low HOK.out; have h2 := HF.out
          show _ < _
          omega
        have HCH2 : Hid (DCh l fr tt (pre ++ [t]) t) := .snoc HCH.out HO.out hq
        have NC := Lib.hid (HNC.out t (by have := HX.out.2.1; omega) (by have := HF.out.1.2; omega))
        have HME : Hid (farD tt (.int .i64 ((nextA l t).getD 0)) (.bool (nextA l t).isSome) < farD tt (.int .i64 t) (.bool true)) := farD_less _ hq (fun v e => (next_some HOK.out e).2.1)
        obtain ⟨fn, tmps, assign, body, hy, hR⟩ := HY.out pre t wr HX.out HJr.out HLEN.out
        have HR := Lib.hid hR
        clear hR
        have k2 : ∀ V, KpN N wr V → V.cell? ⟨Bl, 0, none⟩ = some (.slice a m c) := fun V h => by rw [blk_cell (HCr.out.kp h).bl]; rfl
        have HK2 := Lib.hid k2
        clear k2
        simp only [Option.getD_some, Option.isSome_some]
        gi_wp2_with (first
          | ((with_reducible refine And.intro (a := Fence.wide.fn 48) pnext_fn ?_); gi_at_call 48; (refine (callsIn_wide.2 (NC.out _ (HCr.out.kp (H3.out.1 (by first | (with_reducible assumption) | (simpa using (by assumption : (q) = true)))).2).dems)).mono ?_); rintro e w5 ⟨rfl, b5⟩; have HB5 := Lib.hid b5; clear b5)
          | ((refine HR.out.mono ?_); rintro e W3 h3; obtain ⟨q, rfl, H3⟩ := told_or h3; clear h3; have kk : q = true → W3.cell? ⟨Bl, 0, none⟩ = some (.slice a m c) := fun e => HK2.out _ (H3.out.1 e).2))
        · have HT := Lib.hid (H3.out.1 (by assumption))
          exact ⟨⟨pre ++ [t], t, rfl, rfl, HCH2, (HCr.out.kp HT.out.2).below HB5.out, HJ.out _ _ _ HT.out.1 HB5.out⟩, HME.out⟩
        · have HT := Lib.hid (H3.out.2 (by assumption))
          go_end0
          exact ⟨⟨_, rfl⟩, .inr ⟨_, ⟨t, HCH2.out⟩, HT.out⟩⟩
      · have hq' : ¬ t < tt := hq
        simp only [Option.getD_some, Option.isSome_some]
        gi_wp2
        refine ⟨fun _ h => (by cases h), ?_⟩
        gi_wp2
        go_end0
        exact ⟨⟨_, rfl⟩, .inl ⟨pre, ⟨u, HCH.out, fun v e => by rw [HO.out] at e; cases e; omega⟩, HJr.out⟩⟩

abbrev CutP (L : List Bk) (E : Int) := { x : Int × Int // CutX L E x }
theorem stretches_stops (F : Fence) (hF : F = Fence.wide) (n : Nat) (hn : 1 ≤ n) (L : List Bk) (m c : Nat) (hL : L.length = m) (hm : m ≤ 64) (E : Int) (hE : 1 ≤ E ∧ E ≤ 1048576) (a : Option Addr) (Be Bl : Nat) (N : Nat → Prop) (w : World) (hC : SC w Be Bl N a m c L E) :
    SeqStopsK F n Try.prog 42 #[.pointer (some ⟨Be, 0, none⟩), .pointer (some ⟨Bl, 0, none⟩)] (fun x : CutP L E => #[.int .i64 x.1.1, .int .i64 x.1.2]) (KpN N)
      (fun ys => ∃ u, Cuts (ys.map (·.1)) u ∧ E < u) (fun ys => ∃ u, Cuts (ys.map (·.1)) u) 2000000 w := by
  subst hF
  exact fun y J Jx W hW hA hAx hY h0 =>
    (stretches1_in n hn y L m c hL hm E hE a Be Bl N (fun q W => ∃ q' : List (CutP L E), q'.map (·.1) = q ∧ J q' W) (fun q W => ∃ q' : List (CutP L E), q'.map (·.1) = q ∧ Jx q' W) W
      (fun q X Y ⟨q', e, h⟩ hb => ⟨q', e, hA q' X Y none h (grown_none hb) (fun r e => by cases e)⟩)
      (fun pre x W1 hx ⟨q', e, h⟩ hlen => by
        subst e
        obtain ⟨fn, tmps, assign, body, hy, hR⟩ := hY q' ⟨x, hx⟩ W1 h (by simpa using hlen)
        refine ⟨fn, tmps, assign, body, hy, hR.mono ?_⟩
        rintro e W' (⟨rfl, hj, hk⟩ | ⟨rfl, hj⟩)
        · exact .inl ⟨rfl, ⟨_, by simp, hj⟩, hk⟩
        · exact .inr ⟨rfl, _, by simp, hj⟩)
      (hC.below hW) ⟨[], rfl, h0⟩).mono fun e W' ⟨hv, h⟩ => ⟨hv, by
        rcases h with ⟨ys, ⟨u, h1, h2⟩, q', rfl, hj⟩ | ⟨pre, ⟨u, h1⟩, q', rfl, hj⟩
        · exact .inl ⟨q', ⟨u, h1, h2⟩, hj⟩
        · exact .inr ⟨q', ⟨u, h1⟩, hj⟩⟩
abbrev DlQ (l : List Dm) (fr tt : Int) := { x : Int // Dl l x ∧ fr ≤ x ∧ x < tt }
theorem qdead_stops (F : Fence) (hF : F = Fence.wide) (n : Nat) (hn : 1 ≤ n) (l : List Dm) (m c : Nat) (hok : okL l = true) (fr tt : Int) (hfr : 1 ≤ fr ∧ tt ≤ 1048577) (hft : fr < tt) (a : Option Addr) (Bl Bf Bt : Nat) (N : Nat → Prop) (w : World) (hC : DC w Bl Bf Bt N a m c l fr tt) :
    SeqStopsK F n Try.prog 47 #[.pointer (some ⟨Bl, 0, none⟩), .pointer (some ⟨Bf, 0, none⟩), .pointer (some ⟨Bt, 0, none⟩)] (fun x : DlQ l fr tt => #[.int .i64 x.1]) (KpN N)
      (fun ys => ∃ u, DCh l fr tt (ys.map (·.1)) u ∧ ∀ t, nextA l u = some t → tt ≤ t) (fun ys => ∃ u, DCh l fr tt (ys.map (·.1)) u) 2000000 w := by
  subst hF
  exact fun y J Jx W hW hA hAx hY h0 =>
    (qdead1_in n hn y l m c hok fr tt hfr a Bl Bf Bt N (fun q W => ∃ q' : List (DlQ l fr tt), q'.map (·.1) = q ∧ J q' W) (fun q W => ∃ q' : List (DlQ l fr tt), q'.map (·.1) = q ∧ Jx q' W) W
      (fun q X Y ⟨q', e, h⟩ hb => ⟨q', e, hA q' X Y none h (grown_none hb) (fun r e => by cases e)⟩)
      (fun pre x W1 hx ⟨q', e, h⟩ hlen => by
        subst e
        obtain ⟨fn, tmps, assign, body, hy, hR⟩ := hY q' ⟨x, hx⟩ W1 h (by simpa using hlen)
        refine ⟨fn, tmps, assign, body, hy, hR.mono ?_⟩
        rintro e W' (⟨rfl, hj, hk⟩ | ⟨rfl, hj⟩)
        · exact .inl ⟨rfl, ⟨_, by simp, hj⟩, hk⟩
        · exact .inr ⟨rfl, _, by simp, hj⟩)
      (hC.below hW) ⟨[], rfl, h0⟩ hft).mono fun e W' ⟨hv, h⟩ => ⟨hv, by
        rcases h with ⟨ys, ⟨u, h1, h2⟩, q', rfl, hj⟩ | ⟨pre, ⟨u, h1⟩, q', rfl, hj⟩
        · exact .inl ⟨q', ⟨u, h1, h2⟩, hj⟩
        · exact .inr ⟨q', ⟨u, h1⟩, hj⟩⟩

set_option maxRecDepth 100000 in
theorem pstretches_any (a : Option Addr) (n c : Nat) (E : Int) (w : World) : Calls Try.prog 23 #[.slice a n c, .int .i64 E] w fun e w' =>
    e = .returned (.func (.func 42) #[] #[.pointer (some ⟨w.heap.size + 1, 0, none⟩), .pointer (some ⟨w.heap.size, 0, none⟩)]) ∧
      w' = (w.alloc (.cells #[.slice a n c] 27)).alloc (.cells #[.int .i64 E] 2) := by
  have hmf : ∀ (fn : Fn) (first cap : Array Value) (w : World), (Instr.makeFunc fn first cap).run Try.prog w = .ok (.func fn first cap) w := fun _ _ _ _ => rfl
  go_enter Try.func23, Try.ntmps23
  go_wp2
  go_ret
  exact ⟨rfl, rfl⟩
set_option maxRecDepth 100000 in
theorem qdeadlines_any (a : Option Addr) (n c : Nat) (fr tt : Int) (w : World) : Calls Try.prog 26 #[.slice a n c, .int .i64 fr, .int .i64 tt] w fun e w' =>
    e = .returned (.func (.func 47) #[] #[.pointer (some ⟨w.heap.size, 0, none⟩), .pointer (some ⟨w.heap.size + 1, 0, none⟩), .pointer (some ⟨w.heap.size + 2, 0, none⟩)]) ∧
      w' = ((w.alloc (.cells #[.slice a n c] 25)).alloc (.cells #[.int .i64 fr] 2)).alloc (.cells #[.int .i64 tt] 2) := by
  have hmf : ∀ (fn : Fn) (first cap : Array Value) (w : World), (Instr.makeFunc fn first cap).run Try.prog w = .ok (.func fn first cap) w := fun _ _ _ _ => rfl
  go_enter Try.func26, Try.ntmps26
  go_wp2
  go_ret
  exact ⟨rfl, rfl⟩
end Go.Proofs.Ytljigfedmjlfgaa

/-
  What lies where while rows of times are gone through.
-/
namespace Go.Proofs.Ytljigfedmjlfgaa
open Go.RowKit Go.Maps Go.Shelf

/-- The boxes: the demands, the blocks, who tells what is held, what was found. -/
structure MsB (w : World) (G : Nat) (a : Option Addr) (n c : Nat) (a2 : Option Addr) (n2 c2 : Nat) (y : Int) (f : Bool) (V : World) : Prop where
  low : Below w.heap.size w V
  bl : Bx V w.heap.size 25 (.slice a n c)
  bb : Bx V G 27 (.slice a2 n2 c2)
  bh : Bx V (G + 1) 55 (.func (.func 40) #[] #[.pointer (some ⟨G, 0, none⟩)])
  ms : Bx V (G + 1 + 1) 2 (.int .i64 y)
  fd : Bx V (G + 1 + 1 + 1) 4 (.bool f)
  lt : w.heap.size < G
theorem MsB.lowD {w V V' : World} {G D : Nat} {a : Option Addr} {n c : Nat} {a2 : Option Addr} {n2 c2 : Nat} {y : Int} {f : Bool} (h : MsB w G a n c a2 n2 c2 y f V) (hb : Below D V V') (hD : G + 1 + 1 + 1 < D) : MsB w G a n c a2 n2 c2 y f V' := by
  have := h.lt
  exact ⟨h.low.trans (hb.mono (by omega)), h.bl.low hb (by omega), h.bb.low hb (by omega), h.bh.low hb (by omega), h.ms.low hb (by omega), h.fd.low hb (by omega), h.lt⟩
theorem MsB.below {w V V' : World} {G : Nat} {a : Option Addr} {n c : Nat} {a2 : Option Addr} {n2 c2 : Nat} {y : Int} {f : Bool} (h : MsB w G a n c a2 n2 c2 y f V) (hb : Below V.heap.size V V') : MsB w G a n c a2 n2 c2 y f V' := h.lowD hb (lt_of_block h.fd)
theorem MsB.put {w V : World} {G : Nat} {a : Option Addr} {n c : Nat} {a2 : Option Addr} {n2 c2 : Nat} {y : Int} {f : Bool} (h : MsB w G a n c a2 n2 c2 y f V) (v : Int) : MsB w G a n c a2 n2 c2 v true ((V.setCell ⟨G + 1 + 1, 0, none⟩ (.int .i64 v)).setCell ⟨G + 1 + 1 + 1, 0, none⟩ (.bool true)) := by
  have := h.lt
  exact ⟨(h.low.setCell (p := ⟨G + 1 + 1, 0, none⟩) (by show _ ≤ G + 1 + 1; omega) _).setCell (p := ⟨G + 1 + 1 + 1, 0, none⟩) (by show _ ≤ G + 1 + 1 + 1; omega) _, (h.bl.far (by omega) _).far (by omega) _, (h.bb.far (by omega) _).far (by omega) _, (h.bh.far (by omega) _).far (by omega) _, (h.ms.set _).far (by omega) _, (h.fd.far (by omega) _).set _, h.lt⟩
theorem MsB.own {w : World} {G : Nat} {D : Nat} (hD : w.heap.size ≤ D) {a : Option Addr} {n c : Nat} {a2 : Option Addr} {n2 c2 : Nat} {y : Int} {f : Bool} {X Y : World} {row : Option Nat} (h : MsB w G a n c a2 n2 c2 y f X) (hg : X.grownBy Y row) (hr : ∀ r, row = some r → D ≤ r ∧ ∃ o : Obj, X.heap[r]? = some o ∧ o.isCells = false) : MsB w G a n c a2 n2 c2 y f Y :=
  ⟨ownFrom_below (β := Unit) (Nat.le_refl _) hD () X Y row h.low hg hr, h.bl.own hg (fun r e => (hr r e).2), h.bb.own hg (fun r e => (hr r e).2), h.bh.own hg (fun r e => (hr r e).2), h.ms.own hg (fun r e => (hr r e).2), h.fd.own hg (fun r e => (hr r e).2), h.lt⟩
/-- The boxes that a round may turn. -/
def NM (G : Nat) (k : Nat) : Prop := k = G + 1 + 1 ∨ k = G + 1 + 1 + 1
theorem kpN_below {N : Nat → Prop} {X Y : World} (h : Below X.heap.size X Y) : KpN N X Y := ⟨fun k cs T fr _ z => kept_obj h z, h.size⟩
theorem kf_below {D : Nat} {X Y : World} (h : Below X.heap.size X Y) : KeepsFrom D X Y := ⟨h.size, fun k o _ hk _ => kept_obj h hk⟩
theorem kf_two {D : Nat} (V : World) (p q : Addr) (u v : Value) : KeepsFrom D V ((V.setCell p u).setCell q v) := (kf_set _ _ _).trans (kf_set _ _ _)
theorem kp_two {G : Nat} (V : World) (u v : Value) : KpN (NM G) V ((V.setCell ⟨G + 1 + 1, 0, none⟩ u).setCell ⟨G + 1 + 1 + 1, 0, none⟩ v) := kpN_t (kpN_set V (.inl rfl) _) (kpN_set _ (.inr rfl) _)
/-- What is held, told by the one who lies in the box. -/
theorem held_at {w V : World} {G : Nat} {a : Option Addr} {n c : Nat} {a2 : Option Addr} {n2 c2 : Nat} {y : Int} {f : Bool} {L : List Bk} (h : MsB w G a n c a2 n2 c2 y f V) (hL : Blks w a2 n2 c2 L) (t : Int) :
    Calls Try.prog 40 #[.int .i64 t, .pointer (some ⟨G, 0, none⟩)] V fun e w' => e = .returned (.int .i64 (heldA L t)) ∧ Below V.heap.size V w' :=
  pheld1_any L n2 c2 hL.len hL.n9 (fun x hx => (hL.nice.ok x hx).2.2.1) a2 t G V (hL.view.below h.low) h.bb
theorem slack_at {w V : World} {a : Option Addr} {n c : Nat} {l : List Dm} (hV : Below w.heap.size w V) (hd : Dems w a n c l) (fr tt : Int) (hf : 1 ≤ fr ∧ tt ≤ 1048577 ∧ fr < tt) :
    Calls Try.prog 25 #[.slice a n c, .int .i64 fr, .int .i64 tt] V fun e w' => e = .returned (.tuple #[.int .i64 ((slS l fr tt).getD 0), .bool (slS l fr tt).isSome]) ∧ Below V.heap.size V w' :=
  pslack_any (hd.below hV) fr tt (by unfold I64; omega) (by unfold I64; omega)
theorem due_at {w V : World} {a : Option Addr} {n c : Nat} {l : List Dm} (hV : Below w.heap.size w V) (hd : Dems w a n c l) (hl : Nice l) (t : Int) (h0 : 0 ≤ t) (h1 : t ≤ 1048577) :
    Calls Try.prog 27 #[.slice a n c, .int .i64 t] V fun e w' => e = .returned (.tuple #[.int .i64 (dueA l t), .bool true]) ∧ Below V.heap.size V w' := by
  have := pof_any (hd.below hV) t (by unfold I64; omega)
  rw [ofA_cap hl.okL (timeB_iff.2 ⟨h0, by omega⟩), cap_is (by have := (due_under hl h0 h1).2; omega)] at this
  exact this
/-- What tells deadlines lies behind what lay. -/
theorem dc_at {w V W1 : World} {G : Nat} {a : Option Addr} {n c : Nat} {a2 : Option Addr} {n2 c2 : Nat} {y : Int} {f : Bool} {l : List Dm} (h : MsB w G a n c a2 n2 c2 y f V) (hb : Below V.heap.size V W1) (hd : Dems w a n c l) (fr tt : Int) :
    DC (((W1.alloc (.cells #[.slice a n c] 25)).alloc (.cells #[.int .i64 fr] 2)).alloc (.cells #[.int .i64 tt] 2)) W1.heap.size (W1.heap.size + 1) (W1.heap.size + 2) (NM G) a n c l fr tt := by
  have h0 := heap_alloc_new W1 (.cells #[.slice a n c] 25)
  have h1 := heap_alloc_new (W1.alloc (.cells #[.slice a n c] 25)) (.cells #[.int .i64 fr] 2)
  have h2 := heap_alloc_new ((W1.alloc (.cells #[.slice a n c] 25)).alloc (.cells #[.int .i64 fr] 2)) (.cells #[.int .i64 tt] 2)
  simp only [World.size_alloc] at h1 h2
  have hg : G + 1 + 1 + 1 < W1.heap.size := Nat.lt_of_lt_of_le (lt_of_block h.fd) hb.size
  have hlt := h.lt
  refine ⟨kept_obj (by repeat (first | exact Below.refl _ _ | (with_reducible assumption) | refine bw_alloc ?_ _ | refine bw_drew ?_)) h0, kept_obj (by repeat (first | exact Below.refl _ _ | (with_reducible assumption) | refine bw_alloc ?_ _ | refine bw_drew ?_)) h1, h2, fun q => by unfold NM at q; omega, fun q => by unfold NM at q; omega, fun q => by unfold NM at q; omega, hd.below (below_up (below_up h.low hb) (by repeat (first | exact Below.refl _ _ | (with_reducible assumption) | refine bw_alloc ?_ _ | refine bw_drew ?_))), fun hn b o i e q => ?_⟩
  have := hd.view.off hn b o i e
  unfold NM at q; omega
theorem only_on {P : Program} {c : Code} {K : Act → World → Prop} {Q : Exit → Act → World → Prop} {a : Act} {w : World} (h : Code.wp P c (Exit.then K (fun _ _ _ => False)) a w) : Code.wp P c (Exit.then K Q) a w :=
  Code.wp_mono (fun e a w q => by cases e with | normal => exact q | _ => exact q.elim) h
/-- A period's work, as it is told. -/
theorem load_nice {l : List Dm} (h : Nice l) : ldS l = (loadN l (perS l).1 l.length, (perS l).1, 0) ∧ 0 ≤ loadN l (perS l).1 l.length ∧ loadN l (perS l).1 l.length ≤ 1680 := by
  obtain ⟨p0, p1, p2, _⟩ := h.per
  have key : ∀ k : Nat, loadN l (perS l).1 k ≤ (k : Int) * 240 := by
    intro k
    induction k with
    | zero => show (0 : Int) ≤ _; omega
    | succ k ih =>
      cases hx : l[k]? with
      | none => rw [load_end hx]; omega
      | some x =>
        have hm := List.mem_of_getElem? hx
        have ho := h.ok x hm
        have a1 : x.c * ((perS l).1 / x.t) ≤ x.t * ((perS l).1 / x.t) := Int.mul_le_mul_of_nonneg_right (by have := h.cd x hm; have := ho.d2; omega) (Int.ediv_nonneg (by omega) (by have := ho.d1; have := ho.d2; omega))
        have b1 := Int.mul_ediv_self_le (x := (perS l).1) (k := x.t) (by have := ho.d1; have := ho.d2; omega)
        rw [load_next hx]
        omega
  have h1 := key l.length
  have h2 := h.len
  have h3 := load_nonneg h.ok (show 0 ≤ (perS l).1 by omega)
  refine ⟨ldS_is p0 (by omega), h3, by omega⟩
theorem fits_iff {l : List Dm} (hok : ∀ x ∈ l, x.ok) {L : List Bk} : FitsA l L ↔ loadN l (perS l).1 l.length ≤ (perS l).1 ∧ msS l L = none := by
  constructor
  · intro h; exact ⟨h.1, ms_none h.2⟩
  · intro h; exact ⟨h.1, ms_not hok h.2⟩
theorem slack_small {l : List Dm} (h : Nice l) {x : Int × Int} (h0 : 1 ≤ x.1) (h1 : x.2 ≤ 1048577) (h2 : x.1 < x.2) {s : Int} (e : slS l x.1 x.2 = some s) : -7340040 ≤ s ∧ s ≤ 1048577 := by
  have hs := slk_of h h0 h1 h2
  rw [e] at hs
  obtain ⟨⟨y, hy, a, b, c⟩, _⟩ := hs.yes s rfl
  have := due_under h (t := y) (by omega) (by omega)
  omega
/-- What is behind the setting up. -/
theorem box_four {V : World} {a2 : Option Addr} {n2 c2 : Nat} {G : Nat} (hG : V.heap.size = G) :
    Bx ((((V.alloc (.cells #[.slice a2 n2 c2] 27)).alloc (.cells #[.func (.func 40) #[] #[.pointer (some ⟨G, 0, none⟩)]] 55)).alloc (.cells #[.int .i64 0] 2)).alloc (.cells #[.bool false] 4)) G 27 (.slice a2 n2 c2) ∧
    Bx ((((V.alloc (.cells #[.slice a2 n2 c2] 27)).alloc (.cells #[.func (.func 40) #[] #[.pointer (some ⟨G, 0, none⟩)]] 55)).alloc (.cells #[.int .i64 0] 2)).alloc (.cells #[.bool false] 4)) (G + 1) 55 (.func (.func 40) #[] #[.pointer (some ⟨G, 0, none⟩)]) ∧
    Bx ((((V.alloc (.cells #[.slice a2 n2 c2] 27)).alloc (.cells #[.func (.func 40) #[] #[.pointer (some ⟨G, 0, none⟩)]] 55)).alloc (.cells #[.int .i64 0] 2)).alloc (.cells #[.bool false] 4)) (G + 1 + 1) 2 (.int .i64 0) ∧
    Bx ((((V.alloc (.cells #[.slice a2 n2 c2] 27)).alloc (.cells #[.func (.func 40) #[] #[.pointer (some ⟨G, 0, none⟩)]] 55)).alloc (.cells #[.int .i64 0] 2)).alloc (.cells #[.bool false] 4)) (G + 1 + 1 + 1) 4 (.bool false) := by
  subst hG
  have h0 := heap_alloc_new V (.cells #[.slice a2 n2 c2] 27)
  have h1 := heap_alloc_new (V.alloc (.cells #[.slice a2 n2 c2] 27)) (.cells #[.func (.func 40) #[] #[.pointer (some ⟨V.heap.size, 0, none⟩)]] 55)
  have h2 := heap_alloc_new ((V.alloc (.cells #[.slice a2 n2 c2] 27)).alloc (.cells #[.func (.func 40) #[] #[.pointer (some ⟨V.heap.size, 0, none⟩)]] 55)) (.cells #[.int .i64 0] 2)
  have h3 := heap_alloc_new (((V.alloc (.cells #[.slice a2 n2 c2] 27)).alloc (.cells #[.func (.func 40) #[] #[.pointer (some ⟨V.heap.size, 0, none⟩)]] 55)).alloc (.cells #[.int .i64 0] 2)) (.cells #[.bool false] 4)
  simp only [World.size_alloc] at h1 h2 h3
  exact ⟨kept_obj (by repeat (first | exact Below.refl _ _ | (with_reducible assumption) | refine bw_alloc ?_ _ | refine bw_drew ?_)) h0, kept_obj (by repeat (first | exact Below.refl _ _ | (with_reducible assumption) | refine bw_alloc ?_ _ | refine bw_drew ?_)) h1, kept_obj (by repeat (first | exact Below.refl _ _ | (with_reducible assumption) | refine bw_alloc ?_ _ | refine bw_drew ?_)) h2, h3⟩
end Go.Proofs.Ytljigfedmjlfgaa
