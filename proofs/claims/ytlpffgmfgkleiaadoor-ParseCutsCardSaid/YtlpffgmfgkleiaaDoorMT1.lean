/- Texts of this claim, put together: KMem, KW2, KW3, KW4, LMem, LRow, LNum, LW1, LW8, LP1, YTx, LW2, LW3, LW4. -/
import Derived.Test.YtlpffgmfgkleiaaDoorChecked
import Derived.WalkKit
import Derived.WalkSpells
import Derived.WalkLawsBesides
import Derived.Lib.Hide
import Derived.Lib.SmallJoins
import Derived.Below
import Derived.IntWalk
import Derived.WalkMore
import Derived.Deep.QuietTactic
import Derived.Deep.RegionLaw
import Derived.BigQuiet
import Derived.BigRegion
import Derived.RegionTactic
import Derived.Maps.AppendAt
import Derived.Deep.AppendSrc
import Derived.Deep.DeepCutAuto
import Derived.Deep.LoopGhost
import Derived.Deep.CutRange
import Derived.Deep.CutBlock
import Derived.Deep.Cut
import Derived.Tactics2
import Derived.OwnWalk
import Derived.Maps.OwnSet
import Derived.Laws.EntriesVeiled
import Derived.Deep.RegionWith
import Derived.Deep.RegionHeld3
import Derived.StillTailTactics
import Derived.OneCell
set_option linter.unusedVariables false
set_option linter.unusedSimpArgs false

/-
  What rows of numbers, tasks and rows of tasks hold, in a world and in later ones.
-/
namespace Go.Proofs.YtlpffgmfgkleiaaDoor
open Go.RowKit Go.Maps

theorem block_of_cell {w : World} {a : Addr} {v : Value} (h : w.cell? a = some v) : a.block < w.heap.size := by
  rcases Nat.lt_or_ge a.block w.heap.size with g | g
  · exact g
  · simp [World.cell?, Array.getElem?_eq_none g] at h
theorem lt_of_block {w : World} {b : Nat} {o : Obj} (h : w.heap[b]? = some o) : b < w.heap.size := (Array.getElem?_eq_some_iff.1 h).1
theorem addr_at (g o t : Nat) : (⟨g, o, none⟩ : Addr).add t = ⟨g, o + t, none⟩ := by
  unfold Addr.add; split <;> simp_all
theorem kept_cell {w w' : World} (hb : Below w.heap.size w w') {b o : Nat} {v : Value} (h : w.cell? ⟨b, o, none⟩ = some v) : w'.cell? ⟨b, o, none⟩ = some v := by
  rw [hb.cell (p := ⟨b, o, none⟩) (block_of_cell h)]; exact h
theorem kept_obj {w w' : World} (hb : Below w.heap.size w w') {b : Nat} {o : Obj} (h : w.heap[b]? = some o) : w'.heap[b]? = some o := (hb.block b (lt_of_block h)).trans h
/-- The walk goes on in a world of which only so much is known. -/
theorem gen_world {P : Program} {c : Code} {Q : Exit → Act → World → Prop} {a : Act} {w : World} (S : World → Prop) (h : S w) (k : ∀ w', S w' → c.wp P Q a w') : c.wp P Q a w := k w h
theorem blk_set {w : World} {b o : Nat} {cs : Array Value} {T : TypeId} {fr : Nat × Nat} (h : w.heap[b]? = some (.cells cs T fr)) (v : Value) : (w.setCell ⟨b, o, none⟩ v).heap[b]? = some (.cells (cs.setIfInBounds o v) T fr) := by
  simp [World.setCell, Array.getElem?_modify, h]
theorem blk_far {w : World} {b : Nat} {a : Addr} (hne : b ≠ a.block) (v : Value) : (w.setCell a v).heap[b]? = w.heap[b]? := Below.heap_setCell w a v b hne
theorem blk_cell {w : World} {b : Nat} {cs : Array Value} {T : TypeId} {fr : Nat × Nat} (h : w.heap[b]? = some (.cells cs T fr)) (o : Nat) : w.cell? ⟨b, o, none⟩ = cs[o]? := cell_of_row w b o cs T fr h
theorem blk_free {w : World} {b : Nat} {cs : Array Value} {T : TypeId} (h : w.heap[b]? = some (.cells cs T (0, 0))) (o : Nat) : w.frozen? ⟨b, o, none⟩ = false := by
  simp [World.frozen?, h]
theorem below_same {B : Nat} {W w w' : World} (h : Below B W w) (e : w'.heap = w.heap) (e1 : w'.os = w.os) (e2 : w'.tape = w.tape) (e3 : w'.output = w.output) : Below B W w' :=
  ⟨e1.trans h.os, e2.trans h.tape, e3.trans h.output, by rw [e]; exact h.size, fun k hk => by rw [e]; exact h.block k hk⟩
theorem below_up {W w w' : World} (h : Below W.heap.size W w) (k : Below w.heap.size w w') : Below W.heap.size W w' := h.trans (k.mono h.size)

/-! ### rows of numbers -/
/-- A row of numbers that can be read. -/
def Ints (w : World) (a : Option Addr) (l : List Int) : Prop :=
  l = [] ∨ ∃ g o, a = some ⟨g, o, none⟩ ∧ ∀ (j : Nat) (u : Int), l[j]? = some u → w.cell? ⟨g, o + j, none⟩ = some (.int .i64 u)
theorem Ints.nil {w : World} {a : Option Addr} : Ints w a [] := .inl rfl
theorem Ints.at_ {w : World} {a : Option Addr} {l : List Int} (h : Ints w a l) {k : Nat} {x : Int} (hx : l[k]? = some x) : ∃ g o, a = some ⟨g, o, none⟩ ∧ w.cell? ⟨g, o + k, none⟩ = some (.int .i64 x) := by
  rcases h with rfl | ⟨g, o, rfl, hc⟩
  · simp at hx
  · exact ⟨g, o, rfl, hc _ _ hx⟩
theorem Ints.below {w w' : World} {a : Option Addr} {l : List Int} (h : Ints w a l) (hb : Below w.heap.size w w') : Ints w' a l := by
  rcases h with rfl | ⟨g, o, rfl, hc⟩
  · exact .inl rfl
  · exact .inr ⟨g, o, rfl, fun j u hj => kept_cell hb (hc j u hj)⟩
theorem Ints.take {w : World} {a : Option Addr} {l : List Int} (h : Ints w a l) (k : Nat) : Ints w a (l.take k) := by
  rcases h with rfl | ⟨g, o, rfl, hc⟩
  · left; simp
  · refine .inr ⟨g, o, rfl, fun j u hj => ?_⟩
    rw [List.getElem?_take] at hj
    split at hj
    · exact hc j u hj
    · cases hj
theorem Ints.nothing {w : World} {l : List Int} (h : Ints w none l) : l = [] := by
  rcases h with rfl | ⟨g, o, e, _⟩
  · rfl
  · cases e
theorem Ints.of_block {w : World} {g : Nat} {l : List Int} {cs : Array Value} {T : TypeId} {fr : Nat × Nat} (h : w.heap[g]? = some (.cells cs T fr)) (hl : ∀ (j : Nat) (u : Int), l[j]? = some u → cs[j]? = some (.int .i64 u)) : Ints w (some ⟨g, 0, none⟩) l :=
  .inr ⟨g, 0, rfl, fun j u hj => by rw [Nat.zero_add, blk_cell h]; exact hl j u hj⟩
def I64 (x : Int) : Prop := -9223372036854775808 ≤ x ∧ x ≤ 9223372036854775807
theorem i64_of_wf {x : Int} (h : (Lit.int .i64 x).wf = true) : I64 x := by
  simp [Lit.wf, IntKind.min, IntKind.max, IntKind.signed, IntKind.bits] at h
  unfold I64; omega

/-! ### tasks -/
/-- A task as it stands in memory: its numbers, and its two rows. -/
structure TV where
  id : Int
  c : Int
  d : Int
  t : Int
  p : Int
  a1 : Option Addr
  ch : List Int
  c1 : Nat
  a2 : Option Addr
  us : List Int
  c2 : Nat
/-- A task as it is meant. -/
structure Tk where
  id : Int
  c : Int
  d : Int
  t : Int
  p : Int
  ch : List Int
  us : List Int
deriving DecidableEq
def TV.tk (x : TV) : Tk := ⟨x.id, x.c, x.d, x.t, x.p, x.ch, x.us⟩
def TV.cells (x : TV) : List Value := [.int .i64 x.id, .int .i64 x.c, .int .i64 x.d, .int .i64 x.t, .int .i64 x.p, .slice x.a1 x.ch.length x.c1, .slice x.a2 x.us.length x.c2]
def TV.val (x : TV) : Value := .agg #[.int .i64 x.id, .int .i64 x.c, .int .i64 x.d, .int .i64 x.t, .int .i64 x.p, .slice x.a1 x.ch.length x.c1, .slice x.a2 x.us.length x.c2]
/-- Its rows can be read. -/
structure TV.ok (w : World) (x : TV) : Prop where
  one : Ints w x.a1 x.ch
  two : Ints w x.a2 x.us
  l1 : x.ch.length ≤ x.c1
  m1 : (x.c1 : Int) ≤ 9223372036854775807
  l2 : x.us.length ≤ x.c2
  m2 : (x.c2 : Int) ≤ 9223372036854775807
theorem TV.ok.below {w w' : World} {x : TV} (h : x.ok w) (hb : Below w.heap.size w w') : x.ok w' := ⟨h.one.below hb, h.two.below hb, h.l1, h.m1, h.l2, h.m2⟩
def AllOk (w : World) (L : List TV) : Prop := ∀ x ∈ L, x.ok w
theorem AllOk.below {w w' : World} {L : List TV} (h : AllOk w L) (hb : Below w.heap.size w w') : AllOk w' L := fun x hx => (h x hx).below hb
theorem AllOk.at_ {w : World} {L : List TV} (h : AllOk w L) {k : Nat} {x : TV} (hx : L[k]? = some x) : x.ok w := h x (List.mem_of_getElem? hx)
theorem AllOk.append {w : World} {L M : List TV} (h : AllOk w L) (k : AllOk w M) : AllOk w (L ++ M) := fun x hx => (List.mem_append.1 hx).elim (h x) (k x)
theorem AllOk.one {w : World} {x : TV} (h : x.ok w) : AllOk w [x] := fun y hy => by simp at hy; subst hy; exact h
theorem AllOk.take {w : World} {L : List TV} (h : AllOk w L) (k : Nat) : AllOk w (L.take k) := fun x hx => h x (List.mem_of_mem_take hx)

/-- The cells of a row of tasks. -/
def flat : List TV → List Value
  | [] => []
  | x :: l => x.cells ++ flat l
theorem cells_len (x : TV) : x.cells.length = 7 := rfl
theorem flat_len : ∀ l : List TV, (flat l).length = l.length * 7
  | [] => rfl
  | x :: l => by simp [flat, flat_len l, cells_len]; omega
theorem flat_append : ∀ l m : List TV, flat (l ++ m) = flat l ++ flat m
  | [], _ => rfl
  | x :: l, m => by simp [flat, flat_append l m]
theorem flat_at : ∀ (l : List TV) (k : Nat) (x : TV), l[k]? = some x → ∀ i, i < 7 → (flat l)[k * 7 + i]? = x.cells[i]?
  | [], k, x, h => by simp at h
  | y :: l, 0, x, h => by
    simp at h; subst h
    intro i hi
    rw [Nat.zero_mul, Nat.zero_add, flat, List.getElem?_append_left (by rw [cells_len]; exact hi)]
  | y :: l, k + 1, x, h => by
    intro i hi
    have := flat_at l k x (by simpa using h) i hi
    rw [show (k + 1) * 7 + i = 7 + (k * 7 + i) by omega, flat, List.getElem?_append_right (by rw [cells_len]; omega), cells_len, ← this]
    congr 1; omega
theorem flat_one : ∀ (l : List TV), ∀ u ∈ flat l, u.oneCell' = true
  | [], u, h => by simp [flat] at h
  | x :: l, u, h => by
    rcases List.mem_append.1 h with h | h
    · simp [TV.cells] at h
      rcases h with rfl | rfl | rfl | rfl | rfl | rfl | rfl <;> rfl
    · exact flat_one l u h
theorem flat_drop : ∀ (k : Nat) (l : List TV), flat (l.drop k) = (flat l).drop (k * 7)
  | 0, l => by simp
  | k + 1, [] => by simp [flat]
  | k + 1, x :: l => by
    rw [List.drop_succ_cons, flat_drop k l, flat, List.drop_append, show (k + 1) * 7 = 7 + k * 7 by omega]
    simp [cells_len]
theorem flat_take : ∀ (k : Nat) (l : List TV), flat (l.take k) = (flat l).take (k * 7)
  | 0, l => by simp [flat]
  | k + 1, [] => by simp [flat]
  | k + 1, x :: l => by
    rw [List.take_succ_cons, flat, flat, flat_take k l, List.take_append, show (k + 1) * 7 = 7 + k * 7 by omega]
    simp [cells_len]
    rw [List.take_of_length_le (by rw [cells_len]; omega)]

/-- The cells of one task, from a place on. -/
structure At (w : World) (g o : Nat) (x : TV) : Prop where
  c0 : w.cell? ⟨g, o, none⟩ = some (.int .i64 x.id)
  c1 : w.cell? ⟨g, o + 1, none⟩ = some (.int .i64 x.c)
  c2 : w.cell? ⟨g, o + 2, none⟩ = some (.int .i64 x.d)
  c3 : w.cell? ⟨g, o + 3, none⟩ = some (.int .i64 x.t)
  c4 : w.cell? ⟨g, o + 4, none⟩ = some (.int .i64 x.p)
  c5 : w.cell? ⟨g, o + 5, none⟩ = some (.slice x.a1 x.ch.length x.c1)
  c6 : w.cell? ⟨g, o + 6, none⟩ = some (.slice x.a2 x.us.length x.c2)
theorem At.below {w w' : World} {g o : Nat} {x : TV} (h : At w g o x) (hb : Below w.heap.size w w') : At w' g o x :=
  ⟨kept_cell hb h.c0, kept_cell hb h.c1, kept_cell hb h.c2, kept_cell hb h.c3, kept_cell hb h.c4, kept_cell hb h.c5, kept_cell hb h.c6⟩
/-- A row of tasks that can be read. -/
def View (w : World) (a : Option Addr) (l : List TV) : Prop :=
  l = [] ∨ ∃ g o, a = some ⟨g, o, none⟩ ∧ ∀ j u, (flat l)[j]? = some u → w.cell? ⟨g, o + j, none⟩ = some u
theorem View.nil {w : World} {a : Option Addr} : View w a [] := .inl rfl
theorem View.at_ {w : World} {a : Option Addr} {l : List TV} (h : View w a l) {k : Nat} {x : TV} (hx : l[k]? = some x) : ∃ g o, a = some ⟨g, o, none⟩ ∧ At w g (o + k * 7) x := by
  rcases h with rfl | ⟨g, o, rfl, hc⟩
  · simp at hx
  · have f := flat_at l k x hx
    refine ⟨g, o, rfl, ⟨?_, ?_, ?_, ?_, ?_, ?_, ?_⟩⟩
    · exact hc _ _ (f 0 (by omega))
    · exact hc _ _ (f 1 (by omega))
    · exact hc _ _ (f 2 (by omega))
    · exact hc _ _ (f 3 (by omega))
    · exact hc _ _ (f 4 (by omega))
    · exact hc _ _ (f 5 (by omega))
    · exact hc _ _ (f 6 (by omega))
theorem View.below {w w' : World} {a : Option Addr} {l : List TV} (h : View w a l) (hb : Below w.heap.size w w') : View w' a l := by
  rcases h with rfl | ⟨g, o, rfl, hc⟩
  · exact .inl rfl
  · exact .inr ⟨g, o, rfl, fun j u hj => kept_cell hb (hc j u hj)⟩
theorem View.drop {w : World} {g o : Nat} {l : List TV} (h : View w (some ⟨g, o, none⟩) l) (k : Nat) : View w (some ⟨g, o + k * 7, none⟩) (l.drop k) := by
  rcases h with rfl | ⟨g', o', e, hc⟩
  · left; simp
  · cases e
    refine .inr ⟨_, _, rfl, fun j u hj => ?_⟩
    rw [flat_drop, List.getElem?_drop] at hj
    rw [Nat.add_assoc]
    exact hc _ u hj
theorem View.take {w : World} {a : Option Addr} {l : List TV} (h : View w a l) (k : Nat) : View w a (l.take k) := by
  rcases h with rfl | ⟨g, o, rfl, hc⟩
  · left; simp
  · refine .inr ⟨g, o, rfl, fun j u hj => ?_⟩
    rw [flat_take, List.getElem?_take] at hj
    split at hj
    · exact hc j u hj
    · cases hj
theorem View.of_at {w : World} {g o : Nat} {x : TV} (h : At w g o x) : View w (some ⟨g, o, none⟩) [x] := by
  refine .inr ⟨g, o, rfl, fun j u hj => ?_⟩
  simp only [flat, List.append_nil, TV.cells] at hj
  match j, hj with
  | 0, hj => simp at hj; subst hj; exact h.c0
  | 1, hj => simp at hj; subst hj; exact h.c1
  | 2, hj => simp at hj; subst hj; exact h.c2
  | 3, hj => simp at hj; subst hj; exact h.c3
  | 4, hj => simp at hj; subst hj; exact h.c4
  | 5, hj => simp at hj; subst hj; exact h.c5
  | 6, hj => simp at hj; subst hj; exact h.c6
  | j + 7, hj => simp at hj
/-- A slice of tasks that can be read, with all that they hold. -/
structure Tasks (w : World) (a : Option Addr) (n cap : Nat) (L : List TV) : Prop where
  len : L.length = n
  view : View w a L
  ok : AllOk w L
  le : n ≤ cap
  small : (cap : Int) ≤ 9223372036854775807
theorem Tasks.below {w w' : World} {a : Option Addr} {n cap : Nat} {L : List TV} (h : Tasks w a n cap L) (hb : Below w.heap.size w w') : Tasks w' a n cap L := ⟨h.len, h.view.below hb, h.ok.below hb, h.le, h.small⟩
theorem nth_of {α : Type} {l : List α} {i m : Nat} (h : l.length = m) (hi : i < m) : ∃ x, l[i]? = some x := ⟨l[i]'(by rw [h]; exact hi), by simp [h, hi]⟩

/-! ### rows of one's own -/
abbrev TT : TypeId := 52
def OwnT (w : World) (B : Nat) (v : Value) (l : List TV) : Prop := w.ownsRow B TT 7 v l.length (flat l)
theorem OwnT.nil (w : World) (B : Nat) : OwnT w B (.slice none 0 0) [] := World.ownsRow_nil _ _ _ _
theorem OwnT.made (w : World) : OwnT (w.alloc (.cells #[] TT)) w.heap.size (.slice (some ⟨w.heap.size, 0, none⟩) 0 0) [] :=
  World.ownsRow_made (w := w) #[] 0 (Nat.le_refl _) (by decide) rfl
theorem OwnT.low {w : World} {B B' : Nat} {v : Value} {l : List TV} (h : OwnT w B v l) (hB : B' ≤ B) : OwnT w B' v l := by
  rcases h with ⟨h0, h | ⟨g, cap, cur, rfl, hb, r⟩⟩
  · exact ⟨h0, .inl h⟩
  · exact ⟨h0, .inr ⟨g, cap, cur, rfl, by omega, r⟩⟩
theorem OwnT.slice {w : World} {B : Nat} {v : Value} {l : List TV} (h : OwnT w B v l) : ∃ a cap, v = .slice a l.length cap ∧ View w a l ∧ l.length ≤ cap ∧ (cap : Int) ≤ 9223372036854775807 := by
  rcases h.2 with ⟨rfl, h0⟩ | ⟨g, cap, cur, rfl, _, h3, h1, h2, h4, h5⟩
  · exact ⟨none, 0, by rw [h0], .inl (List.length_eq_zero_iff.1 h0), by omega, by omega⟩
  · refine ⟨_, cap, rfl, .inr ⟨g, 0, rfl, fun j u hj => ?_⟩, h1, by unfold maxLen at h2; omega⟩
    rw [Nat.zero_add, blk_cell h3]
    rw [← h5] at hj
    rw [List.getElem?_take] at hj
    split at hj
    · simpa using hj
    · cases hj
theorem OwnT.tasks {w : World} {B : Nat} {a : Option Addr} {n cap : Nat} {l : List TV} (h : OwnT w B (.slice a n cap) l) (hok : AllOk w l) : Tasks w a n cap l := by
  obtain ⟨a', cap', e, hv, hl, hm⟩ := h.slice
  cases e
  exact ⟨rfl, hv, hok, hl, hm⟩
theorem OwnT.new {w : World} {B : Nat} {v : Value} {l : List TV} (h : OwnT w B v l) {k : Nat} (hk : v.ownBlock = some k) : B ≤ k ∧ k < w.heap.size := World.ownsRow.lt h k hk
theorem OwnT.below {w w' : World} {B : Nat} {v : Value} {l : List TV} (h : OwnT w B v l) (hb : Below w.heap.size w w') : OwnT w' B v l := by
  rcases h with ⟨h0, h | ⟨g, cap, cur, rfl, hB, h3, r⟩⟩
  · exact ⟨h0, .inl h⟩
  · exact ⟨h0, .inr ⟨g, cap, cur, rfl, hB, kept_obj hb h3, r⟩⟩
theorem OwnT.none_len {w : World} {B n c : Nat} {l : List TV} (h : OwnT w B (.slice none n c) l) : n = 0 := by
  rcases h.2 with ⟨h1, h0⟩ | ⟨g, cap, cur, h1, _⟩
  · cases h1; rfl
  · cases h1

theorem infoTask : (Tryd.prog.info? TT).map (fun i => (i.zero, i.size, i.bytes)) = some (some (.agg #[.int .i64 0, .int .i64 0, .int .i64 0, .int .i64 0, .int .i64 0, .slice none 0 0, .slice none 0 0]), 7, 88) := by kernel_rfl
theorem zeroTask (w : World) : (zeroValue TT).run Tryd.prog w = .ok (.agg #[.int .i64 0, .int .i64 0, .int .i64 0, .int .i64 0, .int .i64 0, .slice none 0 0, .slice none 0 0]) w := by kernel_rfl
theorem infoParts : ∃ i, Tryd.prog.info? TT = some i ∧ i.zero = some (.agg #[.int .i64 0, .int .i64 0, .int .i64 0, .int .i64 0, .int .i64 0, .slice none 0 0, .slice none 0 0]) ∧ i.size = 7 ∧ i.bytes = 88 := by
  obtain ⟨i, h1, h2⟩ := Option.map_eq_some_iff.1 infoTask
  simp only [Prod.mk.injEq] at h2
  exact ⟨i, h1, h2.1, h2.2.1, h2.2.2⟩

/-- A row that was appended to: what it holds, where it lies. -/
theorem append_view {w : World} {B m c : Nat} {v : Value} {q l : List TV} {ad : Option Addr} (h : OwnT w B v q) (hB : B ≤ w.heap.size) (hv : View w ad l) (hl : l.length = m) (hs : q.length + m ≤ 1000000) (hn : ad = none → m = 0) (ty : TypeId) :
    ∃ v' w', (Builtin.append_ #[30, 30] ty #[v, .slice ad m c]).run Tryd.prog w = .ok v' w' ∧ OwnT w' B v' (q ++ l) ∧ w.grownBy w' v.ownBlock ∧ ∀ k, v'.ownBlock = some k → v.ownBlock = some k ∨ w.heap.size ≤ k := by
  obtain ⟨i0, hi, hz0, hz1, hz2⟩ := infoParts
  cases ad with
  | none =>
    obtain rfl := hn rfl
    obtain rfl : l = [] := List.length_eq_zero_iff.1 hl
    refine ⟨v, w, ?_, by rw [List.append_nil]; exact h, ⟨rfl, rfl, rfl, Nat.le_refl _, fun _ _ _ => rfl⟩, fun k hk => .inl hk⟩
    rcases h.2 with ⟨rfl, h0⟩ | ⟨g, cap, cur, rfl, _, h3, h1, h2, h4, h5⟩
    · have hs := Src.ofNil (w := w) (size := i0.size) Tryd.underlying30 c
      simp [Builtin.append_, run_underlying Tryd.underlying30, sizeOf, typeInfo, hi, hs.len, hs.cells]
    · have := run_append_room_src (P := Tryd.prog) (w := w) 30 30 ty TT i0 Tryd.underlying30 hi g 0 q.length cap (.slice none 0 c) 0 [] (Src.ofNil w Tryd.underlying30 c) (by omega) (fun j hj => absurd hj (Nat.not_lt_zero _)) (fun j hj => absurd hj (Nat.not_lt_zero _))
      simpa [World.setCells] using this
  | some x =>
    have hnews : ∀ j u, (flat l)[j]? = some u → w.cell? (x.add j) = some u := by
      intro j u hj
      rcases hv with rfl | ⟨g, o, e, hc⟩
      · simp [flat] at hj
      · cases e
        rw [addr_at]; exact hc j u hj
    obtain ⟨v', w', h1, h2, h3, _, h5⟩ := run_append_own_at (P := Tryd.prog) w B 30 ty TT i0 _ 7 88 Tryd.underlying30 hi hz0 hz1 hz2 rfl (by decide) v q.length (flat q) h x m c (flat l) (by rw [flat_len, hl]) hnews (flat_one l) (by unfold maxLen; omega) (by omega) hB
    refine ⟨v', w', h1, ?_, h3, fun k hk => ?_⟩
    · unfold OwnT
      rw [List.length_append, flat_append, hl]
      exact h2
    · rcases h5 with z | z
      · left; rw [← z]; exact hk
      · right; rw [z] at hk; cases hk; exact Nat.le_refl _

theorem step_append {w : World} {ops : Array Oper} {o : Oper} {a : Act} {K : Act → World → Prop} {Q : Exit → Act → World → Prop} {E : Prop} (hgd : o.guard = none) (s x : Operand)
    (ho : o.op = .call { callee := .builtin .append, args := #[s, x], argTypes := #[30, 30] }) {B m c : Nat} {v : Value} {q l : List TV} {ad : Option Addr} (hs : a.eval s = v) (hx : a.eval x = .slice ad m c)
    (hown : OwnT w B v q) (hB : B ≤ w.heap.size) (hv : View w ad l) (hl : l.length = m) (hsm : q.length + m ≤ 1000000) (hn : ad = none → m = 0) (N : Nat) (hN : q.length + m = N)
    (h : ∀ a' cp' w', OwnT w' B (.slice a' N cp') (q ++ l) → w.grownBy w' v.ownBlock → (∀ k, (Value.slice a' N cp').ownBlock = some k → v.ownBlock = some k ∨ w.heap.size ≤ k) → K (a.put o.dst (.slice a' N cp')) w') :
    if Region.wanted o (yielded ops a.tmps) = true then Oper.wp Tryd.prog o a w K Q else E := by
  have hw : Region.wanted o (yielded ops a.tmps) = true := by simp [Region.wanted, hgd]
  rw [if_pos hw]
  obtain ⟨v', w', hr, h2, h3, h4⟩ := append_view (c := c) hown hB hv hl hsm hn o.type
  obtain ⟨a', cp', hv', _⟩ := h2.slice
  rw [List.length_append, hl, hN] at hv'
  subst hv'
  unfold Oper.wp execOp
  simp only [ho, resolve, invoke, builtin, Sem.run_bind, Sem.run_pure, Result.andThen_ok, List.map_toArray, List.map_cons, List.map_nil, hs, hx, hr]
  exact h a' cp' w' h2 h3 h4
theorem wp_append {ops : Array Oper} {rest : List Oper} {o : Oper} {a : Act} {Q : Exit → Act → World → Prop} {w : World} (hgd : o.guard = none) (s x : Operand)
    (ho : o.op = .call { callee := .builtin .append, args := #[s, x], argTypes := #[30, 30] }) {B m c : Nat} {v : Value} {q l : List TV} {ad : Option Addr} (hs : a.eval s = v) (hx : a.eval x = .slice ad m c)
    (hown : OwnT w B v q) (hB : B ≤ w.heap.size) (hv : View w ad l) (hl : l.length = m) (hsm : q.length + m ≤ 1000000) (hn : ad = none → m = 0) (N : Nat) (hN : q.length + m = N)
    (h : ∀ a' cp' w', OwnT w' B (.slice a' N cp') (q ++ l) → w.grownBy w' v.ownBlock → (∀ k, (Value.slice a' N cp').ownBlock = some k → v.ownBlock = some k ∨ w.heap.size ≤ k) → wpList Tryd.prog ops Q rest (a.put o.dst (.slice a' N cp')) w') : wpList Tryd.prog ops Q (o :: rest) a w :=
  wpList_step fun _ hK => step_append hgd s x ho hs hx hown hB hv hl hsm hn N hN (fun a' cp' w' o' g' l' => hK _ _ (h a' cp' w' o' g' l'))

/-! ### rows of numbers of one's own -/
def vi (l : List Int) : List Value := l.map (Value.int .i64)
theorem vi_one (l : List Int) : ∀ u ∈ vi l, u.oneCell' = true := by
  intro u hu
  obtain ⟨_, _, rfl⟩ := List.mem_map.1 hu
  rfl
theorem vi_at {l : List Int} {j : Nat} {u : Int} (h : l[j]? = some u) : (vi l)[j]? = some (.int .i64 u) := by simp [vi, h]
def OwnI (w : World) (e : TypeId) (B : Nat) (v : Value) (l : List Int) : Prop := w.ownsRow B e 1 v l.length (vi l)
theorem OwnI.nil (w : World) (e : TypeId) (B : Nat) : OwnI w e B (.slice none 0 0) [] := World.ownsRow_nil _ _ _ _
theorem OwnI.made (w : World) (e : TypeId) : OwnI (w.alloc (.cells #[] e)) e w.heap.size (.slice (some ⟨w.heap.size, 0, none⟩) 0 0) [] :=
  World.ownsRow_made (w := w) #[] 0 (Nat.le_refl _) (by decide) rfl
theorem OwnI.slice {w : World} {e : TypeId} {B : Nat} {v : Value} {l : List Int} (h : OwnI w e B v l) : ∃ a cap, v = .slice a l.length cap ∧ Ints w a l ∧ l.length ≤ cap ∧ (cap : Int) ≤ 9223372036854775807 := by
  rcases h.2 with ⟨rfl, h0⟩ | ⟨g, cap, cur, rfl, _, h3, h1, h2, h4, h5⟩
  · exact ⟨none, 0, by rw [h0], .inl (List.length_eq_zero_iff.1 h0), by omega, by omega⟩
  · refine ⟨_, cap, rfl, .inr ⟨g, 0, rfl, fun j u hj => ?_⟩, h1, by unfold maxLen at h2; omega⟩
    rw [Nat.zero_add, blk_cell h3]
    have := vi_at hj
    rw [← h5, List.getElem?_take] at this
    split at this
    · simpa using this
    · cases this
theorem OwnI.new {w : World} {e : TypeId} {B : Nat} {v : Value} {l : List Int} (h : OwnI w e B v l) {k : Nat} (hk : v.ownBlock = some k) : B ≤ k ∧ k < w.heap.size := World.ownsRow.lt h k hk
theorem OwnI.below {w w' : World} {e : TypeId} {B : Nat} {v : Value} {l : List Int} (h : OwnI w e B v l) (hb : Below w.heap.size w w') : OwnI w' e B v l := by
  rcases h with ⟨h0, h | ⟨g, cap, cur, rfl, hB, h3, r⟩⟩
  · exact ⟨h0, .inl h⟩
  · exact ⟨h0, .inr ⟨g, cap, cur, rfl, hB, kept_obj hb h3, r⟩⟩
theorem OwnI.low {w : World} {e : TypeId} {B B' : Nat} {v : Value} {l : List Int} (h : OwnI w e B v l) (hB : B' ≤ B) : OwnI w e B' v l := by
  rcases h with ⟨h0, h | ⟨g, cap, cur, rfl, hb, r⟩⟩
  · exact ⟨h0, .inl h⟩
  · exact ⟨h0, .inr ⟨g, cap, cur, rfl, by omega, r⟩⟩

/-- A slice type of numbers. -/
structure IsNum (t e : TypeId) : Prop where
  und : Tryd.prog.underlying t = some (.slice e)
  info : ∃ i, Tryd.prog.info? e = some i ∧ i.zero = some (.int .i64 0) ∧ i.size = 1 ∧ i.bytes = 8
theorem num_of {t e : TypeId} (h : Tryd.prog.underlying t = some (.slice e)) (h2 : (Tryd.prog.info? e).map (fun i => (i.zero, i.size, i.bytes)) = some (some (.int .i64 0), 1, 8)) : IsNum t e := by
  obtain ⟨i, h1, h2⟩ := Option.map_eq_some_iff.1 h2
  simp only [Prod.mk.injEq] at h2
  exact ⟨h, i, h1, h2.1, h2.2.1, h2.2.2⟩
theorem numL : IsNum 49 2 := num_of Tryd.underlying49 (by kernel_rfl)
theorem numI : IsNum 50 3 := num_of Tryd.underlying50 (by kernel_rfl)

theorem append_ints {w : World} {t e : TypeId} (ht : IsNum t e) {B m c : Nat} {v : Value} {q l : List Int} {ad : Option Addr} (h : OwnI w e B v q) (hB : B ≤ w.heap.size) (hv : Ints w ad l) (hl : l.length = m) (hs : (q.length + m : Int) ≤ 17592186044416) (hn : ad = none → m = 0) (ty : TypeId) :
    ∃ v' w', (Builtin.append_ #[t, t] ty #[v, .slice ad m c]).run Tryd.prog w = .ok v' w' ∧ OwnI w' e B v' (q ++ l) ∧ w.grownBy w' v.ownBlock ∧ ∀ k, v'.ownBlock = some k → v.ownBlock = some k ∨ w.heap.size ≤ k := by
  obtain ⟨i0, hi, hz0, hz1, hz2⟩ := ht.info
  cases ad with
  | none =>
    obtain rfl := hn rfl
    obtain rfl : l = [] := List.length_eq_zero_iff.1 hl
    refine ⟨v, w, ?_, by rw [List.append_nil]; exact h, ⟨rfl, rfl, rfl, Nat.le_refl _, fun _ _ _ => rfl⟩, fun k hk => .inl hk⟩
    rcases h.2 with ⟨rfl, h0⟩ | ⟨g, cap, cur, rfl, _, h3, h1, h2, h4, h5⟩
    · have hs := Src.ofNil (w := w) (size := i0.size) ht.und c
      simp [Builtin.append_, run_underlying ht.und, sizeOf, typeInfo, hi, hs.len, hs.cells]
    · have := run_append_room_src (P := Tryd.prog) (w := w) t t ty e i0 ht.und hi g 0 q.length cap (.slice none 0 c) 0 [] (Src.ofNil w ht.und c) (by omega) (fun j hj => absurd hj (Nat.not_lt_zero _)) (fun j hj => absurd hj (Nat.not_lt_zero _))
      simpa [World.setCells] using this
  | some x =>
    have hnews : ∀ j u, (vi l)[j]? = some u → w.cell? (x.add j) = some u := by
      intro j u hj
      rcases hv with rfl | ⟨g, o, e, hc⟩
      · simp [vi] at hj
      · cases e
        simp only [vi, List.getElem?_map, Option.map_eq_some_iff] at hj
        obtain ⟨y, hy, rfl⟩ := hj
        rw [addr_at]; exact hc j y hy
    obtain ⟨v', w', h1, h2, h3, _, h5⟩ := run_append_own_at (P := Tryd.prog) w B t ty e i0 _ 1 8 ht.und hi hz0 hz1 hz2 rfl (by decide) v q.length (vi q) h x m c (vi l) (by simp [vi, hl]) hnews (vi_one l) (by unfold maxLen; omega) (by omega) hB
    refine ⟨v', w', h1, ?_, h3, fun k hk => ?_⟩
    · unfold OwnI
      rw [List.length_append, hl]
      unfold vi at h2 ⊢
      rw [List.map_append]
      exact h2
    · rcases h5 with z | z
      · left; rw [← z]; exact hk
      · right; rw [z] at hk; cases hk; exact Nat.le_refl _

theorem step_ints {w : World} {t e : TypeId} (ht : IsNum t e) {ops : Array Oper} {o : Oper} {a : Act} {K : Act → World → Prop} {Q : Exit → Act → World → Prop} {E : Prop} (hgd : o.guard = none) (s x : Operand)
    (ho : o.op = .call { callee := .builtin .append, args := #[s, x], argTypes := #[t, t] }) {B m c : Nat} {v : Value} {q l : List Int} {ad : Option Addr} (hs : a.eval s = v) (hx : a.eval x = .slice ad m c)
    (hown : OwnI w e B v q) (hB : B ≤ w.heap.size) (hv : Ints w ad l) (hl : l.length = m) (hsm : (q.length + m : Int) ≤ 17592186044416) (hn : ad = none → m = 0) (N : Nat) (hN : q.length + m = N)
    (h : ∀ a' cp' w', OwnI w' e B (.slice a' N cp') (q ++ l) → w.grownBy w' v.ownBlock → (∀ k, (Value.slice a' N cp').ownBlock = some k → v.ownBlock = some k ∨ w.heap.size ≤ k) → K (a.put o.dst (.slice a' N cp')) w') :
    if Region.wanted o (yielded ops a.tmps) = true then Oper.wp Tryd.prog o a w K Q else E := by
  have hw : Region.wanted o (yielded ops a.tmps) = true := by simp [Region.wanted, hgd]
  rw [if_pos hw]
  obtain ⟨v', w', hr, h2, h3, h4⟩ := append_ints ht (c := c) hown hB hv hl hsm hn o.type
  obtain ⟨a', cp', hv', _⟩ := h2.slice
  rw [List.length_append, hl, hN] at hv'
  subst hv'
  unfold Oper.wp execOp
  simp only [ho, resolve, invoke, builtin, Sem.run_bind, Sem.run_pure, Result.andThen_ok, List.map_toArray, List.map_cons, List.map_nil, hs, hx, hr]
  exact h a' cp' w' h2 h3 h4
theorem wp_ints {t e : TypeId} (ht : IsNum t e) {ops : Array Oper} {rest : List Oper} {o : Oper} {a : Act} {Q : Exit → Act → World → Prop} {w : World} (hgd : o.guard = none) (s x : Operand)
    (ho : o.op = .call { callee := .builtin .append, args := #[s, x], argTypes := #[t, t] }) {B m c : Nat} {v : Value} {q l : List Int} {ad : Option Addr} (hs : a.eval s = v) (hx : a.eval x = .slice ad m c)
    (hown : OwnI w e B v q) (hB : B ≤ w.heap.size) (hv : Ints w ad l) (hl : l.length = m) (hsm : (q.length + m : Int) ≤ 17592186044416) (hn : ad = none → m = 0) (N : Nat) (hN : q.length + m = N)
    (h : ∀ a' cp' w', OwnI w' e B (.slice a' N cp') (q ++ l) → w.grownBy w' v.ownBlock → (∀ k, (Value.slice a' N cp').ownBlock = some k → v.ownBlock = some k ∨ w.heap.size ≤ k) → wpList Tryd.prog ops Q rest (a.put o.dst (.slice a' N cp')) w') : wpList Tryd.prog ops Q (o :: rest) a w :=
  wpList_step fun _ hK => step_ints ht hgd s x ho hs hx hown hB hv hl hsm hn N hN (fun a' cp' w' o' g' l' => hK _ _ (h a' cp' w' o' g' l'))
theorem ints_new (w : World) (x : Int) (T : TypeId) : Ints (w.alloc (.cells #[.int .i64 x] T)) (some ⟨w.heap.size, 0, none⟩) [x] :=
  .inr ⟨_, 0, rfl, fun j u hj => by
    match j, hj with
    | 0, hj => simp at hj; subst hj; rw [World.cell?_alloc_new]; rfl
    | j + 1, hj => simp at hj⟩
theorem at_new (w : World) (x : TV) (T : TypeId) : At (w.alloc (.cells #[.int .i64 x.id, .int .i64 x.c, .int .i64 x.d, .int .i64 x.t, .int .i64 x.p, .slice x.a1 x.ch.length x.c1, .slice x.a2 x.us.length x.c2] T)) w.heap.size 0 x :=
  ⟨by rw [World.cell?_alloc_new]; rfl, by rw [World.cell?_alloc_new]; rfl, by rw [World.cell?_alloc_new]; rfl, by rw [World.cell?_alloc_new]; rfl, by rw [World.cell?_alloc_new]; rfl, by rw [World.cell?_alloc_new]; rfl, by rw [World.cell?_alloc_new]; rfl⟩
end Go.Proofs.YtlpffgmfgkleiaaDoor

/-
  The walks over whether rows of numbers, and tasks, are the same.
-/
namespace Go.Proofs.YtlpffgmfgkleiaaDoor
open Go.RowKit Go.Maps

theorem bw_alloc {W w : World} (h : Below W.heap.size W w) (o : Obj) : Below W.heap.size W (w.alloc o) := h.alloc h.size o
theorem bw_drew {W w : World} (h : Below W.heap.size W w) : Below W.heap.size W w.drew := h.drew

theorem same_step {l m : List Int} {k : Nat} {x y : Int} (h : l.take k = m.take k) (hx : l[k]? = some x) (hy : m[k]? = some y) (e : x = y) : l.take (k + 1) = m.take (k + 1) := by
  rw [List.take_add_one, List.take_add_one, h, hx, hy, e]
theorem same_end {l m : List Int} {k : Nat} (h : l.take k = m.take k) (hl : l.length = k) (hm : m.length = k) : l = m := by
  rwa [List.take_of_length_le (by omega), List.take_of_length_le (by omega)] at h
theorem same_not {l m : List Int} {k : Nat} {x y : Int} (hx : l[k]? = some x) (hy : m[k]? = some y) (e : ¬ x = y) : ¬ l = m := by
  rintro rfl; rw [hx] at hy; cases hy; exact e rfl

end Go.Proofs.YtlpffgmfgkleiaaDoor

/-
  The walks over whether two tasks are the same.
-/
namespace Go.Proofs.YtlpffgmfgkleiaaDoor
open Go.RowKit Go.Maps

theorem new_first (w : World) (cs : Array Value) (T : TypeId) (o : Obj) (i : Nat) : ((w.alloc (.cells cs T)).alloc o).cell? ⟨w.heap.size, i, none⟩ = cs[i]? := by
  rw [World.cell?_alloc_lt _ _ _ (by simp), World.cell?_alloc_new]
theorem new_second (w : World) (cs : Array Value) (T : TypeId) (o : Obj) (i : Nat) : ((w.alloc o).alloc (.cells cs T)).cell? ⟨w.heap.size + 1, i, none⟩ = cs[i]? := by
  have := World.cell?_alloc_new (w.alloc o) cs T i
  rwa [World.size_alloc] at this
theorem tk_eq (x y : TV) : x.tk = y.tk ↔ x.id = y.id ∧ x.c = y.c ∧ x.d = y.d ∧ x.t = y.t ∧ x.p = y.p ∧ x.ch = y.ch ∧ x.us = y.us := by
  simp [TV.tk]

end Go.Proofs.YtlpffgmfgkleiaaDoor

/-
  The walks over whether two tasks are the same, by the document's own words.
-/
namespace Go.Proofs.YtlpffgmfgkleiaaDoor
open Go.RowKit Go.Maps

/-- Two tasks in boxes of their own. -/
structure Boxes (w : World) (a1 : Option Addr) (n1 c1 : Nat) (a2 : Option Addr) (n2 c2 : Nat) (b1 : Option Addr) (m1 e1 : Nat) (b2 : Option Addr) (m2 e2 : Nat) (v : World) : Prop where
  low : Below w.heap.size w v
  x5 : v.cell? ⟨w.heap.size, 5, none⟩ = some (.slice a1 n1 c1)
  x6 : v.cell? ⟨w.heap.size, 6, none⟩ = some (.slice a2 n2 c2)
  y5 : v.cell? ⟨w.heap.size + 1, 5, none⟩ = some (.slice b1 m1 e1)
  y6 : v.cell? ⟨w.heap.size + 1, 6, none⟩ = some (.slice b2 m2 e2)
theorem Boxes.below {w v v' : World} {a1 a2 b1 b2 : Option Addr} {n1 c1 n2 c2 m1 e1 m2 e2 : Nat} (h : Boxes w a1 n1 c1 a2 n2 c2 b1 m1 e1 b2 m2 e2 v) (hb : Below v.heap.size v v') : Boxes w a1 n1 c1 a2 n2 c2 b1 m1 e1 b2 m2 e2 v' :=
  ⟨below_up h.low hb, kept_cell hb h.x5, kept_cell hb h.x6, kept_cell hb h.y5, kept_cell hb h.y6⟩
theorem boxes_new {w : World} {i0 i1 i2 i3 i4 j0 j1 j2 j3 j4 : Value} {a1 a2 b1 b2 : Option Addr} {n1 c1 n2 c2 m1 e1 m2 e2 : Nat} {T T' : TypeId} :
    Boxes w a1 n1 c1 a2 n2 c2 b1 m1 e1 b2 m2 e2 ((w.alloc (.cells #[i0, i1, i2, i3, i4, .slice a1 n1 c1, .slice a2 n2 c2] T)).alloc (.cells #[j0, j1, j2, j3, j4, .slice b1 m1 e1, .slice b2 m2 e2] T')) :=
  ⟨(by repeat (first | exact Below.refl _ _ | (with_reducible assumption) | refine bw_alloc ?_ _ | refine bw_drew ?_)), (new_first w _ _ _ 5).trans rfl, (new_first w _ _ _ 6).trans rfl, (new_second w _ _ _ 5).trans rfl, (new_second w _ _ _ 6).trans rfl⟩

set_option maxRecDepth 100000 in
set_option maxHeartbeats 8000000 in
theorem rsame_task (x y : TV) (w : World) (hx : x.ok w) (hy : y.ok w) : Calls Tryd.prog 47 #[x.val, y.val] w fun e w' => e = .returned (.bool (decide (x.tk = y.tk))) ∧ Below w.heap.size w w' := by
  obtain ⟨id, c, d, t, p, a1, ch, c1, a2, us, c2⟩ := x
  obtain ⟨id', c', d', t', p', a1', ch', c1', a2', us', c2'⟩ := y
  obtain ⟨i1, i2, l1, m1, l2, m2⟩ := hx
  obtain ⟨j1, j2, k1, n1, k2, n2⟩ := hy
  simp only at i1 i2 l1 m1 l2 m2 j1 j2 k1 n1 k2 n2
  unfold TV.val
  simp only []
  by_cases h0 : id = id'
  rotate_left
  · have hq : ¬ ((TV.mk id c d t p a1 ch c1 a2 us c2).tk = (TV.mk id' c' d' t' p' a1' ch' c1' a2' us' c2').tk) := fun z => h0 ((tk_eq _ _).1 z).1
    rw [decide_eq_false hq]
    clear hq i1 i2 j1 j2
    have d1 : (id == id') = false := by rw [beq_eq_false_iff_ne]; exact h0
    have d2 : (id != id') = true := by rw [bne, d1]; rfl
    go_enter Tryd.func47, Tryd.ntmps47
    go_wp2
    go_ret
    exact ⟨rfl, (by repeat (first | exact Below.refl _ _ | (with_reducible assumption) | refine bw_alloc ?_ _ | refine bw_drew ?_))⟩
  subst h0
  by_cases h1 : c = c'
  rotate_left
  · have hq : ¬ ((TV.mk id c d t p a1 ch c1 a2 us c2).tk = (TV.mk id c' d' t' p' a1' ch' c1' a2' us' c2').tk) := fun z => h1 ((tk_eq _ _).1 z).2.1
    rw [decide_eq_false hq]
    clear hq i1 i2 j1 j2
    have d1 : (c == c') = false := by rw [beq_eq_false_iff_ne]; exact h1
    have d2 : (c != c') = true := by rw [bne, d1]; rfl
    go_enter Tryd.func47, Tryd.ntmps47
    go_wp2
    go_ret
    exact ⟨rfl, (by repeat (first | exact Below.refl _ _ | (with_reducible assumption) | refine bw_alloc ?_ _ | refine bw_drew ?_))⟩
  subst h1
  by_cases h2 : d = d'
  rotate_left
  · have hq : ¬ ((TV.mk id c d t p a1 ch c1 a2 us c2).tk = (TV.mk id c d' t' p' a1' ch' c1' a2' us' c2').tk) := fun z => h2 ((tk_eq _ _).1 z).2.2.1
    rw [decide_eq_false hq]
    clear hq i1 i2 j1 j2
    have d1 : (d == d') = false := by rw [beq_eq_false_iff_ne]; exact h2
    have d2 : (d != d') = true := by rw [bne, d1]; rfl
    go_enter Tryd.func47, Tryd.ntmps47
    go_wp2
    go_ret
    exact ⟨rfl, (by repeat (first | exact Below.refl _ _ | (with_reducible assumption) | refine bw_alloc ?_ _ | refine bw_drew ?_))⟩
  subst h2
  by_cases h3 : t = t'
  rotate_left
  · have hq : ¬ ((TV.mk id c d t p a1 ch c1 a2 us c2).tk = (TV.mk id c d t' p' a1' ch' c1' a2' us' c2').tk) := fun z => h3 ((tk_eq _ _).1 z).2.2.2.1
    rw [decide_eq_false hq]
    clear hq i1 i2 j1 j2
    have d1 : (t == t') = false := by rw [beq_eq_false_iff_ne]; exact h3
    have d2 : (t != t') = true := by rw [bne, d1]; rfl
    go_enter Tryd.func47, Tryd.ntmps47
    go_wp2
    go_ret
    exact ⟨rfl, (by repeat (first | exact Below.refl _ _ | (with_reducible assumption) | refine bw_alloc ?_ _ | refine bw_drew ?_))⟩
  subst h3
  by_cases h4 : p = p'
  rotate_left
  · have hq : ¬ ((TV.mk id c d t p a1 ch c1 a2 us c2).tk = (TV.mk id c d t p' a1' ch' c1' a2' us' c2').tk) := fun z => h4 ((tk_eq _ _).1 z).2.2.2.2.1
    rw [decide_eq_false hq]
    clear hq i1 i2 j1 j2
    have d1 : (p == p') = false := by rw [beq_eq_false_iff_ne]; exact h4
    have d2 : (p != p') = true := by rw [bne, d1]; rfl
    go_enter Tryd.func47, Tryd.ntmps47
    go_wp2
    go_ret
    exact ⟨rfl, (by repeat (first | exact Below.refl _ _ | (with_reducible assumption) | refine bw_alloc ?_ _ | refine bw_drew ?_))⟩
  subst h4
  by_cases h5 : ch.length = ch'.length
  rotate_left
  · have hq : ¬ ((TV.mk id c d t p a1 ch c1 a2 us c2).tk = (TV.mk id c d t p a1' ch' c1' a2' us' c2').tk) := fun z => h5 (congrArg List.length ((tk_eq _ _).1 z).2.2.2.2.2.1)
    rw [decide_eq_false hq]
    clear hq i1 i2 j1 j2
    have d1 : ((ch.length : Int) == (ch'.length : Int)) = false := by rw [beq_eq_false_iff_ne]; omega
    have d2 : ((ch.length : Int) != (ch'.length : Int)) = true := by rw [bne, d1]; rfl
    go_enter Tryd.func47, Tryd.ntmps47
    go_wp2
    go_ret
    exact ⟨rfl, (by repeat (first | exact Below.refl _ _ | (with_reducible assumption) | refine bw_alloc ?_ _ | refine bw_drew ?_))⟩
  by_cases h6 : us.length = us'.length
  rotate_left
  · have hq : ¬ ((TV.mk id c d t p a1 ch c1 a2 us c2).tk = (TV.mk id c d t p a1' ch' c1' a2' us' c2').tk) := fun z => h6 (congrArg List.length ((tk_eq _ _).1 z).2.2.2.2.2.2)
    rw [decide_eq_false hq]
    clear hq i1 i2 j1 j2
    have d1 : ((us.length : Int) == (us'.length : Int)) = false := by rw [beq_eq_false_iff_ne]; omega
    have d2 : ((us.length : Int) != (us'.length : Int)) = true := by rw [bne, d1]; rfl
    go_enter Tryd.func47, Tryd.ntmps47
    go_wp2
    go_ret
    exact ⟨rfl, (by repeat (first | exact Below.refl _ _ | (with_reducible assumption) | refine bw_alloc ?_ _ | refine bw_drew ?_))⟩
  have hq : ((TV.mk id c d t p a1 ch c1 a2 us c2).tk = (TV.mk id c d t p a1' ch' c1' a2' us' c2').tk) ↔ ch = ch' ∧ us = us' := by
    simp [tk_eq]
  have HQ : Hid (decide ((TV.mk id c d t p a1 ch c1 a2 us c2).tk = (TV.mk id c d t p a1' ch' c1' a2' us' c2').tk) = decide (ch = ch' ∧ us = us')) := by
    show _ = _
    rw [decide_eq_decide]; exact hq
  clear hq
  obtain ⟨n, hn⟩ : ∃ n, ch.length = n := ⟨_, rfl⟩
  obtain ⟨m, hm⟩ : ∃ m, us.length = m := ⟨_, rfl⟩
  have HL := Lib.hid hn
  have HR := Lib.hid (h5.symm.trans hn)
  have HM := Lib.hid hm
  have HK := Lib.hid (h6.symm.trans hm)
  rw [HR.out, HK.out, hn, hm]
  rw [hn] at l1
  rw [hm] at l2
  have hn9 : (n : Int) ≤ 9223372036854775807 := by omega
  have hm9 : (m : Int) ≤ 9223372036854775807 := by omega
  have I1 := Lib.hid i1
  have I2 := Lib.hid i2
  have J1 := Lib.hid j1
  have J2 := Lib.hid j2
  clear i1 i2 j1 j2 l1 m1 l2 m2 k1 n1 k2 n2 hn hm h5 h6
  go_enter Tryd.func47, Tryd.ntmps47
  go_wp2
  refine gen_world (Boxes w a1 n c1 a2 m c2 a1' n c1' a2' m c2') boxes_new ?_
  intro W1 hw1
  have H1 := Lib.hid hw1
  clear hw1
  go_loopw [5] (fun u wr => ∃ k : Nat, k ≤ n ∧ u = .int .i64 k ∧ Hid (ch.take k = ch'.take k) ∧ Hid (Boxes w a1 n c1 a2 m c2 a1' n c1' a2' m c2' wr)) (fun u _ => (n - intOf u).toNat)
  case atStart => exact ⟨0, by omega, rfl, by show _ = _; simp, H1⟩
  case round =>
    obtain ⟨k, hk, rfl, HS, HP⟩ := hrel
    obtain ⟨_, x5, x6, y5, y6⟩ := HP.out
    by_cases hlt : k < n
    · obtain ⟨x, hx⟩ := nth_of HL.out hlt
      obtain ⟨y, hy⟩ := nth_of HR.out hlt
      obtain ⟨g, o, rfl, c0⟩ := (I1.out.below HP.out.low).at_ hx
      obtain ⟨g2, o2, rfl, d0⟩ := (J1.out.below HP.out.low).at_ hy
      have hk1 : (k : Int) < (n : Int) := by omega
      have hk0 : (0 : Int) ≤ (k : Int) := by omega
      by_cases hxy : x = y
      · have HS2 := Lib.hid (same_step HS.out hx hy hxy)
        subst hxy
        clear hx hy HS
        go_upto_region 6 with (fail)
        go_quiet (fail)
        go_wp2
        go_roundw
        case rel => exact ⟨k + 1, by omega, by go_num, HS2, HP.out.below (below_same (Below.refl _ _) rfl rfl rfl rfl)⟩
        case measure => simp [intOf]; omega
      · have HN := Lib.hid (same_not hx hy hxy)
        have d1 : (x == y) = false := by rw [beq_eq_false_iff_ne]; exact hxy
        have d2 : (x != y) = true := by rw [bne, d1]; rfl
        clear hx hy HS hxy
        go_upto_region 6 with (fail)
        go_quiet (fail)
        go_wp2
        go_ret
        rw [HQ.out, decide_eq_false (fun z => HN.out z.1)]
        exact ⟨rfl, below_same HP.out.low rfl rfl rfl rfl⟩
    · obtain rfl : n = k := by omega
      have HE := Lib.hid (same_end HS.out HL.out HR.out)
      have HP0 := HP
      go_wp2
      clear HP H1 x5 x6 y5 y6
      go_loopw [6] (fun u wr => ∃ k : Nat, k ≤ m ∧ u = .int .i64 k ∧ Hid (us.take k = us'.take k) ∧ Hid (Boxes w a1 n c1 a2 m c2 a1' n c1' a2' m c2' wr)) (fun u _ => (m - intOf u).toNat)
      case atStart => exact ⟨0, by omega, rfl, by show _ = _; simp, HP0⟩
      case round =>
        obtain ⟨k, hk, rfl, HS, HP⟩ := hrel
        obtain ⟨_, x5, x6, y5, y6⟩ := HP.out
        by_cases hlt : k < m
        · obtain ⟨x, hx⟩ := nth_of HM.out hlt
          obtain ⟨y, hy⟩ := nth_of HK.out hlt
          obtain ⟨g, o, rfl, c0⟩ := (I2.out.below HP.out.low).at_ hx
          obtain ⟨g2, o2, rfl, d0⟩ := (J2.out.below HP.out.low).at_ hy
          have hk1 : (k : Int) < (m : Int) := by omega
          have hk0 : (0 : Int) ≤ (k : Int) := by omega
          by_cases hxy : x = y
          · have HS2 := Lib.hid (same_step HS.out hx hy hxy)
            subst hxy
            clear hx hy HS
            go_upto_region 11 with (fail)
            go_quiet (fail)
            go_wp2
            go_roundw
            case rel => exact ⟨k + 1, by omega, by go_num, HS2, HP.out.below (below_same (Below.refl _ _) rfl rfl rfl rfl)⟩
            case measure => simp [intOf]; omega
          · have HN := Lib.hid (same_not hx hy hxy)
            have d1 : (x == y) = false := by rw [beq_eq_false_iff_ne]; exact hxy
            have d2 : (x != y) = true := by rw [bne, d1]; rfl
            clear hx hy HS hxy
            go_upto_region 11 with (fail)
            go_quiet (fail)
            go_wp2
            go_ret
            rw [HQ.out, decide_eq_false (fun z => HN.out z.2)]
            exact ⟨rfl, below_same HP.out.low rfl rfl rfl rfl⟩
        · obtain rfl : k = m := by omega
          have HE2 := Lib.hid (same_end HS.out HM.out HK.out)
          go_wp2
          go_ret
          rw [HQ.out, decide_eq_true ⟨HE.out, HE2.out⟩]
          exact ⟨rfl, HP.out.low⟩
end Go.Proofs.YtlpffgmfgkleiaaDoor

/-
  What rows of numbers, words and rows of words hold, in a world and in later ones.
-/
namespace Go.Proofs.YtlpffgmfgkleiaaDoor
open Go.RowKit Go.Maps

theorem l_i64_of_wf {x : Int} (h : (Lit.int .i64 x).wf = true) : I64 x := by
  simp [Lit.wf, IntKind.min, IntKind.max, IntKind.signed, IntKind.bits] at h
  unfold I64; omega

/-! ### words -/
/-- A word: where it begins, on which line, what it is. -/
structure WV where
  at_ : Int
  ln : Int
  tx : ByteArray
deriving DecidableEq
def WV.cells (x : WV) : List Value := [.int .i64 x.at_, .int .i64 x.ln, .string x.tx]
def WV.val (x : WV) : Value := .agg #[.int .i64 x.at_, .int .i64 x.ln, .string x.tx]
/-- The cells of a row of words. -/
def wflat : List WV → List Value
  | [] => []
  | x :: l => x.cells ++ wflat l
theorem wcells_len (x : WV) : x.cells.length = 3 := rfl
theorem wflat_len : ∀ l : List WV, (wflat l).length = l.length * 3
  | [] => rfl
  | x :: l => by simp [wflat, wflat_len l, wcells_len]; omega
theorem wflat_append : ∀ l m : List WV, wflat (l ++ m) = wflat l ++ wflat m
  | [], _ => rfl
  | x :: l, m => by simp [wflat, wflat_append l m]
theorem wflat_at : ∀ (l : List WV) (k : Nat) (x : WV), l[k]? = some x → ∀ i, i < 3 → (wflat l)[k * 3 + i]? = x.cells[i]?
  | [], k, x, h => by simp at h
  | y :: l, 0, x, h => by
    simp at h; subst h
    intro i hi
    rw [Nat.zero_mul, Nat.zero_add, wflat, List.getElem?_append_left (by rw [wcells_len]; exact hi)]
  | y :: l, k + 1, x, h => by
    intro i hi
    have := wflat_at l k x (by simpa using h) i hi
    rw [show (k + 1) * 3 + i = 3 + (k * 3 + i) by omega, wflat, List.getElem?_append_right (by rw [wcells_len]; omega), wcells_len, ← this]
    congr 1; omega
theorem wflat_one : ∀ (l : List WV), ∀ u ∈ wflat l, u.oneCell' = true
  | [], u, h => by simp [wflat] at h
  | x :: l, u, h => by
    rcases List.mem_append.1 h with h | h
    · simp [WV.cells] at h
      rcases h with rfl | rfl | rfl <;> rfl
    · exact wflat_one l u h
theorem wflat_drop : ∀ (k : Nat) (l : List WV), wflat (l.drop k) = (wflat l).drop (k * 3)
  | 0, l => by simp
  | k + 1, [] => by simp [wflat]
  | k + 1, x :: l => by
    rw [List.drop_succ_cons, wflat_drop k l, wflat, List.drop_append, show (k + 1) * 3 = 3 + k * 3 by omega]
    simp [wcells_len]
theorem wflat_take : ∀ (k : Nat) (l : List WV), wflat (l.take k) = (wflat l).take (k * 3)
  | 0, l => by simp [wflat]
  | k + 1, [] => by simp [wflat]
  | k + 1, x :: l => by
    rw [List.take_succ_cons, wflat, wflat, wflat_take k l, List.take_append, show (k + 1) * 3 = 3 + k * 3 by omega]
    simp [wcells_len]
    rw [List.take_of_length_le (by rw [wcells_len]; omega)]

/-- The cells of one word, from a place on. -/
structure WAt (w : World) (g o : Nat) (x : WV) : Prop where
  c0 : w.cell? ⟨g, o, none⟩ = some (.int .i64 x.at_)
  c1 : w.cell? ⟨g, o + 1, none⟩ = some (.int .i64 x.ln)
  c2 : w.cell? ⟨g, o + 2, none⟩ = some (.string x.tx)
theorem WAt.below {w w' : World} {g o : Nat} {x : WV} (h : WAt w g o x) (hb : Below w.heap.size w w') : WAt w' g o x :=
  ⟨kept_cell hb h.c0, kept_cell hb h.c1, kept_cell hb h.c2⟩
/-- A row of words that can be read. -/
def WView (w : World) (a : Option Addr) (l : List WV) : Prop :=
  l = [] ∨ ∃ g o, a = some ⟨g, o, none⟩ ∧ ∀ j u, (wflat l)[j]? = some u → w.cell? ⟨g, o + j, none⟩ = some u
theorem WView.nil {w : World} {a : Option Addr} : WView w a [] := .inl rfl
theorem WView.at_ {w : World} {a : Option Addr} {l : List WV} (h : WView w a l) {k : Nat} {x : WV} (hx : l[k]? = some x) : ∃ g o, a = some ⟨g, o, none⟩ ∧ WAt w g (o + k * 3) x := by
  rcases h with rfl | ⟨g, o, rfl, hc⟩
  · simp at hx
  · have f := wflat_at l k x hx
    refine ⟨g, o, rfl, ⟨?_, ?_, ?_⟩⟩
    · exact hc _ _ (f 0 (by omega))
    · exact hc _ _ (f 1 (by omega))
    · exact hc _ _ (f 2 (by omega))
theorem WView.below {w w' : World} {a : Option Addr} {l : List WV} (h : WView w a l) (hb : Below w.heap.size w w') : WView w' a l := by
  rcases h with rfl | ⟨g, o, rfl, hc⟩
  · exact .inl rfl
  · exact .inr ⟨g, o, rfl, fun j u hj => kept_cell hb (hc j u hj)⟩
theorem WView.drop {w : World} {g o : Nat} {l : List WV} (h : WView w (some ⟨g, o, none⟩) l) (k : Nat) : WView w (some ⟨g, o + k * 3, none⟩) (l.drop k) := by
  rcases h with rfl | ⟨g', o', e, hc⟩
  · left; simp
  · cases e
    refine .inr ⟨_, _, rfl, fun j u hj => ?_⟩
    rw [wflat_drop, List.getElem?_drop] at hj
    rw [Nat.add_assoc]
    exact hc _ u hj
theorem WView.take {w : World} {a : Option Addr} {l : List WV} (h : WView w a l) (k : Nat) : WView w a (l.take k) := by
  rcases h with rfl | ⟨g, o, rfl, hc⟩
  · left; simp
  · refine .inr ⟨g, o, rfl, fun j u hj => ?_⟩
    rw [wflat_take, List.getElem?_take] at hj
    split at hj
    · exact hc j u hj
    · cases hj
theorem WView.of_at {w : World} {g o : Nat} {x : WV} (h : WAt w g o x) : WView w (some ⟨g, o, none⟩) [x] := by
  refine .inr ⟨g, o, rfl, fun j u hj => ?_⟩
  simp only [wflat, List.append_nil, WV.cells] at hj
  match j, hj with
  | 0, hj => simp at hj; subst hj; exact h.c0
  | 1, hj => simp at hj; subst hj; exact h.c1
  | 2, hj => simp at hj; subst hj; exact h.c2
  | j + 3, hj => simp at hj
/-- A slice of words that can be read. -/
structure Words (w : World) (a : Option Addr) (n cap : Nat) (L : List WV) : Prop where
  len : L.length = n
  view : WView w a L
  le : n ≤ cap
  small : (cap : Int) ≤ 9223372036854775807
theorem Words.below {w w' : World} {a : Option Addr} {n cap : Nat} {L : List WV} (h : Words w a n cap L) (hb : Below w.heap.size w w') : Words w' a n cap L := ⟨h.len, h.view.below hb, h.le, h.small⟩
abbrev WT : TypeId := 68
def OwnW (w : World) (B : Nat) (v : Value) (l : List WV) : Prop := w.ownsRow B WT 3 v l.length (wflat l)
theorem OwnW.nil (w : World) (B : Nat) : OwnW w B (.slice none 0 0) [] := World.ownsRow_nil _ _ _ _
theorem OwnW.made (w : World) : OwnW (w.alloc (.cells #[] WT)) w.heap.size (.slice (some ⟨w.heap.size, 0, none⟩) 0 0) [] :=
  World.ownsRow_made (w := w) #[] 0 (Nat.le_refl _) (by decide) rfl
theorem OwnW.low {w : World} {B B' : Nat} {v : Value} {l : List WV} (h : OwnW w B v l) (hB : B' ≤ B) : OwnW w B' v l := by
  rcases h with ⟨h0, h | ⟨g, cap, cur, rfl, hb, r⟩⟩
  · exact ⟨h0, .inl h⟩
  · exact ⟨h0, .inr ⟨g, cap, cur, rfl, by omega, r⟩⟩
theorem OwnW.slice {w : World} {B : Nat} {v : Value} {l : List WV} (h : OwnW w B v l) : ∃ a cap, v = .slice a l.length cap ∧ WView w a l ∧ l.length ≤ cap ∧ (cap : Int) ≤ 9223372036854775807 := by
  rcases h.2 with ⟨rfl, h0⟩ | ⟨g, cap, cur, rfl, _, h3, h1, h2, h4, h5⟩
  · exact ⟨none, 0, by rw [h0], .inl (List.length_eq_zero_iff.1 h0), by omega, by omega⟩
  · refine ⟨_, cap, rfl, .inr ⟨g, 0, rfl, fun j u hj => ?_⟩, h1, by unfold maxLen at h2; omega⟩
    rw [Nat.zero_add, blk_cell h3]
    rw [← h5] at hj
    rw [List.getElem?_take] at hj
    split at hj
    · simpa using hj
    · cases hj
theorem OwnW.words {w : World} {B : Nat} {a : Option Addr} {n cap : Nat} {l : List WV} (h : OwnW w B (.slice a n cap) l) : Words w a n cap l := by
  obtain ⟨a', cap', e, hv, hl, hm⟩ := h.slice
  cases e
  exact ⟨rfl, hv, hl, hm⟩
theorem OwnW.new {w : World} {B : Nat} {v : Value} {l : List WV} (h : OwnW w B v l) {k : Nat} (hk : v.ownBlock = some k) : B ≤ k ∧ k < w.heap.size := World.ownsRow.lt h k hk
theorem OwnW.below {w w' : World} {B : Nat} {v : Value} {l : List WV} (h : OwnW w B v l) (hb : Below w.heap.size w w') : OwnW w' B v l := by
  rcases h with ⟨h0, h | ⟨g, cap, cur, rfl, hB, h3, r⟩⟩
  · exact ⟨h0, .inl h⟩
  · exact ⟨h0, .inr ⟨g, cap, cur, rfl, hB, kept_obj hb h3, r⟩⟩
theorem OwnW.none_len {w : World} {B n c : Nat} {l : List WV} (h : OwnW w B (.slice none n c) l) : n = 0 := by
  rcases h.2 with ⟨h1, h0⟩ | ⟨g, cap, cur, h1, _⟩
  · cases h1; rfl
  · cases h1

theorem infoWord : (Tryd.prog.info? WT).map (fun i => (i.zero, i.size, i.bytes)) = some (some (.agg #[.int .i64 0, .int .i64 0, .string ⟨#[]⟩]), 3, 32) := by kernel_rfl
theorem zeroWord (w : World) : (zeroValue WT).run Tryd.prog w = .ok (.agg #[.int .i64 0, .int .i64 0, .string ⟨#[]⟩]) w := by kernel_rfl
theorem winfoParts : ∃ i, Tryd.prog.info? WT = some i ∧ i.zero = some (.agg #[.int .i64 0, .int .i64 0, .string ⟨#[]⟩]) ∧ i.size = 3 ∧ i.bytes = 32 := by
  obtain ⟨i, h1, h2⟩ := Option.map_eq_some_iff.1 infoWord
  simp only [Prod.mk.injEq] at h2
  exact ⟨i, h1, h2.1, h2.2.1, h2.2.2⟩

/-- A row that was appended to: what it holds, where it lies. -/
theorem append_wview {w : World} {B m c : Nat} {v : Value} {q l : List WV} {ad : Option Addr} (h : OwnW w B v q) (hB : B ≤ w.heap.size) (hv : WView w ad l) (hl : l.length = m) (hs : q.length + m ≤ 1000000) (hn : ad = none → m = 0) (ty : TypeId) :
    ∃ v' w', (Builtin.append_ #[66, 66] ty #[v, .slice ad m c]).run Tryd.prog w = .ok v' w' ∧ OwnW w' B v' (q ++ l) ∧ w.grownBy w' v.ownBlock ∧ ∀ k, v'.ownBlock = some k → v.ownBlock = some k ∨ w.heap.size ≤ k := by
  obtain ⟨i0, hi, hz0, hz1, hz2⟩ := winfoParts
  cases ad with
  | none =>
    obtain rfl := hn rfl
    obtain rfl : l = [] := List.length_eq_zero_iff.1 hl
    refine ⟨v, w, ?_, by rw [List.append_nil]; exact h, ⟨rfl, rfl, rfl, Nat.le_refl _, fun _ _ _ => rfl⟩, fun k hk => .inl hk⟩
    rcases h.2 with ⟨rfl, h0⟩ | ⟨g, cap, cur, rfl, _, h3, h1, h2, h4, h5⟩
    · have hs := Src.ofNil (w := w) (size := i0.size) Tryd.underlying66 c
      simp [Builtin.append_, run_underlying Tryd.underlying66, sizeOf, typeInfo, hi, hs.len, hs.cells]
    · have := run_append_room_src (P := Tryd.prog) (w := w) 66 66 ty WT i0 Tryd.underlying66 hi g 0 q.length cap (.slice none 0 c) 0 [] (Src.ofNil w Tryd.underlying66 c) (by omega) (fun j hj => absurd hj (Nat.not_lt_zero _)) (fun j hj => absurd hj (Nat.not_lt_zero _))
      simpa [World.setCells] using this
  | some x =>
    have hnews : ∀ j u, (wflat l)[j]? = some u → w.cell? (x.add j) = some u := by
      intro j u hj
      rcases hv with rfl | ⟨g, o, e, hc⟩
      · simp [wflat] at hj
      · cases e
        rw [addr_at]; exact hc j u hj
    obtain ⟨v', w', h1, h2, h3, _, h5⟩ := run_append_own_at (P := Tryd.prog) w B 66 ty WT i0 _ 3 32 Tryd.underlying66 hi hz0 hz1 hz2 rfl (by decide) v q.length (wflat q) h x m c (wflat l) (by rw [wflat_len, hl]) hnews (wflat_one l) (by unfold maxLen; omega) (by omega) hB
    refine ⟨v', w', h1, ?_, h3, fun k hk => ?_⟩
    · unfold OwnW
      rw [List.length_append, wflat_append, hl]
      exact h2
    · rcases h5 with z | z
      · left; rw [← z]; exact hk
      · right; rw [z] at hk; cases hk; exact Nat.le_refl _

theorem step_wappend {w : World} {ops : Array Oper} {o : Oper} {a : Act} {K : Act → World → Prop} {Q : Exit → Act → World → Prop} {E : Prop} (hgd : o.guard = none) (s x : Operand)
    (ho : o.op = .call { callee := .builtin .append, args := #[s, x], argTypes := #[66, 66] }) {B m c : Nat} {v : Value} {q l : List WV} {ad : Option Addr} (hs : a.eval s = v) (hx : a.eval x = .slice ad m c)
    (hown : OwnW w B v q) (hB : B ≤ w.heap.size) (hv : WView w ad l) (hl : l.length = m) (hsm : q.length + m ≤ 1000000) (hn : ad = none → m = 0) (N : Nat) (hN : q.length + m = N)
    (h : ∀ a' cp' w', OwnW w' B (.slice a' N cp') (q ++ l) → w.grownBy w' v.ownBlock → (∀ k, (Value.slice a' N cp').ownBlock = some k → v.ownBlock = some k ∨ w.heap.size ≤ k) → K (a.put o.dst (.slice a' N cp')) w') :
    if Region.wanted o (yielded ops a.tmps) = true then Oper.wp Tryd.prog o a w K Q else E := by
  have hw : Region.wanted o (yielded ops a.tmps) = true := by simp [Region.wanted, hgd]
  rw [if_pos hw]
  obtain ⟨v', w', hr, h2, h3, h4⟩ := append_wview (c := c) hown hB hv hl hsm hn o.type
  obtain ⟨a', cp', hv', _⟩ := h2.slice
  rw [List.length_append, hl, hN] at hv'
  subst hv'
  unfold Oper.wp execOp
  simp only [ho, resolve, invoke, builtin, Sem.run_bind, Sem.run_pure, Result.andThen_ok, List.map_toArray, List.map_cons, List.map_nil, hs, hx, hr]
  exact h a' cp' w' h2 h3 h4
theorem wp_wappend {ops : Array Oper} {rest : List Oper} {o : Oper} {a : Act} {Q : Exit → Act → World → Prop} {w : World} (hgd : o.guard = none) (s x : Operand)
    (ho : o.op = .call { callee := .builtin .append, args := #[s, x], argTypes := #[66, 66] }) {B m c : Nat} {v : Value} {q l : List WV} {ad : Option Addr} (hs : a.eval s = v) (hx : a.eval x = .slice ad m c)
    (hown : OwnW w B v q) (hB : B ≤ w.heap.size) (hv : WView w ad l) (hl : l.length = m) (hsm : q.length + m ≤ 1000000) (hn : ad = none → m = 0) (N : Nat) (hN : q.length + m = N)
    (h : ∀ a' cp' w', OwnW w' B (.slice a' N cp') (q ++ l) → w.grownBy w' v.ownBlock → (∀ k, (Value.slice a' N cp').ownBlock = some k → v.ownBlock = some k ∨ w.heap.size ≤ k) → wpList Tryd.prog ops Q rest (a.put o.dst (.slice a' N cp')) w') : wpList Tryd.prog ops Q (o :: rest) a w :=
  wpList_step fun _ hK => step_wappend hgd s x ho hs hx hown hB hv hl hsm hn N hN (fun a' cp' w' o' g' l' => hK _ _ (h a' cp' w' o' g' l'))

/-! ### rows of numbers of one's own -/
theorem wat_new (w : World) (x : WV) (T : TypeId) : WAt (w.alloc (.cells #[.int .i64 x.at_, .int .i64 x.ln, .string x.tx] T)) w.heap.size 0 x :=
  ⟨by rw [World.cell?_alloc_new]; rfl, by rw [World.cell?_alloc_new]; rfl, by rw [World.cell?_alloc_new]; rfl⟩
end Go.Proofs.YtlpffgmfgkleiaaDoor

/-
  Rows of rows of words.
-/
namespace Go.Proofs.YtlpffgmfgkleiaaDoor
open Go.RowKit Go.Maps

abbrev RTy : TypeId := 66
def OwnR (w : World) (B : Nat) (v : Value) (cs : List Value) : Prop := w.ownsRow B RTy 1 v cs.length cs
theorem OwnR.nil (w : World) (B : Nat) : OwnR w B (.slice none 0 0) [] := World.ownsRow_nil _ _ _ _
theorem OwnR.below {w w' : World} {B : Nat} {v : Value} {l : List Value} (h : OwnR w B v l) (hb : Below w.heap.size w w') : OwnR w' B v l := by
  rcases h with ⟨h0, h | ⟨g, cap, cur, rfl, hB, h3, r⟩⟩
  · exact ⟨h0, .inl h⟩
  · exact ⟨h0, .inr ⟨g, cap, cur, rfl, hB, kept_obj hb h3, r⟩⟩
theorem OwnR.new {w : World} {B : Nat} {v : Value} {l : List Value} (h : OwnR w B v l) {k : Nat} (hk : v.ownBlock = some k) : B ≤ k ∧ k < w.heap.size := World.ownsRow.lt h k hk
theorem OwnR.slice {w : World} {B : Nat} {v : Value} {l : List Value} (h : OwnR w B v l) : ∃ a cap, v = .slice a l.length cap ∧ l.length ≤ cap ∧ (cap : Int) ≤ 9223372036854775807 ∧ ∀ (j : Nat) (u : Value), l[j]? = some u → ∃ g, a = some ⟨g, 0, none⟩ ∧ w.cell? ⟨g, j, none⟩ = some u ∧ w.frozen? ⟨g, j, none⟩ = false := by
  rcases h.2 with ⟨rfl, h0⟩ | ⟨g, cap, cur, rfl, _, h3, h1, h2, h4, h5⟩
  · refine ⟨none, 0, by rw [h0], by omega, by omega, fun j u hj => ?_⟩
    rw [List.length_eq_zero_iff.1 h0] at hj; simp at hj
  · refine ⟨_, cap, rfl, h1, by unfold maxLen at h2; omega, fun j u hj => ⟨g, rfl, ?_, blk_free h3 _⟩⟩
    rw [blk_cell h3]
    rw [← h5, List.getElem?_take] at hj
    split at hj
    · simpa using hj
    · cases hj
/-- Its block, by its type. -/
theorem OwnR.blk {w : World} {B : Nat} {v : Value} {l : List Value} (h : OwnR w B v l) {k : Nat} (hk : v.ownBlock = some k) : ∃ cs, w.heap[k]? = some (.cells cs RTy (0, 0)) := by
  rcases h.2 with ⟨rfl, h0⟩ | ⟨g, cap, cur, rfl, _, h3, _⟩
  · simp [Value.ownBlock] at hk
  · simp [Value.ownBlock] at hk; subst hk; exact ⟨cur, h3⟩
theorem OwnW.blk {w : World} {B : Nat} {v : Value} {l : List WV} (h : OwnW w B v l) {k : Nat} (hk : v.ownBlock = some k) : ∃ cs, w.heap[k]? = some (.cells cs WT (0, 0)) := by
  rcases h.2 with ⟨rfl, h0⟩ | ⟨g, cap, cur, rfl, _, h3, _⟩
  · simp [Value.ownBlock] at hk
  · simp [Value.ownBlock] at hk; subst hk; exact ⟨cur, h3⟩
theorem rw_apart {w : World} {B B' : Nat} {u v : Value} {l : List WV} {cs : List Value} (h : OwnW w B u l) (r : OwnR w B' v cs) {k : Nat} (hu : u.ownBlock = some k) : v.ownBlock ≠ some k := by
  intro hv
  obtain ⟨c1, h1⟩ := h.blk hu
  obtain ⟨c2, h2⟩ := r.blk hv
  rw [h1] at h2
  simp only [Option.some.injEq, Obj.cells.injEq] at h2
  exact absurd h2.2.1 (by decide)
theorem OwnW.grown {w w' : World} {B : Nat} {v : Value} {l : List WV} {o : Option Nat} (h : OwnW w B v l) (hg : w.grownBy w' o) (hne : ∀ k, v.ownBlock = some k → o ≠ some k) : OwnW w' B v l := by
  rcases h with ⟨h0, h | ⟨g, cap, cur, rfl, hB, h3, r⟩⟩
  · exact ⟨h0, .inl h⟩
  · exact ⟨h0, .inr ⟨g, cap, cur, rfl, hB, (hg.block g (lt_of_block h3) (fun e => hne g rfl e.symm)).trans h3, r⟩⟩
theorem OwnR.grown {w w' : World} {B : Nat} {v : Value} {l : List Value} {o : Option Nat} (h : OwnR w B v l) (hg : w.grownBy w' o) (hne : ∀ k, v.ownBlock = some k → o ≠ some k) : OwnR w' B v l := by
  rcases h with ⟨h0, h | ⟨g, cap, cur, rfl, hB, h3, r⟩⟩
  · exact ⟨h0, .inl h⟩
  · exact ⟨h0, .inr ⟨g, cap, cur, rfl, hB, (hg.block g (lt_of_block h3) (fun e => hne g rfl e.symm)).trans h3, r⟩⟩
theorem OwnR.set {w : World} {B n c g : Nat} {cs : List Value} (h : OwnR w B (.slice (some ⟨g, 0, none⟩) n c) cs) {k : Nat} (u : Value) : OwnR (w.setCell ⟨g, k, none⟩ u) B (.slice (some ⟨g, 0, none⟩) n c) (cs.set k u) ∧ B ≤ g := by
  rcases h with ⟨h0, h | ⟨g', cap, cur, e, hb, h3, h1, h2, h4, h5⟩⟩
  · cases h.1
  · cases e
    refine ⟨⟨by rw [List.length_set]; omega, .inr ⟨g, c, cur.setIfInBounds k u, by rw [List.length_set], hb, blk_set h3 _, by rw [List.length_set]; exact h1, h2, by simp [h4], ?_⟩⟩, hb⟩
    rw [List.length_set, Array.toList_setIfInBounds, List.take_set, h5]

/-- A row of rows: what each holds; no two in one block. -/
structure Rows (w : World) (B : Nat) (v : Value) (cs : List Value) (G : List (List WV)) : Prop where
  own : OwnR w B v cs
  len : cs.length = G.length
  each : ∀ (j : Nat) (x : List WV), G[j]? = some x → ∃ a c, cs[j]? = some (.slice a x.length c) ∧ OwnW w B (.slice a x.length c) x
  apart : ∀ (i j : Nat) (u z : Value) (k : Nat), i < j → cs[i]? = some u → cs[j]? = some z → u.ownBlock = some k → z.ownBlock ≠ some k
theorem Rows.nil (w : World) (B : Nat) : Rows w B (.slice none 0 0) [] [] := ⟨OwnR.nil _ _, rfl, fun j x h => by simp at h, fun i j u z k _ h => by simp at h⟩
theorem Rows.below {w w' : World} {B : Nat} {v : Value} {cs : List Value} {G : List (List WV)} (h : Rows w B v cs G) (hb : Below w.heap.size w w') : Rows w' B v cs G :=
  ⟨h.own.below hb, h.len, fun j x hx => by
    obtain ⟨a, c, h1, h2⟩ := h.each j x hx
    exact ⟨a, c, h1, h2.below hb⟩, h.apart⟩
/-- A row of none is added. -/
theorem Rows.more {w w' : World} {B : Nat} {v v' : Value} {cs : List Value} {G : List (List WV)} (h : Rows w B v cs G) (ho : OwnR w' B v' (cs ++ [.slice none 0 0])) (hg : w.grownBy w' v.ownBlock) : Rows w' B v' (cs ++ [.slice none 0 0]) (G ++ [[]]) := by
  refine ⟨ho, by simp [h.len], fun j x hx => ?_, fun i j u z k hij hu hz hk => ?_⟩
  · rcases Nat.lt_or_ge j G.length with q | q
    · rw [List.getElem?_append_left q] at hx
      obtain ⟨a, c, h1, h2⟩ := h.each j x hx
      exact ⟨a, c, by rw [List.getElem?_append_left (by rw [h.len]; exact q)]; exact h1, h2.grown hg (fun k hk => rw_apart h2 h.own hk)⟩
    · have hj : j = G.length := by have := (List.getElem?_eq_some_iff.1 hx).1; simp at this; omega
      subst hj
      simp at hx; subst hx
      exact ⟨none, 0, by rw [← h.len]; simp, OwnW.nil _ _⟩
  · have hjl := (List.getElem?_eq_some_iff.1 hz).1
    simp at hjl
    rw [List.getElem?_append_left (by omega)] at hu
    rcases Nat.lt_or_ge j cs.length with q | q
    · rw [List.getElem?_append_left q] at hz
      exact h.apart i j u z k hij hu hz hk
    · have hj : j = cs.length := by omega
      subst hj
      simp at hz; subst hz
      simp [Value.ownBlock]
/-- The last row grows, and is stored. -/
theorem Rows.grow {w w' : World} {B g n c : Nat} {cs : List Value} {u u' : Value} {G : List (List WV)} {x y : List WV} (h : Rows w B (.slice (some ⟨g, 0, none⟩) n c) (cs ++ [u]) (G ++ [x])) (hy : y.length = x.length + 1) (ho : OwnW w' B u' y) (hu' : ∃ a d, u' = .slice a y.length d) (hg : w.grownBy w' u.ownBlock) (hn : ∀ k, u'.ownBlock = some k → u.ownBlock = some k ∨ w.heap.size ≤ k) :
    Rows (w'.setCell ⟨g, G.length, none⟩ u') B (.slice (some ⟨g, 0, none⟩) n c) (cs ++ [u']) (G ++ [y]) ∧ B ≤ g := by
  have hcl : cs.length = G.length := by have := h.len; simpa using this
  obtain ⟨au, du, hu1, hu2⟩ := h.each G.length x (by simp)
  rw [← hcl] at hu1
  simp only [List.getElem?_concat_length, Option.some.injEq] at hu1
  have hou : OwnW w B u x := by rw [hu1]; exact hu2
  have hr : OwnR w' B (.slice (some ⟨g, 0, none⟩) n c) (cs ++ [u]) := h.own.grown hg (fun k hk e => rw_apart hou h.own e hk)
  obtain ⟨hs, hB⟩ := hr.set (k := G.length) u'
  have hset : (cs ++ [u]).set G.length u' = cs ++ [u'] := by rw [← hcl]; simp
  rw [hset] at hs
  refine ⟨⟨hs, by simp [hcl], fun j z hz => ?_, fun i j a z k hij ha hz hk => ?_⟩, hB⟩
  · rcases Nat.lt_or_ge j G.length with q | q
    · rw [List.getElem?_append_left q] at hz
      obtain ⟨a, d, h1, h2⟩ := h.each j z (by rw [List.getElem?_append_left q]; exact hz)
      have h1' := h1
      rw [List.getElem?_append_left (by omega)] at h1
      refine ⟨a, d, by rw [List.getElem?_append_left (by omega)]; exact h1, ?_⟩
      have h3 : OwnW w' B (.slice a z.length d) z := h2.grown hg (fun k hk => h.apart j G.length _ u k q h1' (by rw [← hcl]; simp) hk)
      exact ownsRow_setCell_other h3 (a := ⟨g, G.length, none⟩) (fun e => rw_apart h3 hr e rfl) _
    · have hj : j = G.length := by have := (List.getElem?_eq_some_iff.1 hz).1; simp at this; omega
      subst hj
      simp at hz; subst hz
      obtain ⟨a, d, rfl⟩ := hu'
      exact ⟨a, d, by rw [← hcl]; simp, ownsRow_setCell_other ho (a := ⟨g, G.length, none⟩) (fun e => rw_apart ho hr e rfl) _⟩
  · have hjl := (List.getElem?_eq_some_iff.1 hz).1
    simp at hjl
    rw [List.getElem?_append_left (by omega)] at ha
    have ha' : (cs ++ [u])[i]? = some a := by rw [List.getElem?_append_left (by omega)]; exact ha
    rcases Nat.lt_or_ge j cs.length with q | q
    · rw [List.getElem?_append_left q] at hz
      exact h.apart i j a z k hij ha' (by rw [List.getElem?_append_left q]; exact hz) hk
    · have hj : j = cs.length := by omega
      subst hj
      simp at hz; subst hz
      intro e
      obtain ⟨p, hp⟩ : ∃ p, (G ++ [x])[i]? = some p := nth_of rfl (by simp; omega)
      obtain ⟨a1, d1, e1, e2⟩ := h.each i p hp
      rw [ha'] at e1; cases e1
      rcases hn k e with q | q
      · exact h.apart i cs.length _ u k hij ha' (by simp) hk q
      · have := (e2.new hk).2; omega
theorem infoRow : (Tryd.prog.info? RTy).map (fun i => (i.zero, i.size, i.bytes)) = some (some (.slice none 0 0), 1, 24) := by kernel_rfl
theorem rinfoParts : ∃ i, Tryd.prog.info? RTy = some i ∧ i.zero = some (.slice none 0 0) ∧ i.size = 1 ∧ i.bytes = 24 := by
  obtain ⟨i, h1, h2⟩ := Option.map_eq_some_iff.1 infoRow
  simp only [Prod.mk.injEq] at h2
  exact ⟨i, h1, h2.1, h2.2.1, h2.2.2⟩
/-- One more row, out of a block of one cell. -/
theorem append_row {w : World} {B g d : Nat} {v u : Value} {q : List Value} (h : OwnR w B v q) (hB : B ≤ w.heap.size) (hu : w.cell? ⟨g, 0, none⟩ = some u) (ho : u.oneCell' = true) (hs : q.length + 1 ≤ 1000000) (ty : TypeId) :
    ∃ v' w', (Builtin.append_ #[64, 64] ty #[v, .slice (some ⟨g, 0, none⟩) 1 d]).run Tryd.prog w = .ok v' w' ∧ OwnR w' B v' (q ++ [u]) ∧ w.grownBy w' v.ownBlock ∧ ∀ k, v'.ownBlock = some k → v.ownBlock = some k ∨ w.heap.size ≤ k := by
  obtain ⟨i0, hi, hz0, hz1, hz2⟩ := rinfoParts
  obtain ⟨v', w', h1, h2, h3, _, h5⟩ := run_append_own_at (P := Tryd.prog) w B 64 ty RTy i0 _ 1 24 Tryd.underlying64 hi hz0 hz1 hz2 rfl (by decide) v q.length q h ⟨g, 0, none⟩ 1 d [u] rfl (fun j z hj => by
    match j, hj with
    | 0, hj => simp at hj; subst hj; rw [addr_at]; exact hu
    | j + 1, hj => simp at hj) (fun z hz => by simp at hz; subst hz; exact ho) (by unfold maxLen; omega) (by omega) hB
  refine ⟨v', w', h1, ?_, h3, fun k hk => ?_⟩
  · unfold OwnR
    rw [List.length_append]
    exact h2
  · rcases h5 with z | z
    · left; rw [← z]; exact hk
    · right; rw [z] at hk; cases hk; exact Nat.le_refl _
theorem wp_rappend {ops : Array Oper} {rest : List Oper} {o : Oper} {a : Act} {Q : Exit → Act → World → Prop} {w : World} (hgd : o.guard = none) (s x : Operand)
    (ho : o.op = .call { callee := .builtin .append, args := #[s, x], argTypes := #[64, 64] }) {B g d : Nat} {v u : Value} {q : List Value} (hs : a.eval s = v) (hx : a.eval x = .slice (some ⟨g, 0, none⟩) 1 d)
    (hown : OwnR w B v q) (hB : B ≤ w.heap.size) (hu : w.cell? ⟨g, 0, none⟩ = some u) (h1 : u.oneCell' = true) (hsm : q.length + 1 ≤ 1000000) (N : Nat) (hN : q.length + 1 = N)
    (h : ∀ a' cp' w', OwnR w' B (.slice a' N cp') (q ++ [u]) → w.grownBy w' v.ownBlock → (∀ k, (Value.slice a' N cp').ownBlock = some k → v.ownBlock = some k ∨ w.heap.size ≤ k) → wpList Tryd.prog ops Q rest (a.put o.dst (.slice a' N cp')) w') : wpList Tryd.prog ops Q (o :: rest) a w :=
  wpList_step fun _ hK => by
    have hw : Region.wanted o (yielded ops a.tmps) = true := by simp [Region.wanted, hgd]
    rw [if_pos hw]
    obtain ⟨v', w', hr, h2, h3, h4⟩ := append_row (d := d) hown hB hu h1 hsm o.type
    obtain ⟨a', cp', hv', _⟩ := h2.slice
    rw [List.length_append, List.length_singleton, hN] at hv'
    subst hv'
    unfold Oper.wp execOp
    simp only [ho, resolve, invoke, builtin, Sem.run_bind, Sem.run_pure, Result.andThen_ok, List.map_toArray, List.map_cons, List.map_nil, hs, hx, hr]
    exact hK _ _ (h a' cp' w' h2 h3 h4)
end Go.Proofs.YtlpffgmfgkleiaaDoor

/-
  Words and numbers of a text, in plain words: what the document's answer is at each place.
-/
namespace Go.Proofs.YtlpffgmfgkleiaaDoor
open Go.RowKit Go.Maps

/-- The byte at a place; at the text's end a line's end. -/
def byteAt (s : ByteArray) (i : Nat) : Nat := match s[i]? with
  | some c => c.toNat
  | none => 10
theorem byteAt_end (s : ByteArray) {i : Nat} (h : s.size ≤ i) : byteAt s i = 10 := by
  unfold byteAt
  rw [getElem?_neg s i (by omega)]
theorem byteAt_in (s : ByteArray) {i : Nat} (h : i < s.size) : s[i]? = some s[i] ∧ byteAt s i = s[i].toNat := by
  unfold byteAt
  rw [getElem?_pos s i h]
  exact ⟨rfl, rfl⟩
/-- How far the document's answer has come: the words, the line, where a word has begun (or -1), whether a note runs. -/
structure LS where
  out : List WV
  ln : Int
  fr : Int
  off : Bool
def wstep (s : ByteArray) (i : Nat) (q : LS) : LS :=
  let c := byteAt s i
  let off1 := q.off || decide (c = 35)
  if c = 10 ∨ off1 = true ∨ c = 32 ∨ c = 9 then
    ⟨if q.fr < 0 then q.out else q.out ++ [⟨q.fr, q.ln, s.extract q.fr.toNat i⟩], if c = 10 then q.ln + 1 else q.ln, -1, if c = 10 then false else off1⟩
  else ⟨q.out, q.ln, if q.fr < 0 then (i : Int) else q.fr, q.off⟩
def wrun (s : ByteArray) : Nat → LS
  | 0 => ⟨[], 1, -1, false⟩
  | i + 1 => wstep s i (wrun s i)
/-- The words of a text. -/
def wordsOf (s : ByteArray) : List WV := (wrun s (s.size + 1)).out
/-- What holds at each place. -/
theorem wrun_inv (s : ByteArray) : ∀ i, i ≤ s.size + 1 → (wrun s i).out.length ≤ i ∧ 1 ≤ (wrun s i).ln ∧ (wrun s i).ln ≤ (i : Int) + 1 ∧ -1 ≤ (wrun s i).fr ∧ (wrun s i).fr < i
  | 0, _ => by simp [wrun]
  | i + 1, h => by
    have ih := wrun_inv s i (by omega)
    rw [wrun]
    generalize wrun s i = q at ih ⊢
    obtain ⟨h1, h2, h3, h4, h5⟩ := ih
    unfold wstep
    simp only []
    split
    · refine ⟨?_, ?_, ?_, ?_, ?_⟩
      · split
        · simp only []; omega
        · simp only [List.length_append, List.length_singleton]; omega
      · simp only []; split <;> omega
      · simp only []; split <;> omega
      · simp only []; omega
      · simp only []; omega
    · refine ⟨?_, ?_, ?_, ?_, ?_⟩
      · simp only []; omega
      · simp only []; omega
      · simp only []; omega
      · simp only []; split <;> omega
      · simp only []; split <;> omega
end Go.Proofs.YtlpffgmfgkleiaaDoor

/-
  The walk over the document's words of a text.
-/
namespace Go.Proofs.YtlpffgmfgkleiaaDoor
open Go.RowKit Go.Maps

/-- A row of words of one's own that comes back. -/
def WordsBack (l : List WV) (w : World) (e : Ending) (w' : World) : Prop :=
  ∃ (a : Option Addr) (c : Nat), e = .returned (.slice a l.length c) ∧ OwnW w' w.heap.size (.slice a l.length c) l ∧ Below w.heap.size w w'
theorem wstep_go (s : ByteArray) (i : Nat) (q : LS) {c : Nat} (hc : byteAt s i = c) {O K : Bool} (hO : (q.off || decide (c = 35)) = O) (hK : decide (c = 10 ∨ O = true ∨ c = 32 ∨ c = 9) = K) :
    wstep s i q = if K = true then ⟨if q.fr < 0 then q.out else q.out ++ [⟨q.fr, q.ln, s.extract q.fr.toNat i⟩], if c = 10 then q.ln + 1 else q.ln, -1, if c = 10 then false else O⟩ else ⟨q.out, q.ln, if q.fr < 0 then (i : Int) else q.fr, q.off⟩ := by
  subst hc hO hK
  unfold wstep
  simp only [decide_eq_true_eq]
theorem grown_wnew {W w3 w4 : World} {B : Nat} {v : Value} {l : List WV} (hb : Below B W w3) (ho : OwnW w3 B v l) (hB : B ≤ w3.heap.size) (hg : w3.grownBy w4 v.ownBlock) : Below B W w4 :=
  hb.grown hg hB (fun k hk => (ho.new hk).1)

set_option maxRecDepth 100000 in
set_option maxHeartbeats 4000000 in
theorem rwords_any (s : ByteArray) (hs : s.size ≤ 900000) (w : World) : Calls Tryd.prog 42 #[.string s] w (WordsBack (wordsOf s) w) := by
  go_enter Tryd.func42, Tryd.ntmps42
  go_wp2_with fail
  go_loopw [3, 4, 5, 6, 7] (fun v l f o u wr => ∃ (i m : Nat) (a' : Option Addr) (cp' : Nat) (q : LS), i ≤ s.size + 1 ∧ m ≤ i ∧ 1 ≤ q.ln ∧ q.ln ≤ (i : Int) + 1 ∧ -1 ≤ q.fr ∧ q.fr < i ∧ u = .int .i64 i ∧ o = .bool q.off ∧ f = .int .i64 q.fr ∧ l = .int .i64 q.ln ∧ v = .slice a' m cp' ∧ Hid (q.out.length = m) ∧ Hid (wrun s i = q) ∧ Hid (Below w.heap.size w wr) ∧ Hid (OwnW wr w.heap.size (.slice a' m cp') q.out)) (fun _ _ _ _ u _ => (s.size + 1 - intOf u).toNat)
  case atStart => exact ⟨0, 0, _, _, ⟨[], 1, -1, false⟩, by omega, by omega, by simp, by simp, by simp, by simp, rfl, rfl, rfl, rfl, rfl, rfl, rfl, Below.refl _ _, OwnW.nil _ _⟩
  case round =>
    obtain ⟨i, m, a', cp', q, hi, hm, hl1, hl2, hf1, hf2, rfl, rfl, rfl, rfl, rfl, HQL, HQ, HB, HP⟩ := hrel
    by_cases hlt : i ≤ s.size
    · have hk1 : (i : Int) ≤ (s.size : Int) := by omega
      have hk0 : (0 : Int) ≤ (i : Int) := by omega
      obtain ⟨c, hc⟩ : ∃ c, byteAt s i = c := ⟨_, rfl⟩
      obtain ⟨E, hE⟩ : ∃ E, decide (c = 10) = E := ⟨_, rfl⟩
      obtain ⟨N, hN⟩ : ∃ N, decide (c = 35) = N := ⟨_, rfl⟩
      obtain ⟨O, hO⟩ : ∃ O, (q.off || decide (c = 35)) = O := ⟨_, rfl⟩
      obtain ⟨K, hK⟩ : ∃ K, decide (c = 10 ∨ O = true ∨ c = 32 ∨ c = 9) = K := ⟨_, rfl⟩
      have HST := Lib.hid (wstep_go s i q hc hO hK)
      have HC := Lib.hid hc
      have HE := Lib.hid hE
      have HO : Hid ((q.off || N) = O) := by show _ = _; rw [← hN]; exact hO
      have HNN := Lib.hid hN
      have HK := Lib.hid hK
      have HIN : Hid (∀ h : i < s.size, s[i].toNat = c) := fun h => by
        rw [← hc]; exact (byteAt_in s h).2.symm
      have HIE : Hid (¬ i < s.size → c = 10) := fun h => by rw [← hc]; exact byteAt_end s (by omega)
      clear hc hE hO hK hN
      go_upto_region 8 with fail
      go_cut [8] from 15 to 24 (fun u wx => u = .bool E ∧ Hid (Below w.heap.size w wx) ∧ Hid (OwnW wx w.heap.size (.slice a' m cp') q.out))
      case first =>
        cases E with
        | true =>
          have hc10 : c = 10 := by have := HE.out; simpa using this
          by_cases hin : i < s.size
          · have d1 : ((i : Int) == (s.size : Int)) = false := by rw [beq_eq_false_iff_ne]; omega
            have d2 : ((s[i].toNat : Int) == 10) = true := by rw [beq_iff_eq, HIN.out hin]; omega
            clear hc10
            go_wp2_with fail
            go_meet
            exact ⟨rfl, HB, HP⟩
          · have d1 : ((i : Int) == (s.size : Int)) = true := by rw [beq_iff_eq]; omega
            clear hin hc10
            go_wp2_with fail
            go_meet
            exact ⟨rfl, HB, HP⟩
        | false =>
          have hc10 : ¬ c = 10 := by have := HE.out; simpa using this
          have hin : i < s.size := Decidable.byContradiction fun h => hc10 (HIE.out h)
          have d1 : ((i : Int) == (s.size : Int)) = false := by rw [beq_eq_false_iff_ne]; omega
          have d2 : ((s[i].toNat : Int) == 10) = false := by rw [beq_eq_false_iff_ne, HIN.out hin]; omega
          clear hc10
          go_wp2_with fail
          go_meet
          exact ⟨rfl, HB, HP⟩
      case rest =>
        clear HB HP
        obtain ⟨rfl, HB, HP⟩ := hcut
        go_upto_region 9 with fail
        go_cut [32] from 25 to 32 (fun u wx => u = .bool N ∧ Hid (Below w.heap.size w wx) ∧ Hid (OwnW wx w.heap.size (.slice a' m cp') q.out))
        case first =>
          cases E with
          | true =>
            have HH35 : Hid (decide (c = 35) = false) := by show _ = _; have := HE.out; simp at this; exact decide_eq_false (by omega)
            go_wp2_with fail
            go_meet
            exact ⟨by rw [← HNN.out, HH35.out], HB, HP⟩
          | false =>
            have hc10 : ¬ c = 10 := by have := HE.out; simpa using this
            have hin : i < s.size := Decidable.byContradiction fun h => hc10 (HIE.out h)
            by_cases h35 : c = 35
            · have d2 : ((s[i].toNat : Int) == 35) = true := by rw [beq_iff_eq, HIN.out hin]; omega
              have H35 := Lib.hid (decide_eq_true h35)
              clear hc10 h35
              go_wp2_with fail
              go_meet
              exact ⟨by rw [← HNN.out, H35.out], HB, HP⟩
            · have d2 : ((s[i].toNat : Int) == 35) = false := by rw [beq_eq_false_iff_ne, HIN.out hin]; omega
              have H35 := Lib.hid (decide_eq_false h35)
              clear hc10 h35
              go_wp2_with fail
              go_meet
              exact ⟨by rw [← HNN.out, H35.out], HB, HP⟩
        case rest =>
          clear HB HP
          obtain ⟨rfl, HB, HP⟩ := hcut
          go_upto_if 32 with fail
          go_cut [6] from 33 to 33 (fun u wx => u = .bool O ∧ Hid (Below w.heap.size w wx) ∧ Hid (OwnW wx w.heap.size (.slice a' m cp') q.out))
          case first =>
            cases N with
            | true =>
              have HOO : Hid (O = true) := by show _ = _; rw [← HO.out, Bool.or_true]
              go_wp2_with fail
              go_meet
              exact ⟨by rw [HOO.out], HB, HP⟩
            | false =>
              have HOO : Hid (O = q.off) := by show _ = _; rw [← HO.out, Bool.or_false]
              go_wp2_with fail
              go_meet
              exact ⟨by rw [HOO.out], HB, HP⟩
          case rest =>
            clear HB HP
            obtain ⟨rfl, HB, HP⟩ := hcut
            go_upto_region 11 with fail
            go_cut [48] from 33 to 48 (fun u wx => u = .bool K ∧ Hid (Below w.heap.size w wx) ∧ Hid (OwnW wx w.heap.size (.slice a' m cp') q.out))
            case first =>
              cases E with
              | true =>
                have HKK : Hid (K = true) := by
                  show _ = _; rw [← HK.out]
                  have := HE.out; simp at this
                  exact decide_eq_true (.inl this)
                go_wp2_with fail
                go_meet
                exact ⟨by rw [HKK.out], HB, HP⟩
              | false =>
                have hc10 : ¬ c = 10 := by have := HE.out; simpa using this
                have hin : i < s.size := Decidable.byContradiction fun h => hc10 (HIE.out h)
                cases O with
                | true =>
                  have HKK : Hid (K = true) := by
                    show _ = _; rw [← HK.out]; exact decide_eq_true (.inr (.inl rfl))
                  clear hc10
                  go_wp2_with fail
                  go_meet
                  exact ⟨by rw [HKK.out], HB, HP⟩
                | false =>
                  by_cases h32 : c = 32
                  · have d2 : ((s[i].toNat : Int) == 32) = true := by rw [beq_iff_eq, HIN.out hin]; omega
                    have HKK : Hid (K = true) := by
                      show _ = _; rw [← HK.out]; exact decide_eq_true (.inr (.inr (.inl h32)))
                    clear hc10 h32
                    go_wp2_with fail
                    go_meet
                    exact ⟨by rw [HKK.out], HB, HP⟩
                  · have d2 : ((s[i].toNat : Int) == 32) = false := by rw [beq_eq_false_iff_ne, HIN.out hin]; omega
                    by_cases h9 : c = 9
                    · have d3 : ((s[i].toNat : Int) == 9) = true := by rw [beq_iff_eq, HIN.out hin]; omega
                      have HKK : Hid (K = true) := by
                        show _ = _; rw [← HK.out]; exact decide_eq_true (.inr (.inr (.inr h9)))
                      clear hc10 h32 h9
                      go_wp2_with fail
                      go_meet
                      exact ⟨by rw [HKK.out], HB, HP⟩
                    · have d3 : ((s[i].toNat : Int) == 9) = false := by rw [beq_eq_false_iff_ne, HIN.out hin]; omega
                      have HKK : Hid (K = false) := by
                        show _ = _; rw [← HK.out]; exact decide_eq_false (by rintro (q | q | q | q) <;> first | exact hc10 q | exact h32 q | exact h9 q | cases q)
                      clear hc10 h32 h9
                      go_wp2_with fail
                      go_meet
                      exact ⟨by rw [HKK.out], HB, HP⟩
            case rest =>
              clear HB HP
              obtain ⟨rfl, HB, HP⟩ := hcut
              cases K with
              | true =>
                obtain ⟨F, hF⟩ : ∃ F, decide (0 ≤ q.fr) = F := ⟨_, rfl⟩
                go_upto_if 50 with fail
                have HF := Lib.hid hF
                clear hF
                obtain ⟨out', ho'⟩ : ∃ o, (if q.fr < 0 then q.out else q.out ++ [(⟨q.fr, q.ln, s.extract q.fr.toNat i⟩ : WV)]) = o := ⟨_, rfl⟩
                have HOUT := Lib.hid ho'
                clear ho'
                go_cut [3] from 51 to 60 (fun u wx => ∃ (m2 : Nat) (a2 : Option Addr) (c2 : Nat), u = .slice a2 m2 c2 ∧ m2 ≤ i + 1 ∧ Hid (out'.length = m2) ∧ Hid (Below w.heap.size w wx) ∧ Hid (OwnW wx w.heap.size (.slice a2 m2 c2) out'))
                case first =>
                  cases F with
                  | false =>
                    have hf : q.fr < 0 := by have := HF.out; simp at this; exact this
                    have ho := HOUT.out
                    rw [if_pos hf] at ho
                    subst ho
                    clear HOUT
                    go_wp2_with fail
                    go_meet
                    exact ⟨m, a', cp', rfl, by omega, HQL, HB, HP⟩
                  | true =>
                    have hf9 : 0 ≤ q.fr := by have := HF.out; simpa using this
                    have hf : ¬ q.fr < 0 := by omega
                    have hf8 : q.fr ≤ (i : Int) := by omega
                    have ho := HOUT.out
                    rw [if_neg hf] at ho
                    have HOO := Lib.hid ho
                    have HSM : Hid (q.out.length + 1 ≤ 1000000) := by show _ ≤ _; rw [HQL.out]; omega
                    have HNL : Hid (q.out.length + 1 = m + 1) := by show _ = _; rw [HQL.out]
                    have HL2 : Hid (out'.length = m + 1) := by show _ = _; rw [← ho, List.length_append, HQL.out]; rfl
                    clear HOUT ho hf
                    go_wp2_with (at_builtin; refine wp_wappend (m := 1) (l := [(⟨q.fr, q.ln, s.extract q.fr.toNat i⟩ : WV)]) rfl _ _ rfl rfl rfl (HP.out.below (by repeat (first | exact Below.refl _ _ | (with_reducible assumption) | refine bw_alloc ?_ _ | refine bw_drew ?_))) (Nat.le_trans HB.out.size ((by repeat (first | exact Below.refl _ _ | (with_reducible assumption) | refine bw_alloc ?_ _ | refine bw_drew ?_)) : Below wc.heap.size wc _).size) (WView.of_at (wat_new _ ⟨q.fr, q.ln, s.extract q.fr.toNat i⟩ _)) rfl HSM.out (fun z => by cases z) (m + 1) HNL.out ?_; intro a3 k3 w3 o3 g3 l3; have HN3 := Lib.hid (HOO.out ▸ o3); have HB3 := Lib.hid (grown_wnew (below_up HB.out ((by repeat (first | exact Below.refl _ _ | (with_reducible assumption) | refine bw_alloc ?_ _ | refine bw_drew ?_)) : Below wc.heap.size wc _)) (HP.out.below ((by repeat (first | exact Below.refl _ _ | (with_reducible assumption) | refine bw_alloc ?_ _ | refine bw_drew ?_)) : Below wc.heap.size wc _)) (Nat.le_trans HB.out.size ((by repeat (first | exact Below.refl _ _ | (with_reducible assumption) | refine bw_alloc ?_ _ | refine bw_drew ?_)) : Below wc.heap.size wc _).size) g3); clear o3 g3 l3)
                    go_meet
                    exact ⟨m + 1, a3, k3, rfl, by omega, HL2, HB3, HN3⟩
                case rest =>
                  clear HB HP HQL
                  obtain ⟨m2, a2, c2, rfl, hm2, HQL, HB, HP⟩ := hcut
                  have hw1 : IntKind.i64.wrap (q.ln + 1) = q.ln + 1 := IntWalk.i64_in _ (by omega)
                  have hwi : IntKind.i64.wrap ((i : Int) + 1) = (i : Int) + 1 := IntWalk.i64_in _ (by omega)
                  cases E with
                  | true =>
                    have HS2 : Hid (wrun s (i + 1) = ⟨out', q.ln + 1, -1, false⟩) := by
                      have h10 : c = 10 := by have := HE.out; simpa using this
                      show _ = _
                      rw [wrun, HQ.out, HST.out, if_pos rfl, HOUT.out, if_pos h10, if_pos h10]
                    go_wp2_with fail
                    go_roundw
                    case rel => exact ⟨i + 1, m2, a2, c2, ⟨out', q.ln + 1, -1, false⟩, by omega, by omega, by simp only []; omega, by simp only []; omega, by simp only []; omega, by simp only []; omega, by go_num, rfl, rfl, rfl, rfl, HQL, HS2, HB, HP⟩
                    case measure => simp [intOf]; omega
                  | false =>
                    have HS2 : Hid (wrun s (i + 1) = ⟨out', q.ln, -1, O⟩) := by
                      have h10 : ¬ c = 10 := by have := HE.out; simpa using this
                      show _ = _
                      rw [wrun, HQ.out, HST.out, if_pos rfl, HOUT.out, if_neg h10, if_neg h10]
                    go_wp2_with fail
                    go_roundw
                    case rel => exact ⟨i + 1, m2, a2, c2, ⟨out', q.ln, -1, O⟩, by omega, by omega, by simp only []; omega, by simp only []; omega, by simp only []; omega, by simp only []; omega, by go_num, rfl, rfl, rfl, rfl, HQL, HS2, HB, HP⟩
                    case measure => simp [intOf]; omega
              | false =>
                have HEF : Hid (E = false ∧ O = false) := by
                  have h := HK.out
                  rw [decide_eq_false_iff_not] at h
                  have h1 : ¬ c = 10 := fun z => h (.inl z)
                  have h2 : ¬ O = true := fun z => h (.inr (.inl z))
                  exact ⟨by rw [← HE.out]; exact decide_eq_false h1, by simpa using h2⟩
                obtain ⟨rfl, rfl⟩ := HEF.out
                have HOF : Hid (q.off = false) := by
                  have := HO.out
                  simp only [Bool.or_eq_false_iff] at this
                  exact this.1
                clear HEF
                by_cases hf : q.fr < 0
                · have HS2 : Hid (wrun s (i + 1) = ⟨q.out, q.ln, (i : Int), false⟩) := by
                    show _ = _
                    rw [wrun, HQ.out, HST.out, if_neg (by simp), if_pos hf, HOF.out]
                  go_wp2_with fail
                  go_roundw
                  case rel => exact ⟨i + 1, m, a', cp', ⟨q.out, q.ln, (i : Int), false⟩, by omega, by omega, by simp only []; omega, by simp only []; omega, by simp only []; omega, by simp only []; omega, by go_num, rfl, rfl, rfl, rfl, HQL, HS2, HB, HP⟩
                  case measure => simp [intOf]; omega
                · have HS2 : Hid (wrun s (i + 1) = ⟨q.out, q.ln, q.fr, false⟩) := by
                    show _ = _
                    rw [wrun, HQ.out, HST.out, if_neg (by simp), if_neg hf, HOF.out]
                  go_wp2_with fail
                  go_roundw
                  case rel => exact ⟨i + 1, m, a', cp', ⟨q.out, q.ln, q.fr, false⟩, by omega, by omega, by simp only []; omega, by simp only []; omega, by simp only []; omega, by simp only []; omega, by go_num, rfl, rfl, rfl, rfl, HQL, HS2, HB, HP⟩
                  case measure => simp [intOf]; omega
    · obtain rfl : i = s.size + 1 := by omega
      have HD : Hid (q.out = wordsOf s) := by show _ = _; unfold wordsOf; rw [HQ.out]
      go_wp2_with fail
      go_ret
      exact ⟨a', cp', by rw [← HD.out, HQL.out]; rfl, by rw [← HD.out, HQL.out]; exact HP.out, HB.out⟩
end Go.Proofs.YtlpffgmfgkleiaaDoor

/-
  The walk over the document's lines of words.
-/
namespace Go.Proofs.YtlpffgmfgkleiaaDoor
open Go.RowKit Go.Maps

def lnAt (L : List WV) (i : Nat) : Int := (L[i]?.map WV.ln).getD 0
theorem lnAt_of {L : List WV} {i : Nat} {x : WV} (h : L[i]? = some x) : lnAt L i = x.ln := by unfold lnAt; rw [h]; rfl
/-- The lines that the first words make. -/
def lrun (L : List WV) : Nat → List (List WV)
  | 0 => []
  | i + 1 => if i = 0 ∨ lnAt L i ≠ lnAt L (i - 1) then lrun L i ++ [L[i]?.toList] else (lrun L i).dropLast ++ [((lrun L i).getLast?.getD []) ++ L[i]?.toList]
def linesOf (s : ByteArray) : List (List WV) := lrun (wordsOf s) (wordsOf s).length
theorem lrun_len (L : List WV) : ∀ i, (lrun L i).length ≤ i
  | 0 => Nat.le_refl _
  | i + 1 => by
    have := lrun_len L i
    rw [lrun]; split <;> simp <;> omega
theorem lrun_each (L : List WV) : ∀ i, ∀ g ∈ lrun L i, g.length ≤ i
  | 0, g, h => by simp [lrun] at h
  | i + 1, g, h => by
    have ih := lrun_each L i
    have hx : (L[i]?.toList).length ≤ 1 := by cases L[i]? <;> simp
    rw [lrun] at h
    split at h
    · rcases List.mem_append.1 h with q | q
      · have := ih g q; omega
      · simp at q; subst q; omega
    · rcases List.mem_append.1 h with q | q
      · have := ih g (List.dropLast_subset _ q); omega
      · simp only [List.mem_singleton] at q
        subst q
        rw [List.length_append]
        have : ((lrun L i).getLast?.getD []).length ≤ i := by
          cases e : (lrun L i).getLast? with
          | none => simp
          | some z => exact ih z (List.mem_of_getLast? e)
        omega
theorem lrun_some (L : List WV) {i : Nat} (h : 0 < i) : lrun L i ≠ [] := by
  obtain ⟨j, rfl⟩ : ∃ j, i = j + 1 := ⟨i - 1, by omega⟩
  rw [lrun]; split <;> simp
/-- The row of lines and its last one, that the next word goes to. -/
def NextRow (L : List WV) (i : Nat) (x : WV) (N : Bool) (G0 : List (List WV)) (y : List WV) : Prop :=
  lrun L (i + 1) = G0 ++ [y ++ [x]] ∧ if N = true then G0 = lrun L i ∧ y = [] else 0 < i ∧ lnAt L i = lnAt L (i - 1) ∧ lrun L i = G0 ++ [y]
theorem next_row (L : List WV) (i : Nat) (x : WV) (hx : L[i]? = some x) (N : Bool) (hN : decide (i = 0 ∨ lnAt L i ≠ lnAt L (i - 1)) = N) : ∃ G0 y, NextRow L i x N G0 y := by
  unfold NextRow
  rw [lrun, hx]
  by_cases h : i = 0 ∨ lnAt L i ≠ lnAt L (i - 1)
  · rw [decide_eq_true h] at hN
    subst hN
    exact ⟨lrun L i, [], by rw [if_pos h]; rfl, by rw [if_pos rfl]; exact ⟨rfl, rfl⟩⟩
  · rw [decide_eq_false h] at hN
    subst hN
    have h0 : 0 < i := by omega
    have hne := lrun_some L h0
    refine ⟨(lrun L i).dropLast, (lrun L i).getLast hne, ?_, ?_⟩
    · rw [if_neg h, List.getLast?_eq_some_getLast hne]; rfl
    · rw [if_neg (by simp)]
      refine ⟨h0, Decidable.byContradiction fun z => h (.inr z), ?_⟩
      exact (List.dropLast_concat_getLast hne).symm
/-- Where the walk is, the last line laid out. -/
def AtRow (W : World) (n : Nat) (G0 : List (List WV)) (y : List WV) (v : Value) (w : World) : Prop :=
  Below W.heap.size W w ∧ ∃ g c cs u, v = .slice (some ⟨g, 0, none⟩) n c ∧ Rows w W.heap.size v (cs ++ [u]) (G0 ++ [y])
/-- Rows of words that come back. -/
def LinesBack (G : List (List WV)) (w : World) (e : Ending) (w' : World) : Prop :=
  ∃ (a : Option Addr) (c B : Nat) (cs : List Value), e = .returned (.slice a G.length c) ∧ w.heap.size ≤ B ∧ Rows w' B (.slice a G.length c) cs G ∧ Below w.heap.size w w'
theorem rows_split {w : World} {B : Nat} {v : Value} {cs : List Value} {G0 : List (List WV)} {y : List WV} (h : Rows w B v cs (G0 ++ [y])) : ∃ cs0 u, cs = cs0 ++ [u] ∧ cs0.length = G0.length := by
  have hl := h.len
  rcases List.eq_nil_or_concat cs with q | ⟨cs0, u, q⟩
  · subst q; simp at hl
  · refine ⟨cs0, u, by rw [q, List.concat_eq_append], ?_⟩
    subst q; simp at hl; omega
theorem rows_at {w : World} {B : Nat} {v : Value} {cs : List Value} {u : Value} {G : List (List WV)} (h : Rows w B v (cs ++ [u]) G) : ∃ g c, v = .slice (some ⟨g, 0, none⟩) G.length c ∧ w.cell? ⟨g, cs.length, none⟩ = some u ∧ w.frozen? ⟨g, cs.length, none⟩ = false := by
  obtain ⟨a, c, e, _, _, hj⟩ := h.own.slice
  obtain ⟨g, rfl, h1, h2⟩ := hj cs.length u (by simp)
  exact ⟨g, c, by rw [e, h.len], h1, h2⟩

theorem at_more {W w w' : World} {v v' : Value} {cs : List Value} {G : List (List WV)} {p : Nat} (HB : Below W.heap.size W w) (h : Rows w W.heap.size v cs G) (o3 : OwnR w' W.heap.size v' (cs ++ [.slice none 0 0])) (g3 : w.grownBy w' v.ownBlock) (hn : G.length = p) : AtRow W (p + 1) G [] v' w' := by
  have hr := h.more o3 g3
  obtain ⟨g, c, e, _, _⟩ := rows_at hr
  rw [List.length_append, List.length_singleton, hn] at e
  exact ⟨HB.grown g3 HB.size (fun k hk => (h.own.new hk).1), g, c, cs, _, e, hr⟩
theorem at_same {W w : World} {v : Value} {cs : List Value} {G0 : List (List WV)} {y : List WV} {p : Nat} (HB : Below W.heap.size W w) (h : Rows w W.heap.size v cs (G0 ++ [y])) (hn : G0.length = p) : AtRow W (p + 1) G0 y v w := by
  obtain ⟨cs0, u, rfl, _⟩ := rows_split h
  obtain ⟨g, c, e, _, _⟩ := rows_at h
  rw [List.length_append, List.length_singleton, hn] at e
  exact ⟨HB, g, c, cs0, u, e, h⟩
/-- The last line grows, and is stored. -/
theorem row_grow {W w w' : World} {g n c p : Nat} {cs : List Value} {u u' : Value} {G0 : List (List WV)} {y z : List WV} (HB : Below W.heap.size W w) (h : Rows w W.heap.size (.slice (some ⟨g, 0, none⟩) n c) (cs ++ [u]) (G0 ++ [y])) (hn : G0.length = p) (hz : z.length = y.length + 1) (ho : OwnW w' W.heap.size u' z) (hg : w.grownBy w' u.ownBlock) (hk : ∀ k, u'.ownBlock = some k → u.ownBlock = some k ∨ w.heap.size ≤ k) :
    w'.cell? ⟨g, p, none⟩ = some u ∧ w'.frozen? ⟨g, p, none⟩ = false ∧ Rows (w'.setCell ⟨g, p, none⟩ u') W.heap.size (.slice (some ⟨g, 0, none⟩) n c) (cs ++ [u']) (G0 ++ [z]) ∧ Below W.heap.size W (w'.setCell ⟨g, p, none⟩ u') := by
  subst hn
  obtain ⟨a, d, e, _⟩ := ho.slice
  obtain ⟨hr, hB⟩ := h.grow hz ho ⟨a, d, e⟩ hg hk
  have hcl : cs.length = G0.length := by have := h.len; simpa using this
  obtain ⟨au, du, hu1, hu2⟩ := h.each G0.length y (by simp)
  have hu3 := hu1
  rw [← hcl] at hu1
  simp only [List.getElem?_concat_length, Option.some.injEq] at hu1
  have hou : OwnW w W.heap.size u y := by rw [hu1]; exact hu2
  have hro : OwnR w' W.heap.size (.slice (some ⟨g, 0, none⟩) n c) (cs ++ [u]) := h.own.grown hg (fun k hk e => rw_apart hou h.own e hk)
  obtain ⟨a6, c6, e6, _, _, hj⟩ := hro.slice
  obtain ⟨g6, e7, h1, h2⟩ := hj cs.length u (by simp)
  simp only [Value.slice.injEq] at e6
  rw [e7] at e6
  simp only [Option.some.injEq, Addr.mk.injEq] at e6
  obtain ⟨⟨rfl, _⟩, _⟩ := e6
  rw [hcl] at h1 h2
  exact ⟨h1, h2, hr, (HB.grown hg HB.size (fun k hk => (hou.new hk).1)).setCell (p := ⟨g, G0.length, none⟩) hB _⟩

set_option maxRecDepth 100000 in
set_option maxHeartbeats 4000000 in
theorem rlines_any (s : ByteArray) (hs : s.size ≤ 900000) (w : World) : Calls Tryd.prog 23 #[.string s] w (LinesBack (linesOf s) w) := by
  unfold linesOf
  have hm1 : (wordsOf s).length ≤ 900001 := by have := (wrun_inv s (s.size + 1) (Nat.le_refl _)).1; unfold wordsOf; omega
  have CW := Lib.hid (rwords_any s hs w)
  generalize wordsOf s = L at CW hm1 ⊢
  obtain ⟨m, hm⟩ : ∃ m, L.length = m := ⟨_, rfl⟩
  rw [hm] at hm1
  have HM := Lib.hid hm
  clear hm
  go_enter Tryd.func23, Tryd.ntmps23
  go_wp2_with (go_at_call 42; (with_reducible refine CW.out.mono ?_); rintro e w1 ⟨a1, c1, rfl, o1, b1⟩; have O1 := Lib.hid o1.words.view; have B1 := Lib.hid b1; rw [HM.out]; clear o1 b1)
  go_loopw [3, 5, 6] (fun v u _ wr => ∃ (i n : Nat) (cs : List Value), i ≤ m ∧ n ≤ i ∧ u = .int .i64 i ∧ Hid ((lrun L i).length = n) ∧ Hid (Below w1.heap.size w1 wr) ∧ Hid (Rows wr w1.heap.size v cs (lrun L i))) (fun _ u _ _ => (m - intOf u).toNat)
  case atStart => exact ⟨0, 0, [], by omega, by omega, rfl, rfl, Below.refl _ _, Rows.nil _ _⟩
  case round =>
    obtain ⟨i, n, cs, hi, hn, rfl, HN, HB, HP⟩ := hrel
    by_cases hlt : i < m
    · obtain ⟨x, hx⟩ := nth_of HM.out hlt
      obtain ⟨N, hNN⟩ : ∃ N, decide (i = 0 ∨ lnAt L i ≠ lnAt L (i - 1)) = N := ⟨_, rfl⟩
      obtain ⟨G0, y, hNR⟩ := next_row L i x hx N hNN
      have HNX := Lib.hid hNR
      have HV := Lib.hid (O1.out.below HB.out)
      have hk1 : (i : Int) < (m : Int) := by omega
      have hk0 : (0 : Int) ≤ (i : Int) := by omega
      obtain ⟨p, hp⟩ : ∃ p, G0.length = p := ⟨_, rfl⟩
      have HPL := Lib.hid hp
      have hpn : p ≤ i := by
        have h1 := lrun_len L (i + 1)
        rw [hNR.1] at h1
        simp at h1; omega
      obtain ⟨g1, o1, e1, hA⟩ := HV.out.at_ hx
      subst e1
      obtain ⟨x0, x1, x2⟩ := hA
      clear hNR hp
      go_upto_region 6 with fail
      go_cut [30] from 15 to 30 (fun u wx => u = .bool N ∧ Hid (Below w1.heap.size w1 wx) ∧ Hid (Rows wx w1.heap.size u3 cs (lrun L i)))
      case first =>
        by_cases h0 : i = 0
        · have d0 : ((i : Int) == 0) = true := by rw [beq_iff_eq]; omega
          have HT : Hid (N = true) := by show _ = _; rw [← hNN, decide_eq_true (.inl h0)]
          clear hNN h0
          go_quiet (fail)
          go_wp2_with fail
          go_meet
          exact ⟨by rw [HT.out], below_same HB.out rfl rfl rfl rfl, HP.out.below (below_same (Below.refl _ _) rfl rfl rfl rfl)⟩
        · have d0 : ((i : Int) == 0) = false := by rw [beq_eq_false_iff_ne]; omega
          obtain ⟨j, hj⟩ : ∃ j, j = i - 1 := ⟨_, rfl⟩
          obtain ⟨z, hz⟩ := nth_of HM.out (show j < m by omega)
          obtain ⟨g2, o2, e2, hZ⟩ := HV.out.at_ hz
          cases e2
          obtain ⟨z0, z1, z2⟩ := hZ
          have hw1 : IntKind.i64.wrap ((i : Int) - 1) = ((j : Nat) : Int) := by rw [IntWalk.i64_in _ (by omega)]; omega
          have hk3 : (j : Int) < (m : Int) := by omega
          have hk4 : (0 : Int) ≤ (j : Int) := by omega
          obtain ⟨q, hq⟩ : ∃ q, (x.ln != z.ln) = q := ⟨_, rfl⟩
          have HT : Hid (N = q) := by
            show _ = _
            rw [← hNN, ← hj, lnAt_of hx, lnAt_of hz, ← hq]
            by_cases e : x.ln = z.ln <;> simp [e, h0]
          clear hNN h0 hj hz
          go_quiet (fail)
          go_wp2_with fail
          go_meet
          exact ⟨by rw [HT.out], below_same HB.out rfl rfl rfl rfl, HP.out.below (below_same (Below.refl _ _) rfl rfl rfl rfl)⟩
      case rest =>
        clear HB HP hNN
        obtain ⟨rfl, HB, HP⟩ := hcut
        go_upto_if 30 with fail
        go_cut [3] from 31 to 33 (fun u wx => AtRow w1 (p + 1) G0 y u wx)
        case first =>
          cases N with
          | true =>
            have HG := HNX.out.2
            rw [if_pos rfl] at HG
            have HGE := Lib.hid HG.1
            have HY := Lib.hid HG.2
            have HCL : Hid (cs.length + 1 = p + 1) := by show _ = _; rw [HP.out.len, ← HG.1, HPL.out]
            have HSM : Hid (cs.length + 1 ≤ 1000000) := by show _ ≤ _; rw [HCL.out]; omega
            clear HG
            go_wp2_with (at_builtin; refine wp_rappend rfl _ _ rfl rfl rfl (HP.out.own.below (by repeat (first | exact Below.refl _ _ | (with_reducible assumption) | refine bw_alloc ?_ _ | refine bw_drew ?_))) (Nat.le_trans HB.out.size ((by repeat (first | exact Below.refl _ _ | (with_reducible assumption) | refine bw_alloc ?_ _ | refine bw_drew ?_)) : Below wc.heap.size wc _).size) (by rw [World.cell?_alloc_new]; rfl) rfl HSM.out (p + 1) HCL.out ?_; intro a3 k3 w3 o3 g3 l3; have HAT := Lib.hid (at_more (p := p) (below_up HB.out ((by repeat (first | exact Below.refl _ _ | (with_reducible assumption) | refine bw_alloc ?_ _ | refine bw_drew ?_)) : Below wc.heap.size wc _)) (HP.out.below ((by repeat (first | exact Below.refl _ _ | (with_reducible assumption) | refine bw_alloc ?_ _ | refine bw_drew ?_)) : Below wc.heap.size wc _)) o3 g3 (by rw [← HGE.out, HPL.out])); clear o3 g3 l3)
            go_meet
            rw [HY.out, HGE.out]; exact HAT.out
          | false =>
            have HG := HNX.out.2
            rw [if_neg (by simp)] at HG
            have HAT := Lib.hid (at_same HB.out (HG.2.2 ▸ HP.out) HPL.out)
            clear HG
            go_wp2_with fail
            go_meet
            exact HAT.out
        case rest =>
          clear HB HP HV
          unfold AtRow at hcut
          obtain ⟨hb, g, c, cs, u, rfl, hr⟩ := hcut
          have hcl : cs.length = p := by have := hr.len; simp at this; rw [this, HPL.out]
          obtain ⟨au, du, e5, ou⟩ := hr.each p y (by rw [← HPL.out]; simp)
          rw [← hcl] at e5
          simp only [List.getElem?_concat_length, Option.some.injEq] at e5
          subst e5
          obtain ⟨g5, c5, e6, f1, f2⟩ := rows_at hr
          simp only [Value.slice.injEq, Option.some.injEq, Addr.mk.injEq] at e6
          obtain ⟨⟨rfl, -⟩, -⟩ := e6
          rw [hcl] at f1 f2
          obtain ⟨n5, hn5⟩ : ∃ n5, y.length = n5 := ⟨_, rfl⟩
          rw [hn5] at f1 hr ou
          have HB := Lib.hid hb
          have HR := Lib.hid hr
          have HU := Lib.hid ou
          have hgl := block_of_cell f1
          have HY5 := Lib.hid hn5
          have HYL : Hid (n5 + 1 ≤ 1000000) := by
            show _ ≤ _
            have := lrun_each L (i + 1) (y ++ [x]) (by rw [HNX.out.1]; simp)
            rw [List.length_append, HY5.out, List.length_singleton] at this
            omega
          have HV := Lib.hid (O1.out.below hb)
          obtain ⟨g7, o7, e7, hA⟩ := HV.out.at_ hx
          cases e7
          obtain ⟨x0, x1, x2⟩ := hA
          have hgl1 := block_of_cell x0
          have HLN : Hid ((lrun L (i + 1)).length = p + 1) := by show _ = _; rw [HNX.out.1]; simp [HPL.out]
          have hwp : IntKind.i64.wrap ((p : Nat) : Int) = (p : Int) := IntWalk.i64_in _ (by omega)
          have hp1 : (p : Int) < (p : Int) + 1 := by omega
          have hp0 : (0 : Int) ≤ (p : Int) := by omega
          clear hb hr ou hcl hn5 hx
          go_upto_region 9 with fail
          go_region_law (first
            | (refine step_wappend (m := 1) (l := [x]) rfl (.tmp 42) (.tmp 47) rfl (by rfl) (by rfl) (HU.out.below (by repeat (first | exact Below.refl _ _ | (with_reducible assumption) | refine bw_alloc ?_ _ | refine bw_drew ?_))) (Nat.le_trans HB.out.size ((by repeat (first | exact Below.refl _ _ | (with_reducible assumption) | refine bw_alloc ?_ _ | refine bw_drew ?_)) : Below wc.heap.size wc _).size) (by first | exact WView.of_at (wat_new _ x _) | exact (WView.of_at (wat_new _ x _)).below (by repeat (first | exact Below.refl _ _ | (with_reducible assumption) | refine bw_alloc ?_ _ | refine bw_drew ?_))) rfl (by rw [HY5.out]; exact HYL.out) (fun z => by cases z) (n5 + 1) (by rw [HY5.out]) ?_
               intro a3 k3 w3 o3 g3 l3
               obtain ⟨q1, q2, q3, q4⟩ := row_grow (below_up HB.out ((by repeat (first | exact Below.refl _ _ | (with_reducible assumption) | refine bw_alloc ?_ _ | refine bw_drew ?_)) : Below wc.heap.size wc _)) (HR.out.below ((by repeat (first | exact Below.refl _ _ | (with_reducible assumption) | refine bw_alloc ?_ _ | refine bw_drew ?_)) : Below wc.heap.size wc _)) HPL.out (by simp) o3 g3 l3
               have HQ3 := Lib.hid q3
               have HQ4 := Lib.hid q4
               clear q3 q4 o3 g3 l3))
          all_goals
            go_wp2
            go_roundw
            case rel => exact ⟨i + 1, p + 1, _, by omega, by omega, by go_num, HLN, HQ4, Lib.hid (HNX.out.1.symm ▸ HQ3.out)⟩
            case measure => simp [intOf]; omega
    · obtain rfl : m = i := by omega
      obtain ⟨a5, c5, e5, l5, m5, _⟩ := HP.out.own.slice
      have HZ := Lib.hid HP.out.len
      rw [HZ.out] at e5
      subst e5
      go_wp2_with fail
      go_ret
      exact ⟨a5, c5, w1.heap.size, cs, by rw [HM.out]; rfl, B1.out.size, by rw [HM.out]; exact HP.out, below_up B1.out HB.out⟩
end Go.Proofs.YtlpffgmfgkleiaaDoor

/-
  Words of texts that are put together, in plain words.
-/
namespace Go.Proofs.YtlpffgmfgkleiaaDoor
open Go.RowKit Go.Maps

theorem byteAt_left (a c : ByteArray) {i : Nat} (h : i < a.size) : byteAt (a ++ c) i = byteAt a i := by
  have h2 : i < (a ++ c).size := by rw [ByteArray.size_append]; omega
  rw [(byteAt_in _ h2).2, (byteAt_in a h).2, ByteArray.getElem_append_left h]
theorem byteAt_right (a c : ByteArray) (i : Nat) : byteAt (a ++ c) (a.size + i) = byteAt c i := by
  rcases Nat.lt_or_ge i c.size with h | h
  · have h2 : a.size + i < (a ++ c).size := by rw [ByteArray.size_append]; omega
    rw [(byteAt_in _ h2).2, (byteAt_in c h).2, ByteArray.getElem_append_right (by omega)]
    simp only [Nat.add_sub_cancel_left]
  · rw [byteAt_end c h, byteAt_end (a ++ c) (by rw [ByteArray.size_append]; omega)]
theorem ba_nil {x : ByteArray} (h : x.size = 0) : x = ByteArray.empty := by
  apply ByteArray.ext
  have : x.data.size = 0 := h
  rw [Array.size_eq_zero_iff.1 this]; rfl
theorem ba_add_nil (x : ByteArray) : x ++ ByteArray.empty = x := by
  apply ByteArray.ext
  rw [ByteArray.data_append]
  show x.data ++ #[] = x.data
  simp
theorem ba_nil_add (x : ByteArray) : ByteArray.empty ++ x = x := by
  apply ByteArray.ext
  rw [ByteArray.data_append]
  show #[] ++ x.data = x.data
  simp
theorem ex_left (a c : ByteArray) {f k : Nat} (h : k ≤ a.size) : (a ++ c).extract f k = a.extract f k := by
  rw [ByteArray.extract_append, show k - a.size = 0 by omega, ba_nil (x := c.extract (f - a.size) 0) (by rw [ByteArray.size_extract]; omega), ba_add_nil]
theorem ex_right (a c : ByteArray) (f k : Nat) : (a ++ c).extract (a.size + f) (a.size + k) = c.extract f k := by
  rw [ByteArray.extract_append, ba_nil (x := a.extract (a.size + f) (a.size + k)) (by rw [ByteArray.size_extract]; omega), ba_nil_add, Nat.add_sub_cancel_left, Nat.add_sub_cancel_left]

/-- What the answer knows at a place depends on the bytes ahead alone. -/
theorem wrun_same (s t : ByteArray) : ∀ i, (∀ j, j < i → byteAt s j = byteAt t j) → (∀ f k, k < i → s.extract f k = t.extract f k) → wrun s i = wrun t i
  | 0, _, _ => rfl
  | i + 1, h, e => by
    rw [wrun, wrun, wrun_same s t i (fun j hj => h j (by omega)) (fun f k hk => e f k (by omega))]
    unfold wstep
    rw [h i (by omega), e _ i (by omega)]
/-- How many lines' ends stand ahead of a place. -/
def ends (s : ByteArray) : Nat → Nat
  | 0 => 0
  | i + 1 => ends s i + if byteAt s i = 10 then 1 else 0
theorem wrun_ln (s : ByteArray) : ∀ i, (wrun s i).ln = 1 + (ends s i : Nat)
  | 0 => rfl
  | i + 1 => by
    rw [wrun, ends]
    have ih := wrun_ln s i
    generalize wrun s i = q at ih ⊢
    unfold wstep
    simp only []
    split
    · simp only []
      split <;> omega
    · rename_i h
      have : ¬ byteAt s i = 10 := fun q => h (.inl q)
      rw [if_neg this]
      simp only []; omega
/-- Behind a line's end nothing is under way. -/
theorem wrun_nl (s : ByteArray) {i : Nat} (h : byteAt s i = 10) : (wrun s (i + 1)).fr = -1 ∧ (wrun s (i + 1)).off = false := by
  rw [wrun]; unfold wstep
  simp only []
  rw [if_pos (.inl h)]
  simp only []
  exact ⟨trivial, by rw [if_pos h]⟩
def shiftW (p : Nat) (k : Int) (x : WV) : WV := ⟨x.at_ + p, x.ln + k, x.tx⟩
/-- What the answer knows behind a first text that ends a line. -/
theorem wrun_on (s b : ByteArray) (p : Nat) (q : LS) (hq : wrun s p = q) (hf : q.fr = -1) (ho : q.off = false) (hb : ∀ j, byteAt s (p + j) = byteAt b j) (he : ∀ f k, s.extract (p + f) (p + k) = b.extract f k) : ∀ j, j ≤ b.size + 1 →
    wrun s (p + j) = ⟨q.out ++ (wrun b j).out.map (shiftW p (q.ln - 1)), q.ln - 1 + (wrun b j).ln, if (wrun b j).fr < 0 then -1 else (wrun b j).fr + p, (wrun b j).off⟩
  | 0, _ => by
    rw [Nat.add_zero, hq]
    obtain ⟨o, l, f, n⟩ := q
    simp only [] at hf ho
    subst hf ho
    simp [wrun]
  | j + 1, hj => by
    rw [← Nat.add_assoc, wrun, wrun_on s b p q hq hf ho hb he j (by omega), wrun]
    have iv := wrun_inv b j (by omega)
    generalize wrun b j = r at iv ⊢
    obtain ⟨o, l, f, n⟩ := r
    simp only [] at iv
    unfold wstep
    rw [hb j]
    simp only []
    by_cases h1 : byteAt b j = 10 ∨ (n || decide (byteAt b j = 35)) = true ∨ byteAt b j = 32 ∨ byteAt b j = 9
    · rw [if_pos h1, if_pos h1]
      simp only [LS.mk.injEq]
      refine ⟨?_, ?_, by rw [if_pos (by omega)], trivial⟩
      · by_cases hneg : f < 0
        · rw [if_pos hneg, if_pos hneg, if_pos (by omega)]
        · rw [if_neg hneg, if_neg hneg, if_neg (by omega), List.map_append, List.append_assoc]
          have e1 : (f + (p : Int)).toNat = p + f.toNat := by omega
          rw [e1, he]
          simp only [List.map_cons, List.map_nil, shiftW]
          congr 2
          congr 2
          omega
      · split <;> omega
    · rw [if_neg h1, if_neg h1]
      simp only [LS.mk.injEq, true_and, and_true]
      by_cases hneg : f < 0
      · rw [if_pos hneg, if_pos hneg, if_pos (by omega), if_neg (by omega)]
        omega
      · rw [if_neg hneg, if_neg hneg, if_neg (by omega), if_neg (by omega)]
def nl : ByteArray := ⟨#[10]⟩
/-- The words of two texts with a line's end between them. -/
theorem words_parts (a b : ByteArray) : wordsOf (a ++ nl ++ b) = wordsOf a ++ (wordsOf b).map (shiftW (a.size + 1) (ends a a.size + 1 : Nat)) := by
  have hn : nl.size = 1 := rfl
  have h1 : wrun (a ++ nl ++ b) (a.size + 1) = wrun a (a.size + 1) := by
    have hs : byteAt (a ++ nl ++ b) a.size = 10 := by
      rw [byteAt_left _ _ (by rw [ByteArray.size_append]; omega)]
      have := byteAt_right a nl 0
      rw [Nat.add_zero] at this
      rw [this]; rfl
    refine wrun_same _ _ _ (fun j hj => ?_) (fun f k hk => ?_)
    · rcases Nat.lt_or_ge j a.size with q | q
      · rw [byteAt_left _ _ (by rw [ByteArray.size_append]; omega), byteAt_left _ _ q]
      · rw [show j = a.size by omega, hs, byteAt_end a (Nat.le_refl _)]
    · rw [ex_left _ _ (by rw [ByteArray.size_append]; omega), ex_left _ _ (by omega)]
  have hz := wrun_nl a (byteAt_end a (Nat.le_refl _))
  have hp : (a ++ nl).size = a.size + 1 := by rw [ByteArray.size_append, hn]
  have hl := wrun_ln a (a.size + 1)
  rw [ends, byteAt_end a (Nat.le_refl _), if_pos rfl] at hl
  have := wrun_on (a ++ nl ++ b) b (a.size + 1) _ h1 hz.1 hz.2 (fun j => by rw [← hp]; exact byteAt_right _ _ j) (fun f k => by rw [← hp]; exact ex_right _ _ f k) (b.size + 1) (by omega)
  unfold wordsOf
  rw [ByteArray.size_append, hp, show a.size + 1 + b.size + 1 = a.size + 1 + (b.size + 1) by omega, this, hl]
  simp only []
  congr 3
  omega
end Go.Proofs.YtlpffgmfgkleiaaDoor

/-
  The lines of a text by their words' texts alone: a machine that takes byte after byte.
-/
namespace Go.Proofs.YtlpffgmfgkleiaaDoor
open Go.RowKit Go.Maps

/-! ### the machine -/
structure AQ where
  done : List (List ByteArray)
  cur : List ByteArray
  word : ByteArray
  off : Bool
abbrev noB : ByteArray := ⟨#[]⟩
def AQ.close (q : AQ) : List ByteArray := if q.word.size = 0 then q.cur else q.cur ++ [q.word]
def AQ.lines (q : AQ) : List (List ByteArray) := if q.close = [] then q.done else q.done ++ [q.close]
def astep (q : AQ) (c : UInt8) : AQ :=
  if c.toNat = 10 then ⟨q.lines, [], noB, false⟩
  else if (q.off || decide (c.toNat = 35)) = true then ⟨q.done, q.close, noB, true⟩
  else if c.toNat = 32 ∨ c.toNat = 9 then ⟨q.done, q.close, noB, false⟩
  else ⟨q.done, q.cur, q.word ++ ⟨#[c]⟩, q.off⟩
def arunL (l : List UInt8) (q : AQ) : AQ := l.foldl astep q
def arun (s : ByteArray) (q : AQ) : AQ := arunL s.data.toList q
def aZ (d : List (List ByteArray)) : AQ := ⟨d, [], noB, false⟩
/-- The lines of a text, by their words' texts. -/
def linesTx (s : ByteArray) : List (List ByteArray) := (arun s (aZ [])).lines

/-! ### the lines that words make -/
theorem lrun_same (L M : List WV) : ∀ i, (∀ j, j < i → L[j]? = M[j]?) → lrun L i = lrun M i
  | 0, _ => rfl
  | i + 1, h => by
    have e1 : L[i]? = M[i]? := h i (by omega)
    have e2 : lnAt L i = lnAt M i := by unfold lnAt; rw [e1]
    have e3 : i = 0 ∨ lnAt L (i - 1) = lnAt M (i - 1) := by
      rcases Nat.eq_zero_or_pos i with q | q
      · exact .inl q
      · refine .inr ?_; unfold lnAt; rw [h (i - 1) (by omega)]
    rw [lrun, lrun, lrun_same L M i (fun j hj => h j (by omega)), e1, e2]
    rcases e3 with e3 | e3
    · rw [if_pos (.inl e3), if_pos (.inl e3)]
    · rw [e3]
theorem lrun_snoc (L : List WV) (x : WV) : lrun (L ++ [x]) (L.length + 1) = if L = [] ∨ (∃ y, L.getLast? = some y ∧ x.ln ≠ y.ln) then lrun L L.length ++ [[x]] else (lrun L L.length).dropLast ++ [((lrun L L.length).getLast?.getD []) ++ [x]] := by
  have h1 : lrun (L ++ [x]) L.length = lrun L L.length := lrun_same _ _ _ (fun j hj => List.getElem?_append_left hj)
  have h2 : (L ++ [x])[L.length]? = some x := by rw [List.getElem?_append_right (Nat.le_refl _), Nat.sub_self]; rfl
  rw [lrun, h1, h2]
  have h3 : (L.length = 0 ∨ lnAt (L ++ [x]) L.length ≠ lnAt (L ++ [x]) (L.length - 1)) ↔ (L = [] ∨ (∃ y, L.getLast? = some y ∧ x.ln ≠ y.ln)) := by
    rcases List.eq_nil_or_concat L with rfl | ⟨M, y, rfl⟩
    · simp
    · rw [List.concat_eq_append] at h2 ⊢
      have h4 : (M ++ [y] ++ [x])[(M ++ [y]).length - 1]? = some y := by simp
      rw [lnAt_of h2, lnAt_of h4]
      simp
  by_cases c : L = [] ∨ (∃ y, L.getLast? = some y ∧ x.ln ≠ y.ln)
  · rw [if_pos c, if_pos (h3.2 c)]; rfl
  · rw [if_neg c, if_neg (fun q => c (h3.1 q))]; rfl

/-! ### the machine against the document's answer -/
structure Rel (out : List WV) (ln : Int) (done : List (List ByteArray)) (cur : List ByteArray) : Prop where
  g : (lrun out out.length).map (·.map WV.tx) = if cur = [] then done else done ++ [cur]
  hi : ∀ x, out.getLast? = some x → x.ln ≤ ln
  is : ∀ x, out.getLast? = some x → (x.ln = ln ↔ cur ≠ [])
  no : out = [] → cur = []
theorem Rel.add {out : List WV} {ln : Int} {done : List (List ByteArray)} {cur : List ByteArray} (h : Rel out ln done cur) {x : WV} (hx : x.ln = ln) : Rel (out ++ [x]) ln done (cur ++ [x.tx]) := by
  refine ⟨?_, fun y hy => ?_, fun y hy => ?_, fun q => ?_⟩
  · rw [List.length_append, List.length_singleton, lrun_snoc, if_neg (c := cur ++ [x.tx] = []) (by simp)]
    by_cases hc : cur = []
    · have : out = [] ∨ (∃ y, out.getLast? = some y ∧ x.ln ≠ y.ln) := by
        rcases List.eq_nil_or_concat out with rfl | ⟨M, y, rfl⟩
        · exact .inl rfl
        · refine .inr ⟨y, by simp, fun q => ?_⟩
          exact (h.is y (by simp)).1 (by omega) hc
      rw [if_pos this, List.map_append, h.g, if_pos hc, hc]
      rfl
    · have : ¬ (out = [] ∨ (∃ y, out.getLast? = some y ∧ x.ln ≠ y.ln)) := by
        rintro (q | ⟨y, q1, q2⟩)
        · exact hc (h.no q)
        · exact q2 (hx.trans ((h.is y q1).2 hc).symm)
      rw [if_neg this]
      have hg := h.g
      rw [if_neg hc] at hg
      rcases List.eq_nil_or_concat (lrun out out.length) with e | ⟨G, g, e⟩
      · rw [e] at hg; simp at hg
      · rw [e] at hg ⊢
        rw [List.concat_eq_append] at hg ⊢
        rw [List.map_append] at hg
        obtain ⟨q1, q2⟩ := List.append_inj' hg rfl
        rw [List.dropLast_concat, List.getLast?_concat, List.map_append, q1]
        simp only [List.map_cons, List.map_nil, List.cons.injEq, and_true] at q2
        simp [q2]
  · rw [List.getLast?_concat] at hy; cases hy; omega
  · rw [List.getLast?_concat] at hy; cases hy; simp [hx]
  · simp at q
theorem Rel.line {out : List WV} {ln : Int} {done : List (List ByteArray)} {cur : List ByteArray} (h : Rel out ln done cur) : Rel out (ln + 1) (if cur = [] then done else done ++ [cur]) [] :=
  ⟨by rw [if_pos rfl]; exact h.g, fun x hx => by have := h.hi x hx; omega, fun x hx => ⟨fun q => by have := h.hi x hx; omega, fun q => absurd rfl q⟩, fun _ => rfl⟩
theorem ext_one (s : ByteArray) {f i : Nat} (hf : f ≤ i) (hi : i < s.size) : s.extract f (i + 1) = s.extract f i ++ ⟨#[s[i]]⟩ := by
  have := ByteArray.extract_append_extract (a := s) (i := f) (j := i) (k := i + 1)
  rw [Nat.min_eq_left hf, Nat.max_eq_right (by omega)] at this
  rw [← this]
  congr 1
  apply ByteArray.ext
  rw [ByteArray.data_extract]
  show s.data.extract i (i + 1) = #[s.data[i]]
  apply Array.ext
  · simp; omega
  · intro j h1 h2
    simp at h1 h2
    have : j = 0 := by omega
    subst this
    simp
theorem astep_nl (q : AQ) {c : UInt8} (h : c.toNat = 10) : astep q c = ⟨q.lines, [], noB, false⟩ := by unfold astep; rw [if_pos h]
theorem astep_off (q : AQ) {c : UInt8} (h : c.toNat ≠ 10) (h2 : (q.off || decide (c.toNat = 35)) = true) : astep q c = ⟨q.done, q.close, noB, true⟩ := by unfold astep; rw [if_neg h, if_pos h2]
theorem astep_sp (q : AQ) {c : UInt8} (h : c.toNat ≠ 10) (h2 : ¬ (q.off || decide (c.toNat = 35)) = true) (h3 : c.toNat = 32 ∨ c.toNat = 9) : astep q c = ⟨q.done, q.close, noB, false⟩ := by unfold astep; rw [if_neg h, if_neg h2, if_pos h3]
theorem astep_in (q : AQ) {c : UInt8} (h : c.toNat ≠ 10) (h2 : ¬ (q.off || decide (c.toNat = 35)) = true) (h3 : ¬ (c.toNat = 32 ∨ c.toNat = 9)) : astep q c = ⟨q.done, q.cur, q.word ++ ⟨#[c]⟩, q.off⟩ := by unfold astep; rw [if_neg h, if_neg h2, if_neg h3]
def wclose (s : ByteArray) (i : Nat) (q : LS) : List WV := if q.fr < 0 then q.out else q.out ++ [⟨q.fr, q.ln, s.extract q.fr.toNat i⟩]
theorem wstep_nl (s : ByteArray) (i : Nat) (q : LS) (h : byteAt s i = 10) : wstep s i q = ⟨wclose s i q, q.ln + 1, -1, false⟩ := by unfold wstep; simp only []; rw [if_pos (.inl h)]; simp only [if_pos h]; rfl
theorem wstep_cl (s : ByteArray) (i : Nat) (q : LS) (h : byteAt s i ≠ 10) (h2 : (q.off || decide (byteAt s i = 35)) = true ∨ byteAt s i = 32 ∨ byteAt s i = 9) : wstep s i q = ⟨wclose s i q, q.ln, -1, q.off || decide (byteAt s i = 35)⟩ := by unfold wstep; simp only []; rw [if_pos (.inr h2)]; simp only [if_neg h]; rfl
theorem wstep_in (s : ByteArray) (i : Nat) (q : LS) (h : byteAt s i ≠ 10) (h2 : ¬ (q.off || decide (byteAt s i = 35)) = true) (h3 : ¬ (byteAt s i = 32 ∨ byteAt s i = 9)) : wstep s i q = ⟨q.out, q.ln, if q.fr < 0 then (i : Int) else q.fr, q.off⟩ := by
  unfold wstep; simp only []
  rw [if_neg (fun x => x.elim h (fun y => y.elim h2 h3))]
structure Sim (s : ByteArray) (i : Nat) (q : LS) (A : AQ) : Prop where
  off : A.off = q.off
  w0 : q.fr < 0 → A.word = noB
  w1 : 0 ≤ q.fr → q.fr < i ∧ A.word = s.extract q.fr.toNat i
  rel : Rel q.out q.ln A.done A.cur
theorem Sim.close {s : ByteArray} {i : Nat} {q : LS} {A : AQ} (h : Sim s i q A) (hi : i ≤ s.size) : Rel (if q.fr < 0 then q.out else q.out ++ [⟨q.fr, q.ln, s.extract q.fr.toNat i⟩]) q.ln A.done A.close := by
  unfold AQ.close
  by_cases hf : q.fr < 0
  · rw [if_pos hf, h.w0 hf, if_pos (show noB.size = 0 from rfl)]; exact h.rel
  · obtain ⟨h1, h2⟩ := h.w1 (by omega)
    rw [if_neg hf, if_neg (by rw [h2, ByteArray.size_extract]; omega), h2]
    exact h.rel.add (x := ⟨q.fr, q.ln, s.extract q.fr.toNat i⟩) rfl
theorem sim_run (s : ByteArray) : ∀ i, i ≤ s.size → Sim s i (wrun s i) (arunL (s.data.toList.take i) (aZ []))
  | 0, _ => ⟨rfl, fun _ => rfl, fun h => by simp [wrun] at h, ⟨rfl, fun x hx => by simp [wrun] at hx, fun x hx => by simp [wrun] at hx, fun _ => rfl⟩⟩
  | i + 1, h => by
    have ih := sim_run s i (by omega)
    have hb := (byteAt_in s (i := i) (by omega)).2
    have ht : s.data.toList.take (i + 1) = s.data.toList.take i ++ [s[i]] := by
      rw [List.take_add_one, List.getElem?_eq_getElem (by rw [Array.length_toList]; exact h)]
      rfl
    have hc := ih.close (by omega)
    rw [ht, arunL, List.foldl_append]
    show Sim s (i + 1) (wrun s (i + 1)) (astep (arunL (s.data.toList.take i) (aZ [])) s[i])
    rw [wrun]
    generalize wrun s i = q at ih hc ⊢
    generalize arunL (s.data.toList.take i) (aZ []) = A at ih hc ⊢
    by_cases c1 : s[i].toNat = 10
    · rw [wstep_nl s i q (hb.trans c1), astep_nl A c1]
      exact ⟨rfl, fun _ => rfl, fun q => by simp only [] at q; omega, hc.line⟩
    · by_cases c2 : (q.off || decide (s[i].toNat = 35)) = true
      · rw [wstep_cl s i q (by rw [hb]; exact c1) (.inl (by rw [hb]; exact c2)), astep_off A c1 (by rw [ih.off]; exact c2), hb, c2]
        exact ⟨rfl, fun _ => rfl, fun q => by simp only [] at q; omega, hc⟩
      · by_cases c3 : s[i].toNat = 32 ∨ s[i].toNat = 9
        · rw [wstep_cl s i q (by rw [hb]; exact c1) (.inr (by rw [hb]; exact c3)), astep_sp A c1 (by rw [ih.off]; exact c2) c3, hb]
          exact ⟨(Bool.eq_false_iff.2 c2).symm, fun _ => rfl, fun q => by simp only [] at q; omega, hc⟩
        · rw [wstep_in s i q (by rw [hb]; exact c1) (by rw [hb]; exact c2) (by rw [hb]; exact c3), astep_in A c1 (by rw [ih.off]; exact c2) c3]
          refine ⟨ih.off, fun q => ?_, fun hq => ?_, ih.rel⟩
          · simp only [] at q; split at q <;> omega
          · simp only [] at hq ⊢
            by_cases hf : q.fr < 0
            · rw [if_pos hf, ih.w0 hf]
              refine ⟨by omega, ?_⟩
              rw [Int.toNat_natCast, ext_one s (Nat.le_refl _) h]
              congr 1
              apply ByteArray.ext
              rw [ByteArray.data_extract]
              simp
              omega
            · obtain ⟨h1, h2⟩ := ih.w1 (by omega)
              rw [if_neg hf, h2]
              exact ⟨by omega, (ext_one s (by omega) h).symm⟩
theorem lines_tx (s : ByteArray) : (linesOf s).map (·.map WV.tx) = linesTx s := by
  have h := sim_run s s.size (Nat.le_refl _)
  rw [List.take_of_length_le (by rw [Array.length_toList]; exact Nat.le_refl _)] at h
  have hc := (h.close (Nat.le_refl _)).line
  unfold linesOf wordsOf linesTx arun
  rw [wrun]
  generalize wrun s s.size = q at hc ⊢
  rw [wstep_nl s _ q (byteAt_end s (Nat.le_refl _))]
  have := hc.g
  rw [if_pos rfl] at this
  exact this

/-! ### texts that are put together -/
theorem arun_append (a b : ByteArray) (q : AQ) : arun (a ++ b) q = arun b (arun a q) := by
  unfold arun arunL
  rw [ByteArray.data_append, Array.toList_append, List.foldl_append]
theorem arun_none (q : AQ) : arun noB q = q := rfl
/-- Bytes of a word alone. -/
def Clean (w : ByteArray) : Prop := ∀ c ∈ w.data.toList, c.toNat ≠ 10 ∧ c.toNat ≠ 35 ∧ c.toNat ≠ 32 ∧ c.toNat ≠ 9
theorem Clean.append {a b : ByteArray} (h : Clean a) (k : Clean b) : Clean (a ++ b) := by
  intro c hc
  rw [ByteArray.data_append, Array.toList_append] at hc
  exact (List.mem_append.1 hc).elim (h c) (k c)
theorem clean_run (d : List (List ByteArray)) (cur : List ByteArray) : ∀ (l : List UInt8) (w : ByteArray), (∀ c ∈ l, c.toNat ≠ 10 ∧ c.toNat ≠ 35 ∧ c.toNat ≠ 32 ∧ c.toNat ≠ 9) → arunL l ⟨d, cur, w, false⟩ = ⟨d, cur, w ++ ⟨l.toArray⟩, false⟩
  | [], w, _ => by
    show (⟨d, cur, w, false⟩ : AQ) = _
    rw [show (⟨([] : List UInt8).toArray⟩ : ByteArray) = ByteArray.empty from rfl, ba_add_nil]
  | c :: l, w, h => by
    obtain ⟨h1, h2, h3, h4⟩ := h c (List.mem_cons_self ..)
    have : astep ⟨d, cur, w, false⟩ c = ⟨d, cur, w ++ ⟨#[c]⟩, false⟩ := astep_in _ h1 (by simp [h2]) (fun q => q.elim h3 h4)
    have ih := clean_run d cur l (w ++ ⟨#[c]⟩) (fun x hx => h x (List.mem_cons_of_mem _ hx))
    rw [arunL, List.foldl_cons, this, ← arunL, ih, ByteArray.append_assoc]
    congr 2
theorem arun_clean {w : ByteArray} (h : Clean w) (d : List (List ByteArray)) (cur : List ByteArray) (v : ByteArray) : arun w ⟨d, cur, v, false⟩ = ⟨d, cur, v ++ w, false⟩ := by
  unfold arun
  rw [clean_run d cur _ _ h]
theorem arun_byte (c : UInt8) (q : AQ) : arun ⟨#[c]⟩ q = astep q c := rfl
theorem sp_close (d : List (List ByteArray)) (cur : List ByteArray) (v : ByteArray) (h : 0 < v.size) : astep ⟨d, cur, v, false⟩ 32 = ⟨d, cur ++ [v], noB, false⟩ := by
  rw [astep_sp _ (show (32 : UInt8).toNat ≠ 10 by decide) (by simp) (.inl (show (32 : UInt8).toNat = 32 by decide))]
  unfold AQ.close
  rw [if_neg (show ¬ v.size = 0 by omega)]
theorem nl_lines (d : List (List ByteArray)) (cur : List ByteArray) (v : ByteArray) (h : 0 < v.size) : astep ⟨d, cur, v, false⟩ 10 = aZ (d ++ [cur ++ [v]]) := by
  rw [astep_nl _ (show (10 : UInt8).toNat = 10 by decide)]
  unfold AQ.lines AQ.close aZ
  rw [if_neg (show ¬ v.size = 0 by omega), if_neg (by simp)]
end Go.Proofs.YtlpffgmfgkleiaaDoor

/-
  The walks over texts that are cut, and over pairs.
-/
namespace Go.Proofs.YtlpffgmfgkleiaaDoor
open Go.RowKit Go.Maps

def shortOf (s : ByteArray) (n : Nat) : ByteArray := if n < s.size then s.extract 0 n else s
set_option maxHeartbeats 1000000 in
theorem short_any (s : ByteArray) (n : Nat) (hn : (n : Int) ≤ 1000000) (w : World) : Calls Tryd.prog 9 #[.string s, .int .i64 n] w fun e w' => e = .returned (.string (shortOf s n)) ∧ w = w' := by
  unfold shortOf
  by_cases h : n < s.size
  · rw [if_pos h]
    have h1 : (n : Int) < (s.size : Int) := by omega
    have h2 : (n : Int) ≤ (s.size : Int) := by omega
    go_enter Tryd.func9, Tryd.ntmps9
    go_wp2
    go_ret
    exact ⟨rfl, rfl⟩
  · rw [if_neg h]
    have h1 : ¬ (n : Int) < (s.size : Int) := by omega
    go_enter Tryd.func9, Tryd.ntmps9
    go_wp2
    go_ret
    exact ⟨rfl, rfl⟩

/-- The first place of a byte. -/
def FirstByte (s : ByteArray) (c : Nat) (i : Nat) : Prop := i < s.size ∧ byteAt s i = c ∧ ∀ j, j < i → byteAt s j ≠ c
def NoByte (s : ByteArray) (c : Nat) : Prop := ∀ j, j < s.size → byteAt s j ≠ c
/-- A text without a line's end. -/
def LineIs (s t : ByteArray) : Prop := (NoByte s 10 ∧ t = s) ∨ ∃ i, FirstByte s 10 i ∧ t = s.extract 0 i
theorem zeroTwo (w : World) : (zeroValue 103).run Tryd.prog w = .ok (.agg #[.string ⟨#[]⟩, .string ⟨#[]⟩, .bool false]) w := by kernel_rfl
/-- What a pair is made of. -/
def PairIs (s : ByteArray) (x y : ByteArray) (b : Bool) : Prop :=
  (NoByte s 61 ∧ x = ⟨#[]⟩ ∧ y = ⟨#[]⟩ ∧ b = false) ∨ ∃ i, FirstByte s 61 i ∧ x = s.extract 0 i ∧ y = s.extract (i + 1) s.size ∧ b = true
def PairBack (s : ByteArray) (w : World) (e : Ending) (w' : World) : Prop := ∃ x y b, e = .returned (.agg #[.string x, .string y, .bool b]) ∧ PairIs s x y b ∧ Below w.heap.size w w'
set_option maxRecDepth 100000 in
set_option maxHeartbeats 2000000 in
theorem rpair_any (s : ByteArray) (hs : (s.size : Int) ≤ 9223372036854775807) (w : World) : Calls Tryd.prog 67 #[.string s] w (PairBack s w) := by
  have hz := zeroTwo
  go_enter Tryd.func67, Tryd.ntmps67
  go_upto_region 1 with fail
  refine gen_world (fun v => Below w.heap.size w v ∧ v.heap[w.heap.size]? = some (.cells #[.string ⟨#[]⟩, .string ⟨#[]⟩, .bool false] 103 (0, 0))) ⟨(by repeat (first | exact Below.refl _ _ | (with_reducible assumption) | refine bw_alloc ?_ _ | refine bw_drew ?_)), heap_alloc_new w _⟩ ?_
  intro W1 ⟨hl1, hb1⟩
  have HL := Lib.hid hl1
  have r0 : W1.cell? ⟨w.heap.size, 0, none⟩ = some (.string ⟨#[]⟩) := by rw [blk_cell hb1]; rfl
  have r1 : W1.cell? ⟨w.heap.size, 1, none⟩ = some (.string ⟨#[]⟩) := by rw [blk_cell hb1]; rfl
  have r2 : W1.cell? ⟨w.heap.size, 2, none⟩ = some (.bool false) := by rw [blk_cell hb1]; rfl
  have f0 := blk_free hb1 0
  have f1 := blk_free hb1 1
  have f2 := blk_free hb1 2
  have hr := lt_of_block hb1
  clear hl1 hb1
  go_wp2_with fail
  go_loop [3] (fun u => ∃ i : Nat, i ≤ s.size ∧ u = .int .i64 i ∧ Hid (∀ j, j < i → byteAt s j ≠ 61)) (fun u => (s.size - intOf u).toNat)
  case atStart => exact ⟨0, by omega, rfl, fun j hj => absurd hj (Nat.not_lt_zero _)⟩
  case round =>
    obtain ⟨i, hi, rfl, HS⟩ := hrel
    by_cases hlt : i < s.size
    · have hk1 : (i : Int) < (s.size : Int) := by omega
      have hk2 : (i : Int) ≤ (s.size : Int) := by omega
      have hk0 : (0 : Int) ≤ (i : Int) := by omega
      have hb := (byteAt_in s hlt).2
      by_cases hq : s[i].toNat = 61
      · have d1 : ((s[i].toNat : Int) == 61) = true := by rw [beq_iff_eq]; omega
        have HF : Hid (FirstByte s 61 i) := ⟨hlt, by rw [hb]; exact hq, HS.out⟩
        have hk3 : (i : Int) + 1 ≤ (s.size : Int) := by omega
        have hk4 : (0 : Int) ≤ (i : Int) + 1 := by omega
        clear hb hq
        have HD : Hid (∀ v, Below w.heap.size w v → PairBack s w (.returned (.agg #[.string (s.extract 0 i), .string (s.extract (i + 1) s.size), .bool true])) v) := fun v hv => ⟨_, _, _, rfl, .inr ⟨i, HF.out, rfl, rfl, rfl⟩, hv⟩
        have hwi : IntKind.i64.wrap ((i : Int) + 1) = ((i + 1 : Nat) : Int) := (IntWalk.i64_in _ (by omega)).trans (by omega)
        have hk5 : ((i + 1 : Nat) : Int) ≤ (s.size : Int) := by omega
        have hk6 : (0 : Int) ≤ ((i + 1 : Nat) : Int) := by omega
        clear hk3 hk4 HS
        go_upto_region 5 with fail
        go_region
        all_goals
          go_wp2_with fail
          exact bodyPost_ret (v := .agg #[.string (s.extract 0 i), .string (s.extract (i + 1) s.size), .bool true]) (by simp [results, Tryd.results67, go_sem, r0, r1, r2]) rfl (HD.out _ (((HL.out.drew.setCell (p := ⟨w.heap.size, 0, none⟩) (Nat.le_refl _) _).setCell (p := ⟨w.heap.size, 1, none⟩) (Nat.le_refl _) _).setCell (p := ⟨w.heap.size, 2, none⟩) (Nat.le_refl _) _))
      · have d1 : ((s[i].toNat : Int) == 61) = false := by rw [beq_eq_false_iff_ne]; omega
        have HS2 : Hid (∀ j, j < i + 1 → byteAt s j ≠ 61) := fun j hj => by
          rcases Nat.lt_or_ge j i with h | h
          · exact HS.out j h
          · have e : j = i := by omega
            subst e; rw [hb]; exact hq
        clear hb hq HS
        go_wp2_with fail
        go_round
        case rel => exact ⟨i + 1, by omega, by go_num, HS2⟩
        case measure => simp [intOf]; omega
    · have e : i = s.size := by omega
      have HN : Hid (NoByte s 61) := fun j hj => HS.out j (by omega)
      have hk1 : ¬ (i : Int) < (s.size : Int) := by omega
      clear e HS
      go_wp2_with fail
      exact bodyPost_ret (v := .agg #[.string ⟨#[]⟩, .string ⟨#[]⟩, .bool false]) (by simp [results, Tryd.results67, go_sem, r0, r1, r2]) rfl ⟨⟨#[]⟩, ⟨#[]⟩, false, rfl, .inl ⟨HN.out, rfl, rfl, rfl⟩, ((HL.out.setCell (p := ⟨w.heap.size, 0, none⟩) (Nat.le_refl _) _).setCell (p := ⟨w.heap.size, 1, none⟩) (Nat.le_refl _) _).setCell (p := ⟨w.heap.size, 2, none⟩) (Nat.le_refl _) _⟩
end Go.Proofs.YtlpffgmfgkleiaaDoor

/-
  The walks over numbers of a text.
-/
namespace Go.Proofs.YtlpffgmfgkleiaaDoor
open Go.RowKit Go.Maps

/-- The number that the first bytes are, if they are digits, and it is not too great. -/
def nrun (s : ByteArray) : Nat → Option Nat
  | 0 => some 0
  | i + 1 => match nrun s i with
    | none => none
    | some n => if byteAt s i < 48 ∨ 57 < byteAt s i ∨ (9223372036854775807 - (byteAt s i - 48)) / 10 < n then none else some (10 * n + (byteAt s i - 48))
def numOf (s : ByteArray) (most : Int) : Option Nat :=
  if s.size = 0 ∨ (1 < s.size ∧ byteAt s 0 = 48) then none else match nrun s s.size with
    | none => none
    | some n => if most < (n : Int) then none else some n
theorem nrun_small (s : ByteArray) : ∀ i n, nrun s i = some n → n ≤ 9223372036854775807
  | 0, n, h => by simp [nrun] at h; omega
  | i + 1, n, h => by
    rw [nrun] at h
    split at h
    · cases h
    · rename_i m _
      split at h
      · cases h
      · rename_i q
        simp only [not_or, Nat.not_lt] at q
        cases h
        omega
theorem nrun_none (s : ByteArray) {i : Nat} (h : nrun s i = none) : ∀ j, i ≤ j → nrun s j = none := by
  intro j hj
  induction j with
  | zero => have : i = 0 := by omega
            subst this; exact h
  | succ j ih =>
    rcases Nat.lt_or_ge j i with q | q
    · have : i = j + 1 := by omega
      subst this; exact h
    · rw [nrun, ih q]
theorem zeroNumb (w : World) : (zeroValue 70).run Tryd.prog w = .ok (.agg #[.int .i64 0, .bool false]) w := by kernel_rfl
/-- A number that comes back. -/
def NumB (o : Option Nat) (w : World) (e : Ending) (w' : World) : Prop :=
  e = .returned (.agg #[.int .i64 ((o.getD 0 : Nat) : Int), .bool o.isSome]) ∧ Below w.heap.size w w'
theorem loop_len (s : ByteArray) : ∀ (k i : Nat) (r : List UInt8), s.size - i = k → (ByteArray.toList.loop s i r).length = r.length + k
  | 0, i, r, h => by
    rw [ByteArray.toList.loop, if_neg (by omega)]; simp
  | k + 1, i, r, h => by
    rw [ByteArray.toList.loop, if_pos (by omega), loop_len s k (i + 1) _ (by omega)]
    simp only [List.length_cons]; omega
theorem nonempty (s : ByteArray) (h : ¬ s.size = 0) : s.toList.isEmpty = false := by
  have := loop_len s s.size 0 [] (by omega)
  cases e : s.toList with
  | nil =>
    have e2 : (ByteArray.toList.loop s 0 []).length = 0 := by
      show s.toList.length = 0
      rw [e]; rfl
    simp at this; omega
  | cons _ _ => rfl

set_option maxRecDepth 100000 in
set_option maxHeartbeats 4000000 in
theorem rnumber_any (s : ByteArray) (hs : (s.size : Int) ≤ 9223372036854775807) (most : Int) (w : World) : Calls Tryd.prog 24 #[.string s, .int .i64 most] w (NumB (numOf s most) w) := by
  have hz := zeroNumb
  by_cases h0 : s.size = 0
  · have hn : numOf s most = none := by unfold numOf; rw [if_pos (.inl h0)]
    rw [hn]
    have he : s = ⟨#[]⟩ := by
      obtain ⟨d⟩ := s
      have : d.size = 0 := h0
      rw [Array.eq_empty_of_size_eq_zero this]
    subst he
    clear hn h0
    go_enter Tryd.func24, Tryd.ntmps24
    go_wp2_with fail
    exact bodyPost_ret (v := .agg #[.int .i64 0, .bool false]) (by simp [results, Tryd.results24, go_sem]) rfl ⟨rfl, (by repeat (first | exact Below.refl _ _ | (with_reducible assumption) | refine bw_alloc ?_ _ | refine bw_drew ?_ | refine Below.setCell ?_ (by simp) _ | refine Below.setCell ?_ (by simp; omega) _))⟩
  · have hes := nonempty s h0
    have hp : 0 < s.size := by omega
    have h00 := (byteAt_in s hp).2
    by_cases hz0 : 1 < s.size ∧ byteAt s 0 = 48
    · have hn : numOf s most = none := by unfold numOf; rw [if_pos (.inr hz0)]
      rw [hn]
      have h1 : (1 : Int) < (s.size : Int) := by omega
      have h2 : 1 < s.size := hz0.1
      have d1 : ((s[0].toNat : Int) == 48) = true := by rw [beq_iff_eq]; omega
      clear hn hz0 h0 h00
      go_enter Tryd.func24, Tryd.ntmps24
      go_wp2_with fail
      exact bodyPost_ret (v := .agg #[.int .i64 0, .bool false]) (by simp [results, Tryd.results24, go_sem]) rfl ⟨rfl, (by repeat (first | exact Below.refl _ _ | (with_reducible assumption) | refine bw_alloc ?_ _ | refine bw_drew ?_ | refine Below.setCell ?_ (by simp) _ | refine Below.setCell ?_ (by simp; omega) _))⟩
    · have hn : numOf s most = match nrun s s.size with
        | none => none
        | some n => if most < (n : Int) then none else some n := by unfold numOf; rw [if_neg (by rintro (q | q); exact h0 q; exact hz0 q)]
      have HN := Lib.hid hn
      clear hn
      have hor : (1 < s.size ∧ ¬ s[0].toNat = 48) ∨ ¬ 1 < s.size := by omega
      rcases hor with ⟨h2, h3⟩ | h2
      all_goals
        first
          | (have d1 : ((s[0].toNat : Int) == 48) = false := by rw [beq_eq_false_iff_ne]; omega)
          | skip
        clear hz0 h0 h00
        go_enter Tryd.func24, Tryd.ntmps24
        go_upto_region 3 with fail
        clear hes
        refine gen_world (fun v => Below w.heap.size w v ∧ v.heap[w.heap.size]? = some (.cells #[.int .i64 0, .bool false] 70 (0, 0))) ⟨(by repeat (first | exact Below.refl _ _ | (with_reducible assumption) | refine bw_alloc ?_ _ | refine bw_drew ?_)), heap_alloc_new w _⟩ ?_
        intro W1 ⟨hl1, hb1⟩
        have HL := Lib.hid hl1
        have r0 : W1.cell? ⟨w.heap.size, 0, none⟩ = some (.int .i64 0) := by rw [blk_cell hb1]; rfl
        have r1 : W1.cell? ⟨w.heap.size, 1, none⟩ = some (.bool false) := by rw [blk_cell hb1]; rfl
        have f0 := blk_free hb1 0
        have f1 := blk_free hb1 1
        have hr := lt_of_block hb1
        have HD : Hid (∀ (x0 x1 : Value), Below w.heap.size w ((W1.setCell ⟨w.heap.size, 0, none⟩ x0).setCell ⟨w.heap.size, 1, none⟩ x1)) := fun x0 x1 => (hl1.setCell (p := ⟨w.heap.size, 0, none⟩) (Nat.le_refl _) _).setCell (p := ⟨w.heap.size, 1, none⟩) (Nat.le_refl _) _
        clear hl1 hb1
        go_wp2_with fail
        go_loop [5, 6] (fun v u => ∃ (i n : Nat), i ≤ s.size ∧ u = .int .i64 i ∧ v = .int .i64 n ∧ n ≤ 9223372036854775807 ∧ Hid (nrun s i = some n)) (fun _ u => (s.size - intOf u).toNat)
        case atStart => exact ⟨0, 0, by omega, rfl, rfl, by omega, rfl⟩
        case round =>
          obtain ⟨i, n, hi, rfl, rfl, hn9, HS⟩ := hrel
          by_cases hlt : i < s.size
          · have hk1 : (i : Int) < (s.size : Int) := by omega
            have hk0 : (0 : Int) ≤ (i : Int) := by omega
            obtain ⟨c, hc⟩ : ∃ c, s[i].toNat = c := ⟨_, rfl⟩
            have hbc : byteAt s i = c := by rw [(byteAt_in s hlt).2]; exact hc
            have HC := Lib.hid hc
            by_cases hbad : c < 48 ∨ 57 < c
            · have HNO : Hid (numOf s most = none) := by
                have h1 : nrun s (i + 1) = none := by
                  rw [nrun, HS.out]; simp only []
                  rw [if_pos (by rw [hbc]; omega)]
                show _ = _
                rw [HN.out, nrun_none s h1 s.size (by omega)]
              rcases (show c < 48 ∨ (¬ c < 48 ∧ 57 < c) by omega) with q1 | ⟨q1, q2⟩
              · have e1 : (s[i].toNat : Int) < 48 := by rw [hc]; omega
                have e2 : s[i].toNat < 48 := by omega
                clear hc hbc hbad HS
                go_wp2_with fail
                exact bodyPost_ret (v := .agg #[.int .i64 0, .bool false]) (by simp [results, Tryd.results24, go_sem, r0, r1]) rfl ⟨by rw [HNO.out]; rfl, HD.out _ _⟩
              · have e1 : ¬ (s[i].toNat : Int) < 48 := by rw [hc]; omega
                have e2 : ¬ s[i].toNat < 48 := by omega
                have e3 : (57 : Int) < (s[i].toNat : Int) := by rw [hc]; omega
                have e4 : 57 < s[i].toNat := by omega
                clear hc hbc hbad HS
                go_wp2_with fail
                exact bodyPost_ret (v := .agg #[.int .i64 0, .bool false]) (by simp [results, Tryd.results24, go_sem, r0, r1]) rfl ⟨by rw [HNO.out]; rfl, HD.out _ _⟩
            · have e1 : ¬ (s[i].toNat : Int) < 48 := by rw [hc]; omega
              have e2 : ¬ s[i].toNat < 48 := by omega
              have e3 : ¬ (57 : Int) < (s[i].toNat : Int) := by rw [hc]; omega
              have e4 : ¬ 57 < s[i].toNat := by omega
              obtain ⟨d, hd⟩ : ∃ d : Nat, c - 48 = d := ⟨_, rfl⟩
              have w1 : IntKind.u8.wrap ((s[i].toNat : Int) - 48) = (d : Int) := by rw [hc, IntKind.wrap_u8]; omega
              have w2 : IntKind.i64.wrap (d : Int) = (d : Int) := IntWalk.i64_in _ (by omega)
              have w3 : IntKind.i64.wrap (9223372036854775807 - (d : Int)) = 9223372036854775807 - (d : Int) := IntWalk.i64_in _ (by omega)
              obtain ⟨k, hk⟩ : ∃ k : Nat, (9223372036854775807 - d) / 10 = k := ⟨_, rfl⟩
              have w4 : (9223372036854775807 - (d : Int)).tdiv 10 = (k : Int) := by rw [Int.tdiv_eq_ediv_of_nonneg (by omega)]; omega
              have w5 : IntKind.i64.wrap (k : Int) = (k : Int) := IntWalk.i64_in _ (by omega)
              by_cases hbig : k < n
              · have HNO : Hid (numOf s most = none) := by
                  have h1 : nrun s (i + 1) = none := by
                    rw [nrun, HS.out]; simp only []
                    rw [if_pos (by rw [hbc, hd, hk]; omega)]
                  show _ = _
                  rw [HN.out, nrun_none s h1 s.size (by omega)]
                have e5 : (k : Int) < (n : Int) := by omega
                clear hc hbc hbad HS hd hk
                go_wp2_with fail
                exact bodyPost_ret (v := .agg #[.int .i64 0, .bool false]) (by simp [results, Tryd.results24, go_sem, r0, r1]) rfl ⟨by rw [HNO.out]; rfl, HD.out _ _⟩
              · have e5 : ¬ (k : Int) < (n : Int) := by omega
                have HS2 : Hid (nrun s (i + 1) = some (10 * n + d)) := by
                  show _ = _
                  rw [nrun, HS.out]; simp only []
                  rw [if_neg (by rw [hbc, hd, hk]; omega), hbc, hd]
                have hb9 : 10 * n + d ≤ 9223372036854775807 := by omega
                have w6 : IntKind.i64.wrap (10 * (n : Int)) = 10 * (n : Int) := IntWalk.i64_in _ (by omega)
                have w7 : IntKind.i64.wrap (10 * (n : Int) + (d : Int)) = ((10 * n + d : Nat) : Int) := (IntWalk.i64_in _ (by omega)).trans (by omega)
                clear hc hbc hbad HS hd hk
                go_wp2_with fail
                go_round
                case rel => exact ⟨i + 1, 10 * n + d, by omega, by go_num, by go_num, hb9, HS2⟩
                case measure => simp [intOf]; omega
          · have hiz : i = s.size := by omega
            have hk1 : ¬ (i : Int) < (s.size : Int) := by omega
            have hns : nrun s s.size = some n := by rw [← hiz]; exact HS.out
            by_cases hm : most < (n : Int)
            · have HNO : Hid (numOf s most = none) := by
                show _ = _
                rw [HN.out, hns]; simp only []; rw [if_pos hm]
              clear hiz hns HS
              go_wp2_with fail
              exact bodyPost_ret (v := .agg #[.int .i64 0, .bool false]) (by simp [results, Tryd.results24, go_sem, r0, r1]) rfl ⟨by rw [HNO.out]; rfl, HD.out _ _⟩
            · have HNO : Hid (numOf s most = some n) := by
                show _ = _
                rw [HN.out, hns]; simp only []; rw [if_neg hm]
              clear hiz hns HS
              go_wp2_with fail
              exact bodyPost_ret (v := .agg #[.int .i64 n, .bool true]) (by simp [results, Tryd.results24, go_sem, r0, r1]) rfl ⟨by rw [HNO.out]; rfl, HD.out _ _⟩
end Go.Proofs.YtlpffgmfgkleiaaDoor

/-
  The walk over rows of numbers of a text.
-/
namespace Go.Proofs.YtlpffgmfgkleiaaDoor
open Go.RowKit Go.Maps

/-- The numbers up to a place, and where the next one begins, if all were. -/
def nsrun (s : ByteArray) (most : Int) : Nat → Option (List Int × Nat)
  | 0 => some ([], 0)
  | i + 1 => match nsrun s most i with
    | none => none
    | some (l, f) => if i < s.size ∧ byteAt s i ≠ 44 then some (l, f) else match numOf (s.extract f i) most with
      | none => none
      | some n => some (l ++ [(n : Int)], i + 1)
def numsOf (s : ByteArray) (most : Int) : Option (List Int) := (nsrun s most (s.size + 1)).map (·.1)
theorem nsrun_none (s : ByteArray) (most : Int) {i : Nat} (h : nsrun s most i = none) : ∀ j, i ≤ j → nsrun s most j = none := by
  intro j hj
  induction j with
  | zero => have : i = 0 := by omega
            subst this; exact h
  | succ j ih =>
    rcases Nat.lt_or_ge j i with q | q
    · have : i = j + 1 := by omega
      subst this; exact h
    · rw [nsrun, ih q]
/-- A row of numbers that comes back, if it is one. -/
def NumsB (o : Option (List Int)) (w : World) (e : Ending) (w' : World) : Prop :=
  Below w.heap.size w w' ∧ ((o = none ∧ e = .returned (.tuple #[.slice none 0 0, .bool false])) ∨ ∃ (l : List Int) (a : Option Addr) (c : Nat), o = some l ∧ e = .returned (.tuple #[.slice a l.length c, .bool true]) ∧ Ints w' a l ∧ (l.length : Int) ≤ 9223372036854775807)
/-- As it comes back from the document's own: a row of its own. -/
def NumsO (o : Option (List Int)) (w : World) (e : Ending) (w' : World) : Prop :=
  Below w.heap.size w w' ∧ ((o = none ∧ e = .returned (.tuple #[.slice none 0 0, .bool false])) ∨ ∃ (l : List Int) (a : Option Addr) (c : Nat), o = some l ∧ e = .returned (.tuple #[.slice a l.length c, .bool true]) ∧ OwnI w' 2 w.heap.size (.slice a l.length c) l ∧ (l.length : Int) ≤ 9223372036854775807)
theorem growni_new {W w3 w4 : World} {B : Nat} {t : TypeId} {v : Value} {l : List Int} (hb : Below B W w3) (ho : OwnI w3 t B v l) (hB : B ≤ w3.heap.size) (hg : w3.grownBy w4 v.ownBlock) : Below B W w4 :=
  hb.grown hg hB (fun k hk => (ho.new hk).1)

set_option maxRecDepth 100000 in
set_option maxHeartbeats 4000000 in
theorem rnumbers_own (s : ByteArray) (hs : s.size ≤ 900000) (most : Int) (w : World) : Calls Tryd.prog 46 #[.string s, .int .i64 most] w (NumsO (numsOf s most) w) := by
  have hz := zeroNumb
  go_enter Tryd.func46, Tryd.ntmps46
  go_wp2_with fail
  go_loopw [6, 7, 8] (fun v f u wr => ∃ (i m g : Nat) (a' : Option Addr) (cp' : Nat) (l : List Int), i ≤ s.size + 1 ∧ m ≤ i ∧ g ≤ i ∧ u = .int .i64 i ∧ f = .int .i64 g ∧ v = .slice a' m cp' ∧ Hid (l.length = m) ∧ Hid (nsrun s most i = some (l, g)) ∧ Hid (Below w.heap.size w wr) ∧ Hid (OwnI wr 2 w.heap.size (.slice a' m cp') l)) (fun _ _ u _ => (s.size + 1 - intOf u).toNat)
  case atStart => exact ⟨0, 0, 0, _, _, [], by omega, by omega, by omega, rfl, rfl, rfl, rfl, rfl, Below.refl _ _, OwnI.nil _ _ _⟩
  case round =>
    obtain ⟨i, m, g, a', cp', l, hi, hm, hg, rfl, rfl, rfl, HL, HS, HB, HP⟩ := hrel
    by_cases hlt : i ≤ s.size
    · have hk1 : (i : Int) ≤ (s.size : Int) := by omega
      have hk0 : (0 : Int) ≤ (i : Int) := by omega
      have hg0 : (0 : Int) ≤ (g : Int) := by omega
      have hgi : (g : Int) ≤ (i : Int) := by omega
      by_cases hskip : i < s.size ∧ byteAt s i ≠ 44
      · have hin := hskip.1
        have hb := (byteAt_in s hin).2
        have h2 : (i : Int) < (s.size : Int) := by omega
        have d0 : ((s[i].toNat : Int) == 44) = false := by rw [beq_eq_false_iff_ne]; have := hskip.2; omega
        have d1 : ((s[i].toNat : Int) != 44) = true := by rw [bne, d0]; rfl
        have HS2 : Hid (nsrun s most (i + 1) = some (l, g)) := by
          show _ = _; rw [nsrun, HS.out]; simp only []; rw [if_pos hskip]
        clear hb hskip HS
        go_wp2_with fail
        go_roundw
        case rel => exact ⟨i + 1, m, g, a', cp', l, by omega, by omega, by omega, by go_num, rfl, rfl, HL, HS2, HB, HP⟩
        case measure => simp [intOf]; omega
      · have HSK : Hid (nsrun s most (i + 1) = match numOf (s.extract g i) most with
            | none => none
            | some n => some (l ++ [(n : Int)], i + 1)) := by
          show _ = _; rw [nsrun, HS.out]; simp only []; rw [if_neg hskip]
        have hxs : (s.extract g i).size ≤ s.size := by rw [ByteArray.size_extract]; omega
        have CN : Hid (∀ v, Calls Tryd.prog 24 #[.string (s.extract g i), .int .i64 most] v (NumB (numOf (s.extract g i) most) v)) := fun v => rnumber_any _ (by omega) most v
        obtain ⟨o, ho⟩ : ∃ o, numOf (s.extract g i) most = o := ⟨_, rfl⟩
        have HSK2 := Lib.hid (ho ▸ HSK.out)
        rw [ho] at CN
        go_upto_region 6 with fail
        go_cut [25] from 16 to 25 (fun u wx => u = .bool false ∧ Hid (Below w.heap.size w wx) ∧ Hid (OwnI wx 2 w.heap.size (.slice a' m cp') l))
        case first =>
          by_cases hin : i < s.size
          · have hb := (byteAt_in s hin).2
            have h2 : (i : Int) < (s.size : Int) := by omega
            have h44 : byteAt s i = 44 := Decidable.byContradiction fun q => hskip ⟨hin, q⟩
            have d0 : ((s[i].toNat : Int) == 44) = true := by rw [beq_iff_eq]; omega
            have d1 : ((s[i].toNat : Int) != 44) = false := by rw [bne, d0]; rfl
            clear hb h44 hskip
            go_wp2_with fail
            go_meet
            exact ⟨rfl, HB, HP⟩
          · have h2 : ¬ (i : Int) < (s.size : Int) := by omega
            clear hskip
            go_wp2_with fail
            go_meet
            exact ⟨rfl, HB, HP⟩
        case rest =>
          clear HB HP hskip
          obtain ⟨rfl, HB, HP⟩ := hcut
          cases o with
          | none =>
            have HNO : Hid (numsOf s most = none) := by
              show _ = _; unfold numsOf
              rw [nsrun_none s most (i := i + 1) HSK2.out (s.size + 1) (by omega)]; rfl
            clear ho
            go_wp2_with (go_at_call 24; (with_reducible refine (CN.out _).mono ?_); rintro e w5 ⟨rfl, b5⟩; have B5 := Lib.hid (below_up HB.out b5); clear b5)
            go_ret2
            exact ⟨below_up B5.out (by repeat (first | exact Below.refl _ _ | (with_reducible assumption) | refine bw_alloc ?_ _ | refine bw_drew ?_)), .inl ⟨HNO.out, rfl⟩⟩
          | some x =>
            have HSM : Hid (((l.length : Int) + ((1 : Nat) : Int)) ≤ 17592186044416) := by show _ ≤ _; rw [HL.out]; omega
            have HNN : Hid (l.length + 1 = m + 1) := by show _ = _; rw [HL.out]
            have HL2 : Hid ((l ++ [(x : Int)]).length = m + 1) := by show _ = _; rw [List.length_append, HL.out]; rfl
            have hwi : IntKind.i64.wrap ((i : Int) + 1) = (i : Int) + 1 := IntWalk.i64_in _ (by omega)
            clear ho
            go_upto_region 8 with (go_at_call 24; (with_reducible refine (CN.out _).mono ?_); rintro e w5 ⟨rfl, b5⟩; have B5 := Lib.hid b5; clear b5)
            refine gen_world (fun v => Below wc.heap.size wc v ∧ v.cell? ⟨w5.heap.size, 0, none⟩ = some (.int .i64 ((x : Nat) : Int)) ∧ v.cell? ⟨w5.heap.size, 1, none⟩ = some (.bool true)) ⟨below_up B5.out (by repeat (first | exact Below.refl _ _ | (with_reducible assumption) | refine bw_alloc ?_ _ | refine bw_drew ?_)), by rw [World.cell?_alloc_new]; rfl, by rw [World.cell?_alloc_new]; rfl⟩ ?_
            intro V ⟨hv, c0, c1⟩
            have HBV := Lib.hid (below_up HB.out hv)
            have HPV := Lib.hid (HP.out.below hv)
            clear hv HB HP B5
            generalize w5.heap.size = gb at *
            go_wp2_with (at_builtin; refine wp_ints (m := 1) (l := [(x : Int)]) numL rfl _ _ rfl rfl rfl (HPV.out.below (by repeat (first | exact Below.refl _ _ | (with_reducible assumption) | refine bw_alloc ?_ _ | refine bw_drew ?_))) (Nat.le_trans HBV.out.size ((by repeat (first | exact Below.refl _ _ | (with_reducible assumption) | refine bw_alloc ?_ _ | refine bw_drew ?_)) : Below V.heap.size V _).size) (ints_new _ _ _) rfl HSM.out (fun z => by cases z) (m + 1) HNN.out ?_; intro a3 k3 w3 o3 g3 l3; have HN3 := Lib.hid o3; have HB3 := Lib.hid (growni_new (below_up HBV.out ((by repeat (first | exact Below.refl _ _ | (with_reducible assumption) | refine bw_alloc ?_ _ | refine bw_drew ?_)) : Below V.heap.size V _)) (HPV.out.below ((by repeat (first | exact Below.refl _ _ | (with_reducible assumption) | refine bw_alloc ?_ _ | refine bw_drew ?_)) : Below V.heap.size V _)) (Nat.le_trans HBV.out.size ((by repeat (first | exact Below.refl _ _ | (with_reducible assumption) | refine bw_alloc ?_ _ | refine bw_drew ?_)) : Below V.heap.size V _).size) g3); clear o3 g3 l3)
            go_roundw
            case rel => exact ⟨i + 1, m + 1, i + 1, a3, k3, l ++ [(x : Int)], by omega, by omega, by omega, by go_num, by go_num, rfl, HL2, HSK2, HB3, HN3⟩
            case measure => simp [intOf]; omega
    · have hiz : i = s.size + 1 := by omega
      have HNO : Hid (numsOf s most = some l) := by
        show _ = _; unfold numsOf
        rw [← hiz, HS.out]; rfl
      have hk1 : ¬ (i : Int) ≤ (s.size : Int) := by omega
      clear hiz
      go_wp2_with fail
      go_ret2
      exact ⟨HB.out, .inr ⟨l, a', cp', HNO.out, by rw [HL.out]; rfl, by rw [HL.out]; exact HP.out, by rw [HL.out]; omega⟩⟩
theorem rnumbers_any (s : ByteArray) (hs : s.size ≤ 900000) (most : Int) (w : World) : Calls Tryd.prog 46 #[.string s, .int .i64 most] w (NumsB (numsOf s most) w) :=
  (rnumbers_own s hs most w).mono fun _ _ ⟨h1, h2⟩ => ⟨h1, h2.imp id fun ⟨l, a, c, q1, q2, q3, q4⟩ => by
    obtain ⟨a5, c5, e5, i5, -, -⟩ := q3.slice
    cases e5
    exact ⟨l, a, c, q1, q2, i5, q4⟩⟩
end Go.Proofs.YtlpffgmfgkleiaaDoor
