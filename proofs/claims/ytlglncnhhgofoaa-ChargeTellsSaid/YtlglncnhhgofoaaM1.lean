/- Texts of this claim, put together: KMem, KOpen, KW2, KW3, KW1, KW6, KW11, KW15, KW13. -/
import Derived.Test.YtlglncnhhgofoaaChecked
import Derived.Test.YtlglncnhhgofoaaRows
import Derived.WalkKit
import Derived.WalkSpells
import Derived.WalkLawsBesides
import Derived.Lib.Hide
import Derived.Lib.SmallJoins
import Derived.Below
import Derived.IntWalk
import Derived.WalkMore
import Derived.Deep.QuietTactic
import Derived.Deep.RegionLaw
import Derived.BigQuiet
import Derived.BigRegion
import Derived.RegionTactic
import Derived.Maps.AppendAt
import Derived.Deep.AppendSrc
import Derived.Deep.DeepCutAuto
import Derived.Deep.LoopGhost
import Derived.Deep.CutRange
import Derived.Deep.CutBlock
import Derived.Deep.Cut
import Derived.Tactics2
import Derived.OwnWalk
import Derived.Maps.OwnSet
import Derived.Laws.EntriesVeiled
import Derived.Deep.RegionWith
import Derived.Deep.RegionHeld3
import Derived.StillTailTactics
import Derived.ProofKit
import Derived.OpenShut
import Derived.Deep.Slices
set_option linter.unusedVariables false
set_option linter.unusedSimpArgs false

/-
  What rows of numbers, tasks and rows of tasks hold, in a world and in later ones.
-/
namespace Go.Proofs.Ytlglncnhhgofoaa
open Go.RowKit Go.Maps

theorem block_of_cell {w : World} {a : Addr} {v : Value} (h : w.cell? a = some v) : a.block < w.heap.size := by
  rcases Nat.lt_or_ge a.block w.heap.size with g | g
  · exact g
  · simp [World.cell?, Array.getElem?_eq_none g] at h
theorem lt_of_block {w : World} {b : Nat} {o : Obj} (h : w.heap[b]? = some o) : b < w.heap.size := (Array.getElem?_eq_some_iff.1 h).1
theorem addr_at (g o t : Nat) : (⟨g, o, none⟩ : Addr).add t = ⟨g, o + t, none⟩ := by
  unfold Addr.add; split <;> simp_all
theorem kept_cell {w w' : World} (hb : Below w.heap.size w w') {b o : Nat} {v : Value} (h : w.cell? ⟨b, o, none⟩ = some v) : w'.cell? ⟨b, o, none⟩ = some v := by
  rw [hb.cell (p := ⟨b, o, none⟩) (block_of_cell h)]; exact h
theorem kept_obj {w w' : World} (hb : Below w.heap.size w w') {b : Nat} {o : Obj} (h : w.heap[b]? = some o) : w'.heap[b]? = some o := (hb.block b (lt_of_block h)).trans h
/-- The walk goes on in a world of which only so much is known. -/
theorem gen_world {P : Program} {c : Code} {Q : Exit → Act → World → Prop} {a : Act} {w : World} (S : World → Prop) (h : S w) (k : ∀ w', S w' → c.wp P Q a w') : c.wp P Q a w := k w h
theorem blk_set {w : World} {b o : Nat} {cs : Array Value} {T : TypeId} {fr : Nat × Nat} (h : w.heap[b]? = some (.cells cs T fr)) (v : Value) : (w.setCell ⟨b, o, none⟩ v).heap[b]? = some (.cells (cs.setIfInBounds o v) T fr) := by
  simp [World.setCell, Array.getElem?_modify, h]
theorem blk_far {w : World} {b : Nat} {a : Addr} (hne : b ≠ a.block) (v : Value) : (w.setCell a v).heap[b]? = w.heap[b]? := Below.heap_setCell w a v b hne
theorem blk_cell {w : World} {b : Nat} {cs : Array Value} {T : TypeId} {fr : Nat × Nat} (h : w.heap[b]? = some (.cells cs T fr)) (o : Nat) : w.cell? ⟨b, o, none⟩ = cs[o]? := cell_of_row w b o cs T fr h
theorem blk_free {w : World} {b : Nat} {cs : Array Value} {T : TypeId} (h : w.heap[b]? = some (.cells cs T (0, 0))) (o : Nat) : w.frozen? ⟨b, o, none⟩ = false := by
  simp [World.frozen?, h]
theorem below_same {B : Nat} {W w w' : World} (h : Below B W w) (e : w'.heap = w.heap) (e1 : w'.os = w.os) (e2 : w'.tape = w.tape) (e3 : w'.output = w.output) : Below B W w' :=
  ⟨e1.trans h.os, e2.trans h.tape, e3.trans h.output, by rw [e]; exact h.size, fun k hk => by rw [e]; exact h.block k hk⟩
theorem below_up {W w w' : World} (h : Below W.heap.size W w) (k : Below w.heap.size w w') : Below W.heap.size W w' := h.trans (k.mono h.size)

/-! ### rows of numbers -/
/-- A row of numbers that can be read. -/
def Ints (w : World) (a : Option Addr) (l : List Int) : Prop :=
  l = [] ∨ ∃ g o, a = some ⟨g, o, none⟩ ∧ ∀ (j : Nat) (u : Int), l[j]? = some u → w.cell? ⟨g, o + j, none⟩ = some (.int .i64 u)
theorem Ints.nil {w : World} {a : Option Addr} : Ints w a [] := .inl rfl
theorem Ints.at_ {w : World} {a : Option Addr} {l : List Int} (h : Ints w a l) {k : Nat} {x : Int} (hx : l[k]? = some x) : ∃ g o, a = some ⟨g, o, none⟩ ∧ w.cell? ⟨g, o + k, none⟩ = some (.int .i64 x) := by
  rcases h with rfl | ⟨g, o, rfl, hc⟩
  · simp at hx
  · exact ⟨g, o, rfl, hc _ _ hx⟩
theorem Ints.below {w w' : World} {a : Option Addr} {l : List Int} (h : Ints w a l) (hb : Below w.heap.size w w') : Ints w' a l := by
  rcases h with rfl | ⟨g, o, rfl, hc⟩
  · exact .inl rfl
  · exact .inr ⟨g, o, rfl, fun j u hj => kept_cell hb (hc j u hj)⟩
theorem Ints.take {w : World} {a : Option Addr} {l : List Int} (h : Ints w a l) (k : Nat) : Ints w a (l.take k) := by
  rcases h with rfl | ⟨g, o, rfl, hc⟩
  · left; simp
  · refine .inr ⟨g, o, rfl, fun j u hj => ?_⟩
    rw [List.getElem?_take] at hj
    split at hj
    · exact hc j u hj
    · cases hj
theorem Ints.nothing {w : World} {l : List Int} (h : Ints w none l) : l = [] := by
  rcases h with rfl | ⟨g, o, e, _⟩
  · rfl
  · cases e
theorem Ints.of_block {w : World} {g : Nat} {l : List Int} {cs : Array Value} {T : TypeId} {fr : Nat × Nat} (h : w.heap[g]? = some (.cells cs T fr)) (hl : ∀ (j : Nat) (u : Int), l[j]? = some u → cs[j]? = some (.int .i64 u)) : Ints w (some ⟨g, 0, none⟩) l :=
  .inr ⟨g, 0, rfl, fun j u hj => by rw [Nat.zero_add, blk_cell h]; exact hl j u hj⟩
def I64 (x : Int) : Prop := -9223372036854775808 ≤ x ∧ x ≤ 9223372036854775807
theorem i64_of_wf {x : Int} (h : (Lit.int .i64 x).wf = true) : I64 x := by
  simp [Lit.wf, IntKind.min, IntKind.max, IntKind.signed, IntKind.bits] at h
  unfold I64; omega

/-! ### tasks -/
/-- A task as it stands in memory: its numbers, and its two rows. -/
structure TV where
  id : Int
  c : Int
  d : Int
  t : Int
  p : Int
  a1 : Option Addr
  ch : List Int
  c1 : Nat
  a2 : Option Addr
  us : List Int
  c2 : Nat
/-- A task as it is meant. -/
structure Tk where
  id : Int
  c : Int
  d : Int
  t : Int
  p : Int
  ch : List Int
  us : List Int
deriving DecidableEq
def TV.tk (x : TV) : Tk := ⟨x.id, x.c, x.d, x.t, x.p, x.ch, x.us⟩
def TV.cells (x : TV) : List Value := [.int .i64 x.id, .int .i64 x.c, .int .i64 x.d, .int .i64 x.t, .int .i64 x.p, .slice x.a1 x.ch.length x.c1, .slice x.a2 x.us.length x.c2]
def TV.val (x : TV) : Value := .agg #[.int .i64 x.id, .int .i64 x.c, .int .i64 x.d, .int .i64 x.t, .int .i64 x.p, .slice x.a1 x.ch.length x.c1, .slice x.a2 x.us.length x.c2]
/-- Its rows can be read. -/
structure TV.ok (w : World) (x : TV) : Prop where
  one : Ints w x.a1 x.ch
  two : Ints w x.a2 x.us
  l1 : x.ch.length ≤ x.c1
  m1 : (x.c1 : Int) ≤ 9223372036854775807
  l2 : x.us.length ≤ x.c2
  m2 : (x.c2 : Int) ≤ 9223372036854775807
theorem TV.ok.below {w w' : World} {x : TV} (h : x.ok w) (hb : Below w.heap.size w w') : x.ok w' := ⟨h.one.below hb, h.two.below hb, h.l1, h.m1, h.l2, h.m2⟩
def AllOk (w : World) (L : List TV) : Prop := ∀ x ∈ L, x.ok w
theorem AllOk.below {w w' : World} {L : List TV} (h : AllOk w L) (hb : Below w.heap.size w w') : AllOk w' L := fun x hx => (h x hx).below hb
theorem AllOk.at_ {w : World} {L : List TV} (h : AllOk w L) {k : Nat} {x : TV} (hx : L[k]? = some x) : x.ok w := h x (List.mem_of_getElem? hx)
theorem AllOk.append {w : World} {L M : List TV} (h : AllOk w L) (k : AllOk w M) : AllOk w (L ++ M) := fun x hx => (List.mem_append.1 hx).elim (h x) (k x)
theorem AllOk.one {w : World} {x : TV} (h : x.ok w) : AllOk w [x] := fun y hy => by simp at hy; subst hy; exact h
theorem AllOk.take {w : World} {L : List TV} (h : AllOk w L) (k : Nat) : AllOk w (L.take k) := fun x hx => h x (List.mem_of_mem_take hx)

/-- The cells of a row of tasks. -/
def flat : List TV → List Value
  | [] => []
  | x :: l => x.cells ++ flat l
theorem cells_len (x : TV) : x.cells.length = 7 := rfl
theorem flat_len : ∀ l : List TV, (flat l).length = l.length * 7
  | [] => rfl
  | x :: l => by simp [flat, flat_len l, cells_len]; omega
theorem flat_append : ∀ l m : List TV, flat (l ++ m) = flat l ++ flat m
  | [], _ => rfl
  | x :: l, m => by simp [flat, flat_append l m]
theorem flat_at : ∀ (l : List TV) (k : Nat) (x : TV), l[k]? = some x → ∀ i, i < 7 → (flat l)[k * 7 + i]? = x.cells[i]?
  | [], k, x, h => by simp at h
  | y :: l, 0, x, h => by
    simp at h; subst h
    intro i hi
    rw [Nat.zero_mul, Nat.zero_add, flat, List.getElem?_append_left (by rw [cells_len]; exact hi)]
  | y :: l, k + 1, x, h => by
    intro i hi
    have := flat_at l k x (by simpa using h) i hi
    rw [show (k + 1) * 7 + i = 7 + (k * 7 + i) by omega, flat, List.getElem?_append_right (by rw [cells_len]; omega), cells_len, ← this]
    congr 1; omega
theorem flat_one : ∀ (l : List TV), ∀ u ∈ flat l, u.oneCell' = true
  | [], u, h => by simp [flat] at h
  | x :: l, u, h => by
    rcases List.mem_append.1 h with h | h
    · simp [TV.cells] at h
      rcases h with rfl | rfl | rfl | rfl | rfl | rfl | rfl <;> rfl
    · exact flat_one l u h
theorem flat_drop : ∀ (k : Nat) (l : List TV), flat (l.drop k) = (flat l).drop (k * 7)
  | 0, l => by simp
  | k + 1, [] => by simp [flat]
  | k + 1, x :: l => by
    rw [List.drop_succ_cons, flat_drop k l, flat, List.drop_append, show (k + 1) * 7 = 7 + k * 7 by omega]
    simp [cells_len]
theorem flat_take : ∀ (k : Nat) (l : List TV), flat (l.take k) = (flat l).take (k * 7)
  | 0, l => by simp [flat]
  | k + 1, [] => by simp [flat]
  | k + 1, x :: l => by
    rw [List.take_succ_cons, flat, flat, flat_take k l, List.take_append, show (k + 1) * 7 = 7 + k * 7 by omega]
    simp [cells_len]
    rw [List.take_of_length_le (by rw [cells_len]; omega)]

/-- The cells of one task, from a place on. -/
structure At (w : World) (g o : Nat) (x : TV) : Prop where
  c0 : w.cell? ⟨g, o, none⟩ = some (.int .i64 x.id)
  c1 : w.cell? ⟨g, o + 1, none⟩ = some (.int .i64 x.c)
  c2 : w.cell? ⟨g, o + 2, none⟩ = some (.int .i64 x.d)
  c3 : w.cell? ⟨g, o + 3, none⟩ = some (.int .i64 x.t)
  c4 : w.cell? ⟨g, o + 4, none⟩ = some (.int .i64 x.p)
  c5 : w.cell? ⟨g, o + 5, none⟩ = some (.slice x.a1 x.ch.length x.c1)
  c6 : w.cell? ⟨g, o + 6, none⟩ = some (.slice x.a2 x.us.length x.c2)
theorem At.below {w w' : World} {g o : Nat} {x : TV} (h : At w g o x) (hb : Below w.heap.size w w') : At w' g o x :=
  ⟨kept_cell hb h.c0, kept_cell hb h.c1, kept_cell hb h.c2, kept_cell hb h.c3, kept_cell hb h.c4, kept_cell hb h.c5, kept_cell hb h.c6⟩
/-- A row of tasks that can be read. -/
def View (w : World) (a : Option Addr) (l : List TV) : Prop :=
  l = [] ∨ ∃ g o, a = some ⟨g, o, none⟩ ∧ ∀ j u, (flat l)[j]? = some u → w.cell? ⟨g, o + j, none⟩ = some u
theorem View.nil {w : World} {a : Option Addr} : View w a [] := .inl rfl
theorem View.at_ {w : World} {a : Option Addr} {l : List TV} (h : View w a l) {k : Nat} {x : TV} (hx : l[k]? = some x) : ∃ g o, a = some ⟨g, o, none⟩ ∧ At w g (o + k * 7) x := by
  rcases h with rfl | ⟨g, o, rfl, hc⟩
  · simp at hx
  · have f := flat_at l k x hx
    refine ⟨g, o, rfl, ⟨?_, ?_, ?_, ?_, ?_, ?_, ?_⟩⟩
    · exact hc _ _ (f 0 (by omega))
    · exact hc _ _ (f 1 (by omega))
    · exact hc _ _ (f 2 (by omega))
    · exact hc _ _ (f 3 (by omega))
    · exact hc _ _ (f 4 (by omega))
    · exact hc _ _ (f 5 (by omega))
    · exact hc _ _ (f 6 (by omega))
theorem View.below {w w' : World} {a : Option Addr} {l : List TV} (h : View w a l) (hb : Below w.heap.size w w') : View w' a l := by
  rcases h with rfl | ⟨g, o, rfl, hc⟩
  · exact .inl rfl
  · exact .inr ⟨g, o, rfl, fun j u hj => kept_cell hb (hc j u hj)⟩
theorem View.drop {w : World} {g o : Nat} {l : List TV} (h : View w (some ⟨g, o, none⟩) l) (k : Nat) : View w (some ⟨g, o + k * 7, none⟩) (l.drop k) := by
  rcases h with rfl | ⟨g', o', e, hc⟩
  · left; simp
  · cases e
    refine .inr ⟨_, _, rfl, fun j u hj => ?_⟩
    rw [flat_drop, List.getElem?_drop] at hj
    rw [Nat.add_assoc]
    exact hc _ u hj
theorem View.take {w : World} {a : Option Addr} {l : List TV} (h : View w a l) (k : Nat) : View w a (l.take k) := by
  rcases h with rfl | ⟨g, o, rfl, hc⟩
  · left; simp
  · refine .inr ⟨g, o, rfl, fun j u hj => ?_⟩
    rw [flat_take, List.getElem?_take] at hj
    split at hj
    · exact hc j u hj
    · cases hj
theorem View.of_at {w : World} {g o : Nat} {x : TV} (h : At w g o x) : View w (some ⟨g, o, none⟩) [x] := by
  refine .inr ⟨g, o, rfl, fun j u hj => ?_⟩
  simp only [flat, List.append_nil, TV.cells] at hj
  match j, hj with
  | 0, hj => simp at hj; subst hj; exact h.c0
  | 1, hj => simp at hj; subst hj; exact h.c1
  | 2, hj => simp at hj; subst hj; exact h.c2
  | 3, hj => simp at hj; subst hj; exact h.c3
  | 4, hj => simp at hj; subst hj; exact h.c4
  | 5, hj => simp at hj; subst hj; exact h.c5
  | 6, hj => simp at hj; subst hj; exact h.c6
  | j + 7, hj => simp at hj
/-- A slice of tasks that can be read, with all that they hold. -/
structure Tasks (w : World) (a : Option Addr) (n cap : Nat) (L : List TV) : Prop where
  len : L.length = n
  view : View w a L
  ok : AllOk w L
  le : n ≤ cap
  small : (cap : Int) ≤ 9223372036854775807
theorem Tasks.below {w w' : World} {a : Option Addr} {n cap : Nat} {L : List TV} (h : Tasks w a n cap L) (hb : Below w.heap.size w w') : Tasks w' a n cap L := ⟨h.len, h.view.below hb, h.ok.below hb, h.le, h.small⟩
theorem nth_of {α : Type} {l : List α} {i m : Nat} (h : l.length = m) (hi : i < m) : ∃ x, l[i]? = some x := ⟨l[i]'(by rw [h]; exact hi), by simp [h, hi]⟩

/-! ### rows of one's own -/
abbrev TT : TypeId := 36
def OwnT (w : World) (B : Nat) (v : Value) (l : List TV) : Prop := w.ownsRow B TT 7 v l.length (flat l)
theorem OwnT.nil (w : World) (B : Nat) : OwnT w B (.slice none 0 0) [] := World.ownsRow_nil _ _ _ _
theorem OwnT.made (w : World) : OwnT (w.alloc (.cells #[] TT)) w.heap.size (.slice (some ⟨w.heap.size, 0, none⟩) 0 0) [] :=
  World.ownsRow_made (w := w) #[] 0 (Nat.le_refl _) (by decide) rfl
theorem OwnT.low {w : World} {B B' : Nat} {v : Value} {l : List TV} (h : OwnT w B v l) (hB : B' ≤ B) : OwnT w B' v l := by
  rcases h with ⟨h0, h | ⟨g, cap, cur, rfl, hb, r⟩⟩
  · exact ⟨h0, .inl h⟩
  · exact ⟨h0, .inr ⟨g, cap, cur, rfl, by omega, r⟩⟩
theorem OwnT.slice {w : World} {B : Nat} {v : Value} {l : List TV} (h : OwnT w B v l) : ∃ a cap, v = .slice a l.length cap ∧ View w a l ∧ l.length ≤ cap ∧ (cap : Int) ≤ 9223372036854775807 := by
  rcases h.2 with ⟨rfl, h0⟩ | ⟨g, cap, cur, rfl, _, h3, h1, h2, h4, h5⟩
  · exact ⟨none, 0, by rw [h0], .inl (List.length_eq_zero_iff.1 h0), by omega, by omega⟩
  · refine ⟨_, cap, rfl, .inr ⟨g, 0, rfl, fun j u hj => ?_⟩, h1, by unfold maxLen at h2; omega⟩
    rw [Nat.zero_add, blk_cell h3]
    rw [← h5] at hj
    rw [List.getElem?_take] at hj
    split at hj
    · simpa using hj
    · cases hj
theorem OwnT.tasks {w : World} {B : Nat} {a : Option Addr} {n cap : Nat} {l : List TV} (h : OwnT w B (.slice a n cap) l) (hok : AllOk w l) : Tasks w a n cap l := by
  obtain ⟨a', cap', e, hv, hl, hm⟩ := h.slice
  cases e
  exact ⟨rfl, hv, hok, hl, hm⟩
theorem OwnT.new {w : World} {B : Nat} {v : Value} {l : List TV} (h : OwnT w B v l) {k : Nat} (hk : v.ownBlock = some k) : B ≤ k ∧ k < w.heap.size := World.ownsRow.lt h k hk
theorem OwnT.below {w w' : World} {B : Nat} {v : Value} {l : List TV} (h : OwnT w B v l) (hb : Below w.heap.size w w') : OwnT w' B v l := by
  rcases h with ⟨h0, h | ⟨g, cap, cur, rfl, hB, h3, r⟩⟩
  · exact ⟨h0, .inl h⟩
  · exact ⟨h0, .inr ⟨g, cap, cur, rfl, hB, kept_obj hb h3, r⟩⟩
theorem OwnT.none_len {w : World} {B n c : Nat} {l : List TV} (h : OwnT w B (.slice none n c) l) : n = 0 := by
  rcases h.2 with ⟨h1, h0⟩ | ⟨g, cap, cur, h1, _⟩
  · cases h1; rfl
  · cases h1

theorem infoTask : (Try.prog.info? TT).map (fun i => (i.zero, i.size, i.bytes)) = some (some (.agg #[.int .i64 0, .int .i64 0, .int .i64 0, .int .i64 0, .int .i64 0, .slice none 0 0, .slice none 0 0]), 7, 88) := by kernel_rfl
theorem zeroTask (w : World) : (zeroValue TT).run Try.prog w = .ok (.agg #[.int .i64 0, .int .i64 0, .int .i64 0, .int .i64 0, .int .i64 0, .slice none 0 0, .slice none 0 0]) w := by kernel_rfl
theorem infoParts : ∃ i, Try.prog.info? TT = some i ∧ i.zero = some (.agg #[.int .i64 0, .int .i64 0, .int .i64 0, .int .i64 0, .int .i64 0, .slice none 0 0, .slice none 0 0]) ∧ i.size = 7 ∧ i.bytes = 88 := by
  obtain ⟨i, h1, h2⟩ := Option.map_eq_some_iff.1 infoTask
  simp only [Prod.mk.injEq] at h2
  exact ⟨i, h1, h2.1, h2.2.1, h2.2.2⟩

/-- A row that was appended to: what it holds, where it lies. -/
theorem append_view {w : World} {B m c : Nat} {v : Value} {q l : List TV} {ad : Option Addr} (h : OwnT w B v q) (hB : B ≤ w.heap.size) (hv : View w ad l) (hl : l.length = m) (hs : q.length + m ≤ 1000000) (hn : ad = none → m = 0) (ty : TypeId) :
    ∃ v' w', (Builtin.append_ #[25, 25] ty #[v, .slice ad m c]).run Try.prog w = .ok v' w' ∧ OwnT w' B v' (q ++ l) ∧ w.grownBy w' v.ownBlock ∧ ∀ k, v'.ownBlock = some k → v.ownBlock = some k ∨ w.heap.size ≤ k := by
  obtain ⟨i0, hi, hz0, hz1, hz2⟩ := infoParts
  cases ad with
  | none =>
    obtain rfl := hn rfl
    obtain rfl : l = [] := List.length_eq_zero_iff.1 hl
    refine ⟨v, w, ?_, by rw [List.append_nil]; exact h, ⟨rfl, rfl, rfl, Nat.le_refl _, fun _ _ _ => rfl⟩, fun k hk => .inl hk⟩
    rcases h.2 with ⟨rfl, h0⟩ | ⟨g, cap, cur, rfl, _, h3, h1, h2, h4, h5⟩
    · have hs := Src.ofNil (w := w) (size := i0.size) Try.underlying25 c
      simp [Builtin.append_, run_underlying Try.underlying25, sizeOf, typeInfo, hi, hs.len, hs.cells]
    · have := run_append_room_src (P := Try.prog) (w := w) 25 25 ty TT i0 Try.underlying25 hi g 0 q.length cap (.slice none 0 c) 0 [] (Src.ofNil w Try.underlying25 c) (by omega) (fun j hj => absurd hj (Nat.not_lt_zero _)) (fun j hj => absurd hj (Nat.not_lt_zero _))
      simpa [World.setCells] using this
  | some x =>
    have hnews : ∀ j u, (flat l)[j]? = some u → w.cell? (x.add j) = some u := by
      intro j u hj
      rcases hv with rfl | ⟨g, o, e, hc⟩
      · simp [flat] at hj
      · cases e
        rw [addr_at]; exact hc j u hj
    obtain ⟨v', w', h1, h2, h3, _, h5⟩ := run_append_own_at (P := Try.prog) w B 25 ty TT i0 _ 7 88 Try.underlying25 hi hz0 hz1 hz2 rfl (by decide) v q.length (flat q) h x m c (flat l) (by rw [flat_len, hl]) hnews (flat_one l) (by unfold maxLen; omega) (by omega) hB
    refine ⟨v', w', h1, ?_, h3, fun k hk => ?_⟩
    · unfold OwnT
      rw [List.length_append, flat_append, hl]
      exact h2
    · rcases h5 with z | z
      · left; rw [← z]; exact hk
      · right; rw [z] at hk; cases hk; exact Nat.le_refl _

theorem step_append {w : World} {ops : Array Oper} {o : Oper} {a : Act} {K : Act → World → Prop} {Q : Exit → Act → World → Prop} {E : Prop} (hgd : o.guard = none) (s x : Operand)
    (ho : o.op = .call { callee := .builtin .append, args := #[s, x], argTypes := #[25, 25] }) {B m c : Nat} {v : Value} {q l : List TV} {ad : Option Addr} (hs : a.eval s = v) (hx : a.eval x = .slice ad m c)
    (hown : OwnT w B v q) (hB : B ≤ w.heap.size) (hv : View w ad l) (hl : l.length = m) (hsm : q.length + m ≤ 1000000) (hn : ad = none → m = 0) (N : Nat) (hN : q.length + m = N)
    (h : ∀ a' cp' w', OwnT w' B (.slice a' N cp') (q ++ l) → w.grownBy w' v.ownBlock → (∀ k, (Value.slice a' N cp').ownBlock = some k → v.ownBlock = some k ∨ w.heap.size ≤ k) → K (a.put o.dst (.slice a' N cp')) w') :
    if Region.wanted o (yielded ops a.tmps) = true then Oper.wp Try.prog o a w K Q else E := by
  have hw : Region.wanted o (yielded ops a.tmps) = true := by simp [Region.wanted, hgd]
  rw [if_pos hw]
  obtain ⟨v', w', hr, h2, h3, h4⟩ := append_view (c := c) hown hB hv hl hsm hn o.type
  obtain ⟨a', cp', hv', _⟩ := h2.slice
  rw [List.length_append, hl, hN] at hv'
  subst hv'
  unfold Oper.wp execOp
  simp only [ho, resolve, invoke, builtin, Sem.run_bind, Sem.run_pure, Result.andThen_ok, List.map_toArray, List.map_cons, List.map_nil, hs, hx, hr]
  exact h a' cp' w' h2 h3 h4
theorem wp_append {ops : Array Oper} {rest : List Oper} {o : Oper} {a : Act} {Q : Exit → Act → World → Prop} {w : World} (hgd : o.guard = none) (s x : Operand)
    (ho : o.op = .call { callee := .builtin .append, args := #[s, x], argTypes := #[25, 25] }) {B m c : Nat} {v : Value} {q l : List TV} {ad : Option Addr} (hs : a.eval s = v) (hx : a.eval x = .slice ad m c)
    (hown : OwnT w B v q) (hB : B ≤ w.heap.size) (hv : View w ad l) (hl : l.length = m) (hsm : q.length + m ≤ 1000000) (hn : ad = none → m = 0) (N : Nat) (hN : q.length + m = N)
    (h : ∀ a' cp' w', OwnT w' B (.slice a' N cp') (q ++ l) → w.grownBy w' v.ownBlock → (∀ k, (Value.slice a' N cp').ownBlock = some k → v.ownBlock = some k ∨ w.heap.size ≤ k) → wpList Try.prog ops Q rest (a.put o.dst (.slice a' N cp')) w') : wpList Try.prog ops Q (o :: rest) a w :=
  wpList_step fun _ hK => step_append hgd s x ho hs hx hown hB hv hl hsm hn N hN (fun a' cp' w' o' g' l' => hK _ _ (h a' cp' w' o' g' l'))

/-! ### rows of numbers of one's own -/
def vi (l : List Int) : List Value := l.map (Value.int .i64)
theorem vi_one (l : List Int) : ∀ u ∈ vi l, u.oneCell' = true := by
  intro u hu
  obtain ⟨_, _, rfl⟩ := List.mem_map.1 hu
  rfl
theorem vi_at {l : List Int} {j : Nat} {u : Int} (h : l[j]? = some u) : (vi l)[j]? = some (.int .i64 u) := by simp [vi, h]
def OwnI (w : World) (e : TypeId) (B : Nat) (v : Value) (l : List Int) : Prop := w.ownsRow B e 1 v l.length (vi l)
theorem OwnI.nil (w : World) (e : TypeId) (B : Nat) : OwnI w e B (.slice none 0 0) [] := World.ownsRow_nil _ _ _ _
theorem OwnI.made (w : World) (e : TypeId) : OwnI (w.alloc (.cells #[] e)) e w.heap.size (.slice (some ⟨w.heap.size, 0, none⟩) 0 0) [] :=
  World.ownsRow_made (w := w) #[] 0 (Nat.le_refl _) (by decide) rfl
theorem OwnI.slice {w : World} {e : TypeId} {B : Nat} {v : Value} {l : List Int} (h : OwnI w e B v l) : ∃ a cap, v = .slice a l.length cap ∧ Ints w a l ∧ l.length ≤ cap ∧ (cap : Int) ≤ 9223372036854775807 := by
  rcases h.2 with ⟨rfl, h0⟩ | ⟨g, cap, cur, rfl, _, h3, h1, h2, h4, h5⟩
  · exact ⟨none, 0, by rw [h0], .inl (List.length_eq_zero_iff.1 h0), by omega, by omega⟩
  · refine ⟨_, cap, rfl, .inr ⟨g, 0, rfl, fun j u hj => ?_⟩, h1, by unfold maxLen at h2; omega⟩
    rw [Nat.zero_add, blk_cell h3]
    have := vi_at hj
    rw [← h5, List.getElem?_take] at this
    split at this
    · simpa using this
    · cases this
theorem OwnI.new {w : World} {e : TypeId} {B : Nat} {v : Value} {l : List Int} (h : OwnI w e B v l) {k : Nat} (hk : v.ownBlock = some k) : B ≤ k ∧ k < w.heap.size := World.ownsRow.lt h k hk
theorem OwnI.below {w w' : World} {e : TypeId} {B : Nat} {v : Value} {l : List Int} (h : OwnI w e B v l) (hb : Below w.heap.size w w') : OwnI w' e B v l := by
  rcases h with ⟨h0, h | ⟨g, cap, cur, rfl, hB, h3, r⟩⟩
  · exact ⟨h0, .inl h⟩
  · exact ⟨h0, .inr ⟨g, cap, cur, rfl, hB, kept_obj hb h3, r⟩⟩
theorem OwnI.low {w : World} {e : TypeId} {B B' : Nat} {v : Value} {l : List Int} (h : OwnI w e B v l) (hB : B' ≤ B) : OwnI w e B' v l := by
  rcases h with ⟨h0, h | ⟨g, cap, cur, rfl, hb, r⟩⟩
  · exact ⟨h0, .inl h⟩
  · exact ⟨h0, .inr ⟨g, cap, cur, rfl, by omega, r⟩⟩

/-- A slice type of numbers. -/
structure IsNum (t e : TypeId) : Prop where
  und : Try.prog.underlying t = some (.slice e)
  info : ∃ i, Try.prog.info? e = some i ∧ i.zero = some (.int .i64 0) ∧ i.size = 1 ∧ i.bytes = 8
theorem num_of {t e : TypeId} (h : Try.prog.underlying t = some (.slice e)) (h2 : (Try.prog.info? e).map (fun i => (i.zero, i.size, i.bytes)) = some (some (.int .i64 0), 1, 8)) : IsNum t e := by
  obtain ⟨i, h1, h2⟩ := Option.map_eq_some_iff.1 h2
  simp only [Prod.mk.injEq] at h2
  exact ⟨h, i, h1, h2.1, h2.2.1, h2.2.2⟩
theorem numL : IsNum 34 2 := num_of Try.underlying34 (by kernel_rfl)
theorem numI : IsNum 28 3 := num_of Try.underlying28 (by kernel_rfl)

theorem append_ints {w : World} {t e : TypeId} (ht : IsNum t e) {B m c : Nat} {v : Value} {q l : List Int} {ad : Option Addr} (h : OwnI w e B v q) (hB : B ≤ w.heap.size) (hv : Ints w ad l) (hl : l.length = m) (hs : (q.length + m : Int) ≤ 17592186044416) (hn : ad = none → m = 0) (ty : TypeId) :
    ∃ v' w', (Builtin.append_ #[t, t] ty #[v, .slice ad m c]).run Try.prog w = .ok v' w' ∧ OwnI w' e B v' (q ++ l) ∧ w.grownBy w' v.ownBlock ∧ ∀ k, v'.ownBlock = some k → v.ownBlock = some k ∨ w.heap.size ≤ k := by
  obtain ⟨i0, hi, hz0, hz1, hz2⟩ := ht.info
  cases ad with
  | none =>
    obtain rfl := hn rfl
    obtain rfl : l = [] := List.length_eq_zero_iff.1 hl
    refine ⟨v, w, ?_, by rw [List.append_nil]; exact h, ⟨rfl, rfl, rfl, Nat.le_refl _, fun _ _ _ => rfl⟩, fun k hk => .inl hk⟩
    rcases h.2 with ⟨rfl, h0⟩ | ⟨g, cap, cur, rfl, _, h3, h1, h2, h4, h5⟩
    · have hs := Src.ofNil (w := w) (size := i0.size) ht.und c
      simp [Builtin.append_, run_underlying ht.und, sizeOf, typeInfo, hi, hs.len, hs.cells]
    · have := run_append_room_src (P := Try.prog) (w := w) t t ty e i0 ht.und hi g 0 q.length cap (.slice none 0 c) 0 [] (Src.ofNil w ht.und c) (by omega) (fun j hj => absurd hj (Nat.not_lt_zero _)) (fun j hj => absurd hj (Nat.not_lt_zero _))
      simpa [World.setCells] using this
  | some x =>
    have hnews : ∀ j u, (vi l)[j]? = some u → w.cell? (x.add j) = some u := by
      intro j u hj
      rcases hv with rfl | ⟨g, o, e, hc⟩
      · simp [vi] at hj
      · cases e
        simp only [vi, List.getElem?_map, Option.map_eq_some_iff] at hj
        obtain ⟨y, hy, rfl⟩ := hj
        rw [addr_at]; exact hc j y hy
    obtain ⟨v', w', h1, h2, h3, _, h5⟩ := run_append_own_at (P := Try.prog) w B t ty e i0 _ 1 8 ht.und hi hz0 hz1 hz2 rfl (by decide) v q.length (vi q) h x m c (vi l) (by simp [vi, hl]) hnews (vi_one l) (by unfold maxLen; omega) (by omega) hB
    refine ⟨v', w', h1, ?_, h3, fun k hk => ?_⟩
    · unfold OwnI
      rw [List.length_append, hl]
      unfold vi at h2 ⊢
      rw [List.map_append]
      exact h2
    · rcases h5 with z | z
      · left; rw [← z]; exact hk
      · right; rw [z] at hk; cases hk; exact Nat.le_refl _

theorem step_ints {w : World} {t e : TypeId} (ht : IsNum t e) {ops : Array Oper} {o : Oper} {a : Act} {K : Act → World → Prop} {Q : Exit → Act → World → Prop} {E : Prop} (hgd : o.guard = none) (s x : Operand)
    (ho : o.op = .call { callee := .builtin .append, args := #[s, x], argTypes := #[t, t] }) {B m c : Nat} {v : Value} {q l : List Int} {ad : Option Addr} (hs : a.eval s = v) (hx : a.eval x = .slice ad m c)
    (hown : OwnI w e B v q) (hB : B ≤ w.heap.size) (hv : Ints w ad l) (hl : l.length = m) (hsm : (q.length + m : Int) ≤ 17592186044416) (hn : ad = none → m = 0) (N : Nat) (hN : q.length + m = N)
    (h : ∀ a' cp' w', OwnI w' e B (.slice a' N cp') (q ++ l) → w.grownBy w' v.ownBlock → (∀ k, (Value.slice a' N cp').ownBlock = some k → v.ownBlock = some k ∨ w.heap.size ≤ k) → K (a.put o.dst (.slice a' N cp')) w') :
    if Region.wanted o (yielded ops a.tmps) = true then Oper.wp Try.prog o a w K Q else E := by
  have hw : Region.wanted o (yielded ops a.tmps) = true := by simp [Region.wanted, hgd]
  rw [if_pos hw]
  obtain ⟨v', w', hr, h2, h3, h4⟩ := append_ints ht (c := c) hown hB hv hl hsm hn o.type
  obtain ⟨a', cp', hv', _⟩ := h2.slice
  rw [List.length_append, hl, hN] at hv'
  subst hv'
  unfold Oper.wp execOp
  simp only [ho, resolve, invoke, builtin, Sem.run_bind, Sem.run_pure, Result.andThen_ok, List.map_toArray, List.map_cons, List.map_nil, hs, hx, hr]
  exact h a' cp' w' h2 h3 h4
theorem wp_ints {t e : TypeId} (ht : IsNum t e) {ops : Array Oper} {rest : List Oper} {o : Oper} {a : Act} {Q : Exit → Act → World → Prop} {w : World} (hgd : o.guard = none) (s x : Operand)
    (ho : o.op = .call { callee := .builtin .append, args := #[s, x], argTypes := #[t, t] }) {B m c : Nat} {v : Value} {q l : List Int} {ad : Option Addr} (hs : a.eval s = v) (hx : a.eval x = .slice ad m c)
    (hown : OwnI w e B v q) (hB : B ≤ w.heap.size) (hv : Ints w ad l) (hl : l.length = m) (hsm : (q.length + m : Int) ≤ 17592186044416) (hn : ad = none → m = 0) (N : Nat) (hN : q.length + m = N)
    (h : ∀ a' cp' w', OwnI w' e B (.slice a' N cp') (q ++ l) → w.grownBy w' v.ownBlock → (∀ k, (Value.slice a' N cp').ownBlock = some k → v.ownBlock = some k ∨ w.heap.size ≤ k) → wpList Try.prog ops Q rest (a.put o.dst (.slice a' N cp')) w') : wpList Try.prog ops Q (o :: rest) a w :=
  wpList_step fun _ hK => step_ints ht hgd s x ho hs hx hown hB hv hl hsm hn N hN (fun a' cp' w' o' g' l' => hK _ _ (h a' cp' w' o' g' l'))
theorem ints_new (w : World) (x : Int) (T : TypeId) : Ints (w.alloc (.cells #[.int .i64 x] T)) (some ⟨w.heap.size, 0, none⟩) [x] :=
  .inr ⟨_, 0, rfl, fun j u hj => by
    match j, hj with
    | 0, hj => simp at hj; subst hj; rw [World.cell?_alloc_new]; rfl
    | j + 1, hj => simp at hj⟩
theorem at_new (w : World) (x : TV) (T : TypeId) : At (w.alloc (.cells #[.int .i64 x.id, .int .i64 x.c, .int .i64 x.d, .int .i64 x.t, .int .i64 x.p, .slice x.a1 x.ch.length x.c1, .slice x.a2 x.us.length x.c2] T)) w.heap.size 0 x :=
  ⟨by rw [World.cell?_alloc_new]; rfl, by rw [World.cell?_alloc_new]; rfl, by rw [World.cell?_alloc_new]; rfl, by rw [World.cell?_alloc_new]; rfl, by rw [World.cell?_alloc_new]; rfl, by rw [World.cell?_alloc_new]; rfl, by rw [World.cell?_alloc_new]; rfl⟩
end Go.Proofs.Ytlglncnhhgofoaa

/-
  Tasks and systems that came in, opened.
-/
namespace Go.Proofs.Ytlglncnhhgofoaa
open Go.ChangeShapes Go.WideShapes Go.ChangeAt Go.RowKit

instance : Inhabited TV := ⟨⟨0, 0, 0, 0, 0, none, [], 0, none, [], 0⟩⟩
section
variable {H : Type} {enc : TypeId × Value → H} {W : World} {base : Nat} {spare : Nat → Bool} {held : Bool}

set_option maxRecDepth 100000 in
/-- A row of numbers. -/
theorem open_nums {t e : TypeId} {fuel : Nat} {v : Value} {x : DataW H × List MemPlace} (ht : Try.prog.underlying t = some (.slice e)) (he : Try.prog.underlying e = some (.int .i64)) (hc : Try.prog.cellsOf e = 1)
    (h : DataW.trod enc Try.prog W base spare held fuel t [v] = some x) : ∃ (a : Option Addr) (l : List Int) (c : Nat), v = .slice a l.length c ∧ Ints W a l ∧ l.length ≤ c ∧ (c : Int) ≤ 9223372036854775807 ∧ ∀ y ∈ l, I64 y := by
  rcases open_ints ht he hc h with ⟨hcs, _⟩ | ⟨a, len, cap, zs, hcs, _, hl, hm, hz, _, hcell, hw⟩
  · simp at hcs; subst hcs
    exact ⟨none, [], 0, rfl, .inl rfl, Nat.le_refl _, by omega, fun y hy => by cases hy⟩
  · simp at hcs; subst hcs
    have hlz : len ≤ zs.length := by rw [hz]; split <;> omega
    have hlen : (zs.take len).length = len := by rw [List.length_take]; omega
    refine ⟨some a, zs.take len, cap, by rw [hlen], ?_, by omega, by unfold maxLen at hm; omega, fun y hy => i64_of_wf (hw y (List.mem_of_mem_take hy))⟩
    rcases Nat.eq_zero_or_pos len with e | e
    · left; rw [e]; simp
    · right
      have h0 := hcell 0 (by omega)
      rcases a with ⟨b, off, spot⟩
      have hs : spot = none := by
        cases spot with
        | none => rfl
        | some s => simp [World.cell?, Addr.add] at h0; split at h0 <;> simp at h0
      subst hs
      refine ⟨b, off, rfl, fun j u hj => ?_⟩
      rw [List.getElem?_take] at hj
      split at hj
      · obtain ⟨q1, q2⟩ := List.getElem?_eq_some_iff.1 hj
        have := hcell j q1
        rw [addr_at] at this
        rw [this]
        simp [List.getD_eq_getElem?_getD, hj]
      · cases hj

set_option maxRecDepth 100000 in
/-- The cells of a task. -/
theorem open_cells {fuel : Nat} {cs : List Value} {y : DataW H × List MemPlace} (h : DataW.trod enc Try.prog W base spare held fuel TT cs = some y) : ∃ x : TV, cs = x.cells ∧ x.ok W ∧ I64 x.p ∧ I64 x.id := by
  obtain ⟨xs, n, _, _, hl, hlen, hf⟩ := DataW.trod_struct Try.underlying36 h
  have hl7 : cs.length = 7 := hl.trans (by kernel_rfl)
  have hx7 : xs.length = 7 := hlen
  have k1 : Try.prog.cellsOf 3 = 1 := by kernel_rfl
  have k2 : Try.prog.cellsOf 2 = 1 := by kernel_rfl
  have k3 : Try.prog.cellsOf 34 = 1 := by kernel_rfl
  have k4 : Try.prog.cellsOf 28 = 1 := by kernel_rfl
  match cs, hl7, xs, hx7 with
  | [v0, v1, v2, v3, v4, v5, v6], _, [y0, y1, y2, y3, y4, y5, y6], _ =>
    have t0 : DataW.trod enc Try.prog W base spare held n 3 [v0] = some y0 := by have q := hf 0 _ rfl; simpa [k1, k2, k3, k4] using q
    have t1 : DataW.trod enc Try.prog W base spare held n 2 [v1] = some y1 := by have q := hf 1 _ rfl; simpa [k1, k2, k3, k4] using q
    have t2 : DataW.trod enc Try.prog W base spare held n 2 [v2] = some y2 := by have q := hf 2 _ rfl; simpa [k1, k2, k3, k4] using q
    have t3 : DataW.trod enc Try.prog W base spare held n 2 [v3] = some y3 := by have q := hf 3 _ rfl; simpa [k1, k2, k3, k4] using q
    have t4 : DataW.trod enc Try.prog W base spare held n 3 [v4] = some y4 := by have q := hf 4 _ rfl; simpa [k1, k2, k3, k4] using q
    have t5 : DataW.trod enc Try.prog W base spare held n 34 [v5] = some y5 := by have q := hf 5 _ rfl; simpa [k1, k2, k3, k4] using q
    have t6 : DataW.trod enc Try.prog W base spare held n 28 [v6] = some y6 := by have q := hf 6 _ rfl; simpa [k1, k2, k3, k4] using q
    obtain ⟨n0, e0, _, w0⟩ := DataW.trod_int Try.underlying3 t0
    obtain ⟨n1, e1, _, w1⟩ := DataW.trod_int Try.underlying2 t1
    obtain ⟨n2, e2, _, w2⟩ := DataW.trod_int Try.underlying2 t2
    obtain ⟨n3, e3, _, w3⟩ := DataW.trod_int Try.underlying2 t3
    obtain ⟨n4, e4, _, w4⟩ := DataW.trod_int Try.underlying3 t4
    obtain ⟨a1, l1, c1, e5, i5, le5, m5, _⟩ := open_nums (v := v5) Try.underlying34 Try.underlying2 k2 t5
    obtain ⟨a2, l2, c2, e6, i6, le6, m6, _⟩ := open_nums (v := v6) Try.underlying28 Try.underlying3 k1 t6
    simp at e0 e1 e2 e3 e4
    subst e0 e1 e2 e3 e4 e5 e6
    exact ⟨⟨n0, n1, n2, n3, n4, a1, l1, c1, a2, l2, c2⟩, rfl, ⟨i5, i6, le5, m5, le6, m6⟩, i64_of_wf w4, i64_of_wf w0⟩

set_option maxRecDepth 100000 in
/-- A task by value. -/
theorem open_task {r : Reach} {b0 : Nat} {v : Value} {d : DataW H} {p : List MemPlace} (hv : Value.okWide Try.prog W r b0 TT v) (h : DataW.Trod enc Try.prog W base spare held TT v d p) : ∃ x : TV, v = x.val ∧ x.ok W ∧ I64 x.p ∧ I64 x.id := by
  obtain ⟨cs, rfl, _⟩ := okWide_struct Try.underlying36 hv
  obtain ⟨fuel, hf⟩ := h
  obtain ⟨x, hx, h1, h2⟩ := open_cells hf
  refine ⟨x, ?_, h1, h2⟩
  simp only [Value.cells] at hx
  unfold TV.val
  congr 1
  apply Array.ext'
  exact hx

set_option maxRecDepth 100000 in
/-- A row of tasks. -/
theorem open_tasks {fuel : Nat} {v : Value} {y : DataW H × List MemPlace} (h : DataW.trod enc Try.prog W base spare held fuel 25 [v] = some y) :
    ∃ (a : Option Addr) (n c : Nat) (L : List TV), v = .slice a n c ∧ Tasks W a n c L ∧ ∀ x ∈ L, I64 x.p ∧ I64 x.id := by
  rcases Go.Deep.open_slice Try.underlying25 h with ⟨hcs, _⟩ | ⟨a, len, cap, m, n, D, Pl, hcs, hb, hl, hm, hmm, hx, hi⟩
  · simp at hcs; subst hcs
    exact ⟨none, 0, 0, [], rfl, ⟨rfl, .inl rfl, (fun x hx => by cases hx), Nat.le_refl _, by omega⟩, (fun x hx => by cases hx)⟩
  · simp at hcs; subst hcs
    have k7 : Try.prog.cellsOf TT = 7 := by kernel_rfl
    have hlm : len ≤ m := by rw [hmm]; split <;> omega
    obtain ⟨O, hO⟩ := Go.Deep.choose_lt (n := len) (p := fun i (x : TV) => (x.ok W ∧ I64 x.p ∧ I64 x.id) ∧ ∀ j u, x.cells[j]? = some u → W.cell? (a.add (i * 7 + j)) = some u) (fun i hil => by
      obtain ⟨cs, hc, htr⟩ := hi i (by omega)
      rw [k7] at hc
      obtain ⟨_, hcl, hat⟩ := World.cells?_some hc
      obtain ⟨x, rfl, h1, h2⟩ := open_cells htr
      refine ⟨x, ⟨h1, h2⟩, fun j u hj => ?_⟩
      have hjl : j < 7 := by
        have := (List.getElem?_eq_some_iff.1 hj).1
        rwa [cells_len] at this
      have := hat j hjl
      rw [Go.Deep.add_add] at this
      rw [this]; exact hj)
    refine ⟨some a, len, cap, (List.range len).map O, rfl, ⟨by simp, ?_, ?_, hl, by unfold maxLen at hm; omega⟩, ?_⟩
    · rcases Nat.eq_zero_or_pos len with z | z
      · subst z; left; rfl
      have z0 := (hO 0 z).2 0 _ rfl
      rcases a with ⟨b, off, spot⟩
      have hs : spot = none := by
        cases spot with
        | none => rfl
        | some s => simp [World.cell?, Addr.add] at z0; split at z0 <;> simp at z0
      subst hs
      refine .inr ⟨b, off, rfl, fun j u hj => ?_⟩
      have hjl : j < len * 7 := by
        have := (List.getElem?_eq_some_iff.1 hj).1
        rwa [flat_len, List.length_map, List.length_range] at this
      have hk : ((List.range len).map O)[j / 7]? = some (O (j / 7)) := by simp [show j / 7 < len by omega]
      have hf := flat_at _ _ _ hk (j % 7) (by omega)
      rw [show j / 7 * 7 + j % 7 = j by omega, hj] at hf
      have := (hO (j / 7) (by omega)).2 (j % 7) u hf.symm
      rw [addr_at, show j / 7 * 7 + j % 7 = j by omega] at this
      exact this
    · intro x hx
      obtain ⟨i, hi, rfl⟩ := List.mem_map.1 hx
      exact (hO i (by simpa using hi)).1.1
    · intro x hx
      obtain ⟨i, hi, rfl⟩ := List.mem_map.1 hx
      exact (hO i (by simpa using hi)).1.2

set_option maxRecDepth 100000 in
/-- A system by value. -/
theorem open_system {r : Reach} {b0 : Nat} {v : Value} {d : DataW H} {p : List MemPlace} (hv : Value.okWide Try.prog W r b0 27 v) (h : DataW.Trod enc Try.prog W base spare held 27 v d p) :
    ∃ (s r : Int) (a : Option Addr) (n c : Nat) (L : List TV), v = .agg #[.int .i64 s, .int .i64 r, .slice a n c] ∧ Tasks W a n c L ∧ ∀ x ∈ L, I64 x.p ∧ I64 x.id := by
  obtain ⟨v0, v1, v2, y0, y1, y2, n, rfl, _, _, t0, t1, t2⟩ := Go.Joins.open_agg3 Try.underlying27 (by kernel_rfl) (by kernel_rfl) hv h
  obtain ⟨n0, e0, _, _⟩ := DataW.trod_int Try.underlying3 t0
  obtain ⟨n1, e1, _, _⟩ := DataW.trod_int Try.underlying2 t1
  obtain ⟨a, n2, c, L, e2, h2, h3⟩ := open_tasks t2
  simp at e0 e1
  subst e0 e1 e2
  exact ⟨n0, n1, a, n2, c, L, rfl, h2, h3⟩
end
end Go.Proofs.Ytlglncnhhgofoaa

/-
  The walks over whether rows of numbers, and tasks, are the same.
-/
namespace Go.Proofs.Ytlglncnhhgofoaa
open Go.RowKit Go.Maps

theorem bw_alloc {W w : World} (h : Below W.heap.size W w) (o : Obj) : Below W.heap.size W (w.alloc o) := h.alloc h.size o
theorem bw_drew {W w : World} (h : Below W.heap.size W w) : Below W.heap.size W w.drew := h.drew

theorem same_step {l m : List Int} {k : Nat} {x y : Int} (h : l.take k = m.take k) (hx : l[k]? = some x) (hy : m[k]? = some y) (e : x = y) : l.take (k + 1) = m.take (k + 1) := by
  rw [List.take_add_one, List.take_add_one, h, hx, hy, e]
theorem same_end {l m : List Int} {k : Nat} (h : l.take k = m.take k) (hl : l.length = k) (hm : m.length = k) : l = m := by
  rwa [List.take_of_length_le (by omega), List.take_of_length_le (by omega)] at h
theorem same_not {l m : List Int} {k : Nat} {x y : Int} (hx : l[k]? = some x) (hy : m[k]? = some y) (e : ¬ x = y) : ¬ l = m := by
  rintro rfl; rw [hx] at hy; cases hy; exact e rfl

end Go.Proofs.Ytlglncnhhgofoaa

/-
  The walks over whether two tasks are the same.
-/
namespace Go.Proofs.Ytlglncnhhgofoaa
open Go.RowKit Go.Maps

theorem new_first (w : World) (cs : Array Value) (T : TypeId) (o : Obj) (i : Nat) : ((w.alloc (.cells cs T)).alloc o).cell? ⟨w.heap.size, i, none⟩ = cs[i]? := by
  rw [World.cell?_alloc_lt _ _ _ (by simp), World.cell?_alloc_new]
theorem new_second (w : World) (cs : Array Value) (T : TypeId) (o : Obj) (i : Nat) : ((w.alloc o).alloc (.cells cs T)).cell? ⟨w.heap.size + 1, i, none⟩ = cs[i]? := by
  have := World.cell?_alloc_new (w.alloc o) cs T i
  rwa [World.size_alloc] at this
theorem tk_eq (x y : TV) : x.tk = y.tk ↔ x.id = y.id ∧ x.c = y.c ∧ x.d = y.d ∧ x.t = y.t ∧ x.p = y.p ∧ x.ch = y.ch ∧ x.us = y.us := by
  simp [TV.tk]

end Go.Proofs.Ytlglncnhhgofoaa

/-
  The walks over bounds, and over sums that fill.
-/
namespace Go.Proofs.Ytlglncnhhgofoaa
open Go.RowKit Go.Maps

set_option maxHeartbeats 400000 in
theorem within_yes (n l m : Int) (h1 : l ≤ n) (h2 : n ≤ m) (w : World) : Calls Try.prog 51 #[.int .i64 n, .int .i64 l, .int .i64 m] w fun e w' => e = .returned (.bool true) ∧ w = w' := by
  have d1 : decide (l ≤ n) = true := decide_eq_true h1
  have d2 : decide (n ≤ m) = true := decide_eq_true h2
  go_enter Try.func51, Try.ntmps51
  go_wp2
  go_ret
  exact ⟨rfl, rfl⟩
set_option maxHeartbeats 400000 in
theorem within_no (n l m : Int) (h : ¬ (l ≤ n ∧ n ≤ m)) (w : World) : Calls Try.prog 51 #[.int .i64 n, .int .i64 l, .int .i64 m] w fun e w' => e = .returned (.bool false) ∧ w = w' := by
  by_cases h1 : l ≤ n
  · have d1 : decide (l ≤ n) = true := decide_eq_true h1
    have h2 : ¬ n ≤ m := fun z => h ⟨h1, z⟩
    have d2 : decide (n ≤ m) = false := decide_eq_false h2
    clear h
    go_enter Try.func51, Try.ntmps51
    go_wp2
    go_ret
    exact ⟨rfl, rfl⟩
  · have d1 : decide (l ≤ n) = false := decide_eq_false h1
    clear h
    go_enter Try.func51, Try.ntmps51
    go_wp2
    go_ret
    exact ⟨rfl, rfl⟩
set_option maxHeartbeats 400000 in
theorem within64_yes (n l m : Int) (h1 : l ≤ n) (h2 : n ≤ m) (w : World) : Calls Try.prog 52 #[.int .i64 n, .int .i64 l, .int .i64 m] w fun e w' => e = .returned (.bool true) ∧ w = w' := by
  have d1 : decide (l ≤ n) = true := decide_eq_true h1
  have d2 : decide (n ≤ m) = true := decide_eq_true h2
  go_enter Try.func52, Try.ntmps52
  go_wp2
  go_ret
  exact ⟨rfl, rfl⟩
set_option maxHeartbeats 400000 in
theorem within64_no (n l m : Int) (h : ¬ (l ≤ n ∧ n ≤ m)) (w : World) : Calls Try.prog 52 #[.int .i64 n, .int .i64 l, .int .i64 m] w fun e w' => e = .returned (.bool false) ∧ w = w' := by
  by_cases h1 : l ≤ n
  · have d1 : decide (l ≤ n) = true := decide_eq_true h1
    have h2 : ¬ n ≤ m := fun z => h ⟨h1, z⟩
    have d2 : decide (n ≤ m) = false := decide_eq_false h2
    clear h
    go_enter Try.func52, Try.ntmps52
    go_wp2
    go_ret
    exact ⟨rfl, rfl⟩
  · have d1 : decide (l ≤ n) = false := decide_eq_false h1
    clear h
    go_enter Try.func52, Try.ntmps52
    go_wp2
    go_ret
    exact ⟨rfl, rfl⟩

/-- Whether numbers from 1 on fill c. -/
def fillB : List Int → Int → Bool
  | [], c => c == 0
  | x :: l, c => if 1 ≤ x ∧ x ≤ c then fillB l (c - x) else false

set_option maxRecDepth 100000 in
set_option maxHeartbeats 1000000 in
theorem fill_any (a : Option Addr) (n cap : Nat) (l : List Int) (hl : l.length = n) (hn : (n : Int) ≤ 9223372036854775807) (c : Int) (hc : c ≤ 9223372036854775807) (w : World) (h : Ints w a l) :
    Calls Try.prog 92 #[.slice a n cap, .int .i64 c] w fun e w' => e = .returned (.bool (fillB l c)) ∧ w = w' := by
  have H := Lib.hid h
  have HL := Lib.hid hl
  clear h hl
  go_enter Try.func92, Try.ntmps92
  go_wp2_with fail
  go_loop [1, 9] (fun u v => ∃ (k : Nat) (c' : Int), k ≤ n ∧ v = .int .i64 k ∧ u = .int .i64 c' ∧ c' ≤ 9223372036854775807 ∧ Hid (fillB (l.drop k) c' = fillB l c)) (fun _ v => (n - intOf v).toNat)
  case atStart => exact ⟨0, c, by omega, rfl, rfl, hc, by show _ = _; rw [List.drop_zero]⟩
  case round =>
    obtain ⟨k, c', hk, rfl, rfl, hc', HF⟩ := hrel
    by_cases hlt : k < n
    · obtain ⟨x, hx⟩ := nth_of HL.out hlt
      obtain ⟨g, o, rfl, c0⟩ := H.out.at_ hx
      have hd : Hid (l.drop k = x :: l.drop (k + 1)) := by
        obtain ⟨h2, h3⟩ := List.getElem?_eq_some_iff.1 hx
        show _ = _
        rw [List.drop_eq_getElem_cons h2, h3]
      clear hx
      have hk1 : (k : Int) < (n : Int) := by omega
      have hk0 : (0 : Int) ≤ (k : Int) := by omega
      by_cases hb : 1 ≤ x ∧ x ≤ c'
      · have CY := Lib.hid (fun w => within64_yes x 1 c' hb.1 hb.2 w)
        have HF2 : Hid (fillB (l.drop (k + 1)) (c' - x) = fillB l c) := by
          have := HF.out
          rw [hd.out, fillB, if_pos hb] at this
          exact this
        have hw : IntKind.i64.wrap (c' - x) = c' - x := IntWalk.i64_in _ (by omega)
        have hx2 : c' - x ≤ 9223372036854775807 := by omega
        clear HF hb
        go_wp2_with (go_at_call 52; (with_reducible refine (CY.out _).mono ?_); rintro e w3 ⟨rfl, rfl⟩)
        go_round
        case rel => exact ⟨k + 1, c' - x, by omega, by go_num, by first | rfl | (rw [hw]), hx2, HF2⟩
        case measure => simp [intOf]; omega
      · have CN := Lib.hid (fun w => within64_no x 1 c' hb w)
        have HF2 : Hid (false = fillB l c) := by
          have := HF.out
          rw [hd.out, fillB, if_neg hb] at this
          exact this
        clear HF hb
        go_wp2_with (go_at_call 52; (with_reducible refine (CN.out _).mono ?_); rintro e w3 ⟨rfl, rfl⟩)
        go_ret
        rw [← HF2.out]
        exact ⟨rfl, rfl⟩
    · obtain rfl : k = n := by omega
      have HF2 : Hid ((c' == 0) = fillB l c) := by
        have := HF.out
        rw [List.drop_of_length_le (by rw [HL.out]; exact Nat.le_refl _), fillB] at this
        exact this
      clear HF
      go_wp2_with fail
      go_ret
      rw [← HF2.out]
      exact ⟨rfl, rfl⟩

/-- Which one is less. -/
def cmpI (x y : Int) : Int := if x < y then -1 else if y < x then 1 else 0
/-- A number led into the room from 0 to below m. -/
def restI (n m : Int) : Int := n % m
set_option maxHeartbeats 1000000 in
theorem rest_any (n m : Int) (hm : 0 < m) (hm2 : m ≤ 1000000) (w : World) : Calls Try.prog 42 #[.int .i64 n, .int .i64 m] w fun e w' => e = .returned (.int .i64 (restI n m)) ∧ w = w' := by
  have a := Int.tmod_lt_of_pos n hm
  have b := Int.lt_tmod_of_pos n hm
  have e : restI n m = (n.tmod m + m) % m := by
    unfold restI
    rw [Int.add_emod_right]
    rw [Int.tmod_eq_emod]
    split
    · simp
    · simp [Int.sub_emod, Int.emod_emod_of_dvd]
      have : ((m.natAbs : Int)) = m := by omega
      simp [this]
  have d1 : (m == 0) = false := by rw [beq_eq_false_iff_ne]; omega
  rw [e]
  obtain ⟨t, ht⟩ : ∃ t, n.tmod m = t := ⟨_, rfl⟩
  rw [ht] at a b ⊢
  have hw : IntKind.i64.wrap (t + m) = t + m := IntWalk.i64_in _ (by omega)
  have a2 : (t + m) % m < m := Int.emod_lt_of_pos _ hm
  have b2 : 0 ≤ (t + m) % m := Int.emod_nonneg _ (by omega)
  clear e
  have h0 : ¬ m = 0 := by omega
  go_enter Try.func42, Try.ntmps42
  go_wp2
  go_ret
  exact ⟨rfl, rfl⟩
end Go.Proofs.Ytlglncnhhgofoaa

/-
  The walks over chunks, and over the search for a set that may not be.
-/
namespace Go.Proofs.Ytlglncnhhgofoaa
open Go.RowKit Go.Maps

theorem ints_second (w : World) (o : Obj) (x : Int) (T : TypeId) : Ints ((w.alloc o).alloc (.cells #[.int .i64 x] T)) (some ⟨w.heap.size + 1, 0, none⟩) [x] := by
  have := ints_new (w.alloc o) x T
  rwa [World.size_alloc] at this
/-- The chunks of a task; without any, all of its work is one. -/
def chunksOf (x : TV) : List Int := if x.ch = [] then [x.c] else x.ch
/-- A row of numbers that comes back. -/
def RowBack (l : List Int) (w : World) (e : Ending) (w' : World) : Prop :=
  ∃ a c, e = .returned (.slice a l.length c) ∧ Ints w' a l ∧ Below w.heap.size w w' ∧ (l.length : Int) ≤ 9223372036854775807

/-- The same of chunks: one, or the task's own row. -/
def ChunksBack (x : TV) (w : World) (e : Ending) (w' : World) : Prop :=
  ∃ a c, e = .returned (.slice a (chunksOf x).length c) ∧ Ints w' a (chunksOf x) ∧ Below w.heap.size w w' ∧ ((chunksOf x).length : Int) ≤ 9223372036854775807 ∧ ((chunksOf x).length = 1 ∨ (a = x.a1 ∧ chunksOf x = x.ch))
set_option maxRecDepth 100000 in
set_option maxHeartbeats 1000000 in
theorem chunks_any (x : TV) (w : World) (hx : x.ok w) : Calls Try.prog 93 #[x.val] w (ChunksBack x w) := by
  obtain ⟨id, c, d, t, p, a1, ch, c1, a2, us, c2⟩ := x
  obtain ⟨i1, i2, l1, m1, l2, m2⟩ := hx
  simp only at i1 i2 l1 m1 l2 m2
  unfold TV.val
  have hC : chunksOf ⟨id, c, d, t, p, a1, ch, c1, a2, us, c2⟩ = if ch = [] then [c] else ch := rfl
  unfold ChunksBack
  rw [hC]
  clear hC
  simp only []
  by_cases h : ch = []
  · subst h
    rw [if_pos rfl]
    clear i1 i2
    go_enter Try.func93, Try.ntmps93
    go_wp2
    go_ret
    exact ⟨_, _, rfl, ints_second _ _ _ _, (by repeat (first | exact Below.refl _ _ | (with_reducible assumption) | refine bw_alloc ?_ _ | refine bw_drew ?_)), by simp, by simp⟩
  · rw [if_neg h]
    have hl : 0 < ch.length := List.length_pos_iff.2 h
    have d1 : ((ch.length : Int) == 0) = false := by rw [beq_eq_false_iff_ne]; omega
    have I1 := Lib.hid i1
    clear i1 i2 h
    go_enter Try.func93, Try.ntmps93
    go_wp2
    go_ret
    exact ⟨_, _, rfl, I1.out.below (by repeat (first | exact Below.refl _ _ | (with_reducible assumption) | refine bw_alloc ?_ _ | refine bw_drew ?_)), (by repeat (first | exact Below.refl _ _ | (with_reducible assumption) | refine bw_alloc ?_ _ | refine bw_drew ?_)), by omega, by simp⟩

/-- The same, over an elder world. -/
def RowUnder (l : List Int) (W : World) (e : Ending) (w' : World) : Prop :=
  ∃ a c, e = .returned (.slice a l.length c) ∧ Ints w' a l ∧ Below W.heap.size W w' ∧ (l.length : Int) ≤ 9223372036854775807
theorem chunks_under (x : TV) (W w : World) (hb : Below W.heap.size W w) (hx : x.ok W) : Calls Try.prog 93 #[.agg #[.int .i64 x.id, .int .i64 x.c, .int .i64 x.d, .int .i64 x.t, .int .i64 x.p, .slice x.a1 x.ch.length x.c1, .slice x.a2 x.us.length x.c2]] w (RowUnder (chunksOf x) W) :=
  (chunks_any x w (hx.below hb)).mono fun _ _ ⟨a, c, h1, h2, h3, h4, _⟩ => ⟨a, c, h1, h2, below_up hb h3, h4⟩
/-- A task in a box. -/
structure AtB (w : World) (g : Nat) (x : TV) : Prop where
  c0 : w.cell? ⟨g, 0, none⟩ = some (.int .i64 x.id)
  c1 : w.cell? ⟨g, 1, none⟩ = some (.int .i64 x.c)
  c2 : w.cell? ⟨g, 2, none⟩ = some (.int .i64 x.d)
  c3 : w.cell? ⟨g, 3, none⟩ = some (.int .i64 x.t)
  c4 : w.cell? ⟨g, 4, none⟩ = some (.int .i64 x.p)
  c5 : w.cell? ⟨g, 5, none⟩ = some (.slice x.a1 x.ch.length x.c1)
  c6 : w.cell? ⟨g, 6, none⟩ = some (.slice x.a2 x.us.length x.c2)
theorem AtB.below {w w' : World} {g : Nat} {x : TV} (h : AtB w g x) (hb : Below w.heap.size w w') : AtB w' g x :=
  ⟨kept_cell hb h.c0, kept_cell hb h.c1, kept_cell hb h.c2, kept_cell hb h.c3, kept_cell hb h.c4, kept_cell hb h.c5, kept_cell hb h.c6⟩
theorem atB_new (w : World) (x : TV) (T : TypeId) : AtB (w.alloc (.cells #[.int .i64 x.id, .int .i64 x.c, .int .i64 x.d, .int .i64 x.t, .int .i64 x.p, .slice x.a1 x.ch.length x.c1, .slice x.a2 x.us.length x.c2] T)) w.heap.size x :=
  ⟨by rw [World.cell?_alloc_new]; rfl, by rw [World.cell?_alloc_new]; rfl, by rw [World.cell?_alloc_new]; rfl, by rw [World.cell?_alloc_new]; rfl, by rw [World.cell?_alloc_new]; rfl, by rw [World.cell?_alloc_new]; rfl, by rw [World.cell?_alloc_new]; rfl⟩
theorem AtB.view {w : World} {g : Nat} {x : TV} (h : AtB w g x) : View w (some ⟨g, 0, none⟩) [x] := View.of_at ⟨h.c0, h.c1, h.c2, h.c3, h.c4, h.c5, h.c6⟩

/-- A set that may not be. -/
def badB (s : Int) (u : Int) : Bool := decide (u < 0 ∨ s ≤ u)
set_option maxHeartbeats 1000000 in
theorem bad_any (u s : Int) (b : Nat) (w : World) (h : w.cell? ⟨b, 0, none⟩ = some (.int .i64 s)) : Calls Try.prog 95 #[.int .i64 u, .pointer (some ⟨b, 0, none⟩)] w fun e w' => e = .returned (.bool (badB s u)) ∧ w = w' := by
  unfold badB
  by_cases h1 : u < 0
  · rw [decide_eq_true (.inl h1)]
    go_enter Try.func95, Try.ntmps95
    go_wp2
    go_ret
    exact ⟨rfl, rfl⟩
  · by_cases h2 : s ≤ u
    · rw [decide_eq_true (.inr h2)]
      go_enter Try.func95, Try.ntmps95
      go_wp2
      go_ret
      exact ⟨rfl, rfl⟩
    · rw [decide_eq_false (fun z => z.elim h1 h2)]
      go_enter Try.func95, Try.ntmps95
      go_wp2
      go_ret
      exact ⟨rfl, rfl⟩

theorem any_take {l : List Int} {f : Int → Bool} {k : Nat} {x : Int} (h : (l.take k).any f = false) (hx : l[k]? = some x) (hf : f x = false) : (l.take (k + 1)).any f = false := by
  rw [List.take_add_one, hx, List.any_append, h]
  simp [hf]
theorem any_found {l : List Int} {f : Int → Bool} {k : Nat} {x : Int} (hx : l[k]? = some x) (hf : f x = true) : l.any f = true :=
  List.any_eq_true.2 ⟨x, List.mem_of_getElem? hx, hf⟩
theorem any_all {l : List Int} {f : Int → Bool} {k : Nat} (h : (l.take k).any f = false) (hl : l.length = k) : l.any f = false := by
  rwa [List.take_of_length_le (by omega)] at h

/-- Where the first one is, if there is one. -/
def Found (l : List Int) (f : Int → Bool) (w : World) (e : Ending) (w' : World) : Prop :=
  ∃ z : Int, e = .returned (.int .i64 z) ∧ decide (0 ≤ z) = l.any f ∧ w = w'

set_option maxRecDepth 100000 in
set_option maxHeartbeats 2000000 in
theorem indexI_any (a : Option Addr) (n cap : Nat) (l : List Int) (hl : l.length = n) (hn : (n : Int) ≤ 9223372036854775807) (s : Int) (b : Nat) (w : World) (h : Ints w a l) (hb : w.cell? ⟨b, 0, none⟩ = some (.int .i64 s)) :
    Calls Try.prog 101 #[.slice a n cap, .func (.func 95) #[] #[.pointer (some ⟨b, 0, none⟩)]] w (Found l (badB s) w) := by
  have H := Lib.hid h
  have HL := Lib.hid hl
  have HB := Lib.hid hb
  clear h hl hb
  go_enter Try.func101, Try.ntmps101
  go_wp2_with fail
  go_loop [8] (fun u => ∃ k : Nat, k ≤ n ∧ u = .int .i64 k ∧ Hid ((l.take k).any (badB s) = false)) (fun u => (n - intOf u).toNat)
  case atStart => exact ⟨0, by omega, rfl, by show _ = _; simp⟩
  case round =>
    obtain ⟨k, hk, rfl, HS⟩ := hrel
    by_cases hlt : k < n
    · obtain ⟨x, hx⟩ := nth_of HL.out hlt
      obtain ⟨g, o, rfl, c0⟩ := H.out.at_ hx
      have hk1 : (k : Int) < (n : Int) := by omega
      have hk0 : (0 : Int) ≤ (k : Int) := by omega
      have C := Lib.hid (bad_any x s b w HB.out)
      by_cases hf : badB s x = true
      · have HF := Lib.hid (any_found hx hf)
        rw [hf] at C
        clear hx hf HS
        go_wp2_with (go_at_call 95; (with_reducible refine (C.out).mono ?_); rintro e w1 ⟨rfl, rfl⟩)
        go_ret
        exact ⟨_, rfl, by rw [HF.out]; simp, rfl⟩
      · have hf2 : badB s x = false := by simpa using hf
        have HS2 := Lib.hid (any_take HS.out hx hf2)
        rw [hf2] at C
        clear hx hf hf2 HS
        go_wp2_with (go_at_call 95; (with_reducible refine (C.out).mono ?_); rintro e w1 ⟨rfl, rfl⟩)
        go_round
        case rel => exact ⟨k + 1, by omega, by go_num, HS2⟩
        case measure => simp [intOf]; omega
    · obtain rfl : n = k := by omega
      have HF := Lib.hid (any_all HS.out HL.out)
      go_wp2_with fail
      go_ret
      exact ⟨_, rfl, by rw [HF.out]; simp, rfl⟩

set_option maxRecDepth 100000 in
set_option maxHeartbeats 1000000 in
theorem contains_any (a : Option Addr) (n cap : Nat) (l : List Int) (hl : l.length = n) (hn : (n : Int) ≤ 9223372036854775807) (s : Int) (b : Nat) (w : World) (h : Ints w a l) (hb : w.cell? ⟨b, 0, none⟩ = some (.int .i64 s)) :
    Calls Try.prog 94 #[.slice a n cap, .func (.func 95) #[] #[.pointer (some ⟨b, 0, none⟩)]] w fun e w' => e = .returned (.bool (l.any (badB s))) ∧ w = w' := by
  have C := Lib.hid (indexI_any a n cap l hl hn s b w h hb)
  clear h hb hl
  go_enter Try.func94, Try.ntmps94
  go_wp2_with (go_at_call 101; (with_reducible refine (C.out).mono ?_); rintro e w1 ⟨z, rfl, hz, rfl⟩; have HZ := Lib.hid hz; clear hz)
  go_ret
  rw [← HZ.out]
  exact ⟨rfl, rfl⟩
end Go.Proofs.Ytlglncnhhgofoaa

/-
  The walks over how much work is done at the end of each chunk; what is asked of all tasks at the beginning.
-/
namespace Go.Proofs.Ytlglncnhhgofoaa
open Go.RowKit Go.Maps

theorem infoLong : (Try.prog.info? 2).map (fun i => (i.zero, i.size, i.bytes)) = some (some (.int .i64 0), 1, 8) := by kernel_rfl
theorem make_long (c : Nat) (hc : c ≤ 2000000000) (w : World) : (Instr.makeSlice 34 (.int .i64 0) (.int .i64 (c : Int))).run Try.prog w = .ok (.slice (some ⟨w.heap.size, 0, none⟩) 0 c) (w.alloc (.cells (madeCells #[.int .i64 0] c) 2)) := by
  obtain ⟨i0, hi, hz0, hz1, hz2⟩ := info_parts infoLong
  have h := run_make w 34 2 i0 (.int .i64 0) Try.underlying34 hi hz0 .i64 .i64 0 c (by omega) (by omega) (by rw [hz2]; omega) (by omega)
  rw [hz1] at h
  simpa [Value.cells] using h

/-- The sums of a row, from d on. -/
def sumsFrom : Int → List Int → List Int
  | _, [] => []
  | d, x :: l => (d + x) :: sumsFrom (d + x) l
def endsOf (x : TV) : List Int := sumsFrom 0 (chunksOf x)
theorem sums_len : ∀ (l : List Int) (d : Int), (sumsFrom d l).length = l.length
  | [], _ => rfl
  | x :: l, d => by simp [sumsFrom, sums_len l]
theorem fill_len : ∀ (l : List Int) (c : Int), 0 ≤ c → fillB l c = true → (l.length : Int) ≤ c
  | [], c, h, _ => by simpa using h
  | x :: l, c, h, hf => by
    rw [fillB] at hf
    by_cases g : 1 ≤ x ∧ x ≤ c
    · rw [if_pos g] at hf
      have := fill_len l (c - x) (by omega) hf
      simp only [List.length_cons]; omega
    · rw [if_neg g] at hf; cases hf
theorem fill_drop {l : List Int} {k : Nat} {x c : Int} (hx : l[k]? = some x) : fillB (l.drop k) c = if 1 ≤ x ∧ x ≤ c then fillB (l.drop (k + 1)) (c - x) else false := by
  obtain ⟨h2, h3⟩ := List.getElem?_eq_some_iff.1 hx
  rw [List.drop_eq_getElem_cons h2, h3, fillB]
theorem sums_step {l R : List Int} {k : Nat} {x d : Int} (hx : l[k]? = some x) (h : R ++ sumsFrom d (l.drop k) = sumsFrom 0 l) : (R ++ [d + x]) ++ sumsFrom (d + x) (l.drop (k + 1)) = sumsFrom 0 l := by
  obtain ⟨h2, h3⟩ := List.getElem?_eq_some_iff.1 hx
  rw [List.drop_eq_getElem_cons h2, h3, sumsFrom] at h
  rw [← h]; simp

/-- A row of one's own that was made with room. -/
theorem own_made (w : World) (o : Obj) (cap : Nat) (hc : cap ≤ 2000000000) (T : TypeId) : OwnI ((w.alloc o).alloc (.cells (madeCells #[.int .i64 0] cap) T)) T (w.heap.size + 1) (.slice (some ⟨w.heap.size + 1, 0, none⟩) 0 cap) [] := by
  have := World.ownsRow_made (e := T) (size := 1) (base := w.heap.size + 1) (w := w.alloc o) (madeCells #[.int .i64 0] cap) cap (by simp) (by unfold maxLen; omega) (by rw [size_madeCells]; omega)
  rwa [World.size_alloc] at this
/-- A task in a box, and a row of one's own. -/
structure EndsAt (w : World) (x : TV) (v : Value) (l : List Int) (W : World) : Prop where
  low : Below w.heap.size w W
  box : AtB W w.heap.size x
  own : OwnI W 2 (w.heap.size + 1) v l
theorem EndsAt.below {w W W' : World} {x : TV} {v : Value} {l : List Int} (h : EndsAt w x v l W) (hb : Below W.heap.size W W') : EndsAt w x v l W' := ⟨below_up h.low hb, h.box.below hb, h.own.below hb⟩
theorem endsAt_new {w : World} {x : TV} {T : TypeId} {cap : Nat} (hc : cap ≤ 2000000000) : EndsAt w x (.slice (some ⟨w.heap.size + 1, 0, none⟩) 0 cap) [] ((w.alloc (.cells #[.int .i64 x.id, .int .i64 x.c, .int .i64 x.d, .int .i64 x.t, .int .i64 x.p, .slice x.a1 x.ch.length x.c1, .slice x.a2 x.us.length x.c2] T)).alloc (.cells (madeCells #[.int .i64 0] cap) 2)) :=
  ⟨(by repeat (first | exact Below.refl _ _ | (with_reducible assumption) | refine bw_alloc ?_ _ | refine bw_drew ?_)), (atB_new w x T).below ((Below.refl _ _).alloc (Nat.le_refl _) _), own_made w _ cap hc _⟩
theorem kept_objB {B : Nat} {w w' : World} (hb : Below B w w') {b : Nat} {o : Obj} (hl : b < B) (h : w.heap[b]? = some o) : w'.heap[b]? = some o := (hb.block b hl).trans h
theorem kept_cellB {B : Nat} {w w' : World} (hb : Below B w w') {b o : Nat} {v : Value} (hl : b < B) (h : w.cell? ⟨b, o, none⟩ = some v) : w'.cell? ⟨b, o, none⟩ = some v := by
  rw [hb.cell (p := ⟨b, o, none⟩) hl]; exact h
theorem AtB.belowB {B : Nat} {w w' : World} {g : Nat} {x : TV} (h : AtB w g x) (hb : Below B w w') (hg : g < B) : AtB w' g x :=
  ⟨kept_cellB hb hg h.c0, kept_cellB hb hg h.c1, kept_cellB hb hg h.c2, kept_cellB hb hg h.c3, kept_cellB hb hg h.c4, kept_cellB hb hg h.c5, kept_cellB hb hg h.c6⟩
theorem EndsAt.grown {w W W' : World} {x : TV} {v v' : Value} {l l' : List Int} (h : EndsAt w x v l W) (hg : W.grownBy W' v.ownBlock) (ho : OwnI W' 2 (w.heap.size + 1) v' l') : EndsAt w x v' l' W' := by
  have hs := block_of_cell h.box.c0
  have hb : Below (w.heap.size + 1) W W' := (Below.refl _ W).grown hg hs (fun k hk => (h.own.new hk).1)
  exact ⟨h.low.trans (hb.mono (by omega)), h.box.belowB hb (by omega), ho⟩
theorem chunks_pos (x : TV) : 0 < (chunksOf x).length := by
  unfold chunksOf
  split
  · simp
  · rename_i e; exact List.length_pos_iff.2 e

end Go.Proofs.Ytlglncnhhgofoaa

/-
  Tasks by plain numbers: what a number's task is, in words.
-/
namespace Go.Proofs.Ytlglncnhhgofoaa
open Go.RowKit Go.Maps

/-- A task's plain numbers as they stand in memory. -/
structure NV where
  C : Int
  D : Int
  T : Int
  P : Int
  K : Int
  a : Option Addr
  us : List Int
  c : Nat
def NV.cells (x : NV) : List Value := [.int .i64 x.C, .int .i64 x.D, .int .i64 x.T, .int .i64 x.P, .int .i64 x.K, .slice x.a x.us.length x.c]
structure NV.ok (w : World) (x : NV) : Prop where
  row : Ints w x.a x.us
  le : x.us.length ≤ x.c
  small : (x.c : Int) ≤ 9223372036854775807
theorem NV.ok.below {w w' : World} {x : NV} (h : x.ok w) (hb : Below w.heap.size w w') : x.ok w' := ⟨h.row.below hb, h.le, h.small⟩
/-- The cells of a task's plain numbers, from a place on. -/
structure NAt (w : World) (g o : Nat) (x : NV) : Prop where
  c0 : w.cell? ⟨g, o, none⟩ = some (.int .i64 x.C)
  c1 : w.cell? ⟨g, o + 1, none⟩ = some (.int .i64 x.D)
  c2 : w.cell? ⟨g, o + 2, none⟩ = some (.int .i64 x.T)
  c3 : w.cell? ⟨g, o + 3, none⟩ = some (.int .i64 x.P)
  c4 : w.cell? ⟨g, o + 4, none⟩ = some (.int .i64 x.K)
  c5 : w.cell? ⟨g, o + 5, none⟩ = some (.slice x.a x.us.length x.c)
theorem NAt.below {w w' : World} {g o : Nat} {x : NV} (h : NAt w g o x) (hb : Below w.heap.size w w') : NAt w' g o x :=
  ⟨kept_cell hb h.c0, kept_cell hb h.c1, kept_cell hb h.c2, kept_cell hb h.c3, kept_cell hb h.c4, kept_cell hb h.c5⟩

/-- What is promised of the task that a number means: at place i, for so many sets. -/
structure Good (i : Int) (sets : Int) (y : TV) : Prop where
  id : y.id = i + 1
  c1 : 1 ≤ y.c
  cd : y.c ≤ y.d
  dt : y.d ≤ y.t
  t24 : y.t ≤ 24
  p1 : 10 ≤ y.p
  p99 : y.p ≤ 90 + i
  pi : (y.p - i) % 10 = 0
  ch : y.ch = [] ∨ fillB y.ch y.c = true
  us : ∀ u ∈ y.us, 0 ≤ u ∧ u < sets
  us5 : y.us.length ≤ 5

theorem fill_sum : ∀ (l : List Int) (c : Int), (∀ x ∈ l, 1 ≤ x) → l.sum = c → fillB l c = true
  | [], c, _, h => by simp at h; subst h; rfl
  | x :: l, c, hp, h => by
    have h1 : 1 ≤ x := hp x (by simp)
    have hs : ∀ (l : List Int), (∀ x ∈ l, 1 ≤ x) → 0 ≤ l.sum := by
      intro l
      induction l with
      | nil => intro _; simp
      | cons y l ih =>
        intro hl
        have := ih (fun z hz => hl z (by simp [hz]))
        have := hl y (by simp)
        simp only [List.sum_cons]; omega
    have h2 := hs l (fun z hz => hp z (by simp [hz]))
    simp only [List.sum_cons] at h
    rw [fillB, if_pos ⟨h1, by omega⟩]
    exact fill_sum l (c - x) (fun z hz => hp z (by simp [hz])) (by omega)

theorem and_small (n : Int) (m : Nat) (hm : m < 1000) : ∃ j : Nat, j ≤ m ∧ bits .and .i64 n (m : Int) = (j : Int) := by
  have hm2 : (BitVec.ofInt 64 (m : Int)).toNat = m := by
    rw [BitVec.toNat_ofInt]; omega
  have h : (BitVec.ofInt 64 n &&& BitVec.ofInt 64 (m : Int)).toNat ≤ m := by
    rw [BitVec.toNat_and, hm2]; exact Nat.and_le_right
  refine ⟨_, h, ?_⟩
  show IntKind.i64.wrap _ = _
  exact IntWalk.i64_in _ (by show _ ∧ ((BitVec.ofInt 64 n &&& BitVec.ofInt 64 (m : Int)).toNat : Int) ≤ _; omega)
theorem and7 (n : Int) : ∃ j : Nat, j < 8 ∧ bits .and .i64 n 7 = (j : Int) := by
  obtain ⟨j, h1, h2⟩ := and_small n 7 (by omega)
  exact ⟨j, by omega, h2⟩
theorem period (j : Nat) (hj : j < 8) : ∃ t : Int, [(4 : Int), 5, 6, 8, 10, 12, 20, 24][j]? = some t ∧ 4 ≤ t ∧ t ≤ 24 := by
  match j, hj with
  | 0, _ => exact ⟨4, rfl, by omega, by omega⟩
  | 1, _ => exact ⟨5, rfl, by omega, by omega⟩
  | 2, _ => exact ⟨6, rfl, by omega, by omega⟩
  | 3, _ => exact ⟨8, rfl, by omega, by omega⟩
  | 4, _ => exact ⟨10, rfl, by omega, by omega⟩
  | 5, _ => exact ⟨12, rfl, by omega, by omega⟩
  | 6, _ => exact ⟨20, rfl, by omega, by omega⟩
  | 7, _ => exact ⟨24, rfl, by omega, by omega⟩
theorem ints_block (w : World) (l : List Int) (T : TypeId) : Ints (w.alloc (.cells (vi l).toArray T)) (some ⟨w.heap.size, 0, none⟩) l :=
  .inr ⟨_, 0, rfl, fun j u hj => by rw [Nat.zero_add, World.cell?_alloc_new]; simpa using vi_at hj⟩

/-- The plain numbers in a box; the task that comes back in another one. -/
structure NumAt (w : World) (x : NV) (W : World) : Prop where
  low : Below w.heap.size w W
  c0 : W.cell? ⟨w.heap.size, 0, none⟩ = some (.int .i64 x.C)
  c1 : W.cell? ⟨w.heap.size, 1, none⟩ = some (.int .i64 x.D)
  c2 : W.cell? ⟨w.heap.size, 2, none⟩ = some (.int .i64 x.T)
  c3 : W.cell? ⟨w.heap.size, 3, none⟩ = some (.int .i64 x.P)
  c4 : W.cell? ⟨w.heap.size, 4, none⟩ = some (.int .i64 x.K)
  c5 : W.cell? ⟨w.heap.size, 5, none⟩ = some (.slice x.a x.us.length x.c)
  res : W.heap[w.heap.size + 1]? = some (.cells #[.int .i64 0, .int .i64 0, .int .i64 0, .int .i64 0, .int .i64 0, .slice none 0 0, .slice none 0 0] TT (0, 0))
theorem NumAt.below {w W W' : World} {x : NV} (h : NumAt w x W) (hb : Below W.heap.size W W') : NumAt w x W' :=
  ⟨below_up h.low hb, kept_cell hb h.c0, kept_cell hb h.c1, kept_cell hb h.c2, kept_cell hb h.c3, kept_cell hb h.c4, kept_cell hb h.c5, kept_obj hb h.res⟩
theorem NumAt.belowB {B : Nat} {w W W' : World} {x : NV} (h : NumAt w x W) (hB : w.heap.size + 1 < B) (hb : Below B W W') : NumAt w x W' :=
  ⟨h.low.trans (hb.mono (by omega)), kept_cellB hb (by omega) h.c0, kept_cellB hb (by omega) h.c1, kept_cellB hb (by omega) h.c2, kept_cellB hb (by omega) h.c3, kept_cellB hb (by omega) h.c4, kept_cellB hb (by omega) h.c5, (hb.block _ hB).trans h.res⟩
theorem numAt_new {w : World} {x : NV} {T : TypeId} : NumAt w x ((w.alloc (.cells #[.int .i64 x.C, .int .i64 x.D, .int .i64 x.T, .int .i64 x.P, .int .i64 x.K, .slice x.a x.us.length x.c] T)).alloc (.cells #[.int .i64 0, .int .i64 0, .int .i64 0, .int .i64 0, .int .i64 0, .slice none 0 0, .slice none 0 0] TT)) := by
  refine ⟨(by repeat (first | exact Below.refl _ _ | (with_reducible assumption) | refine bw_alloc ?_ _ | refine bw_drew ?_)), (new_first w _ _ _ 0).trans rfl, (new_first w _ _ _ 1).trans rfl, (new_first w _ _ _ 2).trans rfl, (new_first w _ _ _ 3).trans rfl, (new_first w _ _ _ 4).trans rfl, (new_first w _ _ _ 5).trans rfl, ?_⟩
  have := heap_alloc_new (w.alloc (.cells #[.int .i64 x.C, .int .i64 x.D, .int .i64 x.T, .int .i64 x.P, .int .i64 x.K, .slice x.a x.us.length x.c] T)) (.cells #[.int .i64 0, .int .i64 0, .int .i64 0, .int .i64 0, .int .i64 0, .slice none 0 0, .slice none 0 0] TT)
  rwa [World.size_alloc] at this

/-- A task that is being made, in a box of its own. -/
structure TaskAt (w : World) (x : NV) (g : Nat) (id c d t p : Int) (v1 : Value) (R1 : List Int) (v2 : Value) (R2 : List Int) (W : World) : Prop where
  num : NumAt w x W
  gl : w.heap.size + 1 < g
  box : W.heap[g]? = some (.cells #[.int .i64 id, .int .i64 c, .int .i64 d, .int .i64 t, .int .i64 p, v1, v2] TT (0, 0))
  own1 : OwnI W 2 (g + 1) v1 R1
  own2 : OwnI W 3 (g + 1) v2 R2
theorem TaskAt.below {w W W' : World} {x : NV} {g : Nat} {id c d t p : Int} {v1 v2 : Value} {R1 R2 : List Int} (h : TaskAt w x g id c d t p v1 R1 v2 R2 W) (hb : Below W.heap.size W W') : TaskAt w x g id c d t p v1 R1 v2 R2 W' :=
  ⟨h.num.below hb, h.gl, kept_obj hb h.box, h.own1.below hb, h.own2.below hb⟩
theorem OwnI.set {w : World} {e : TypeId} {B : Nat} {v : Value} {l : List Int} (h : OwnI w e B v l) {a : Addr} (ha : a.block < B) (u : Value) : OwnI (w.setCell a u) e B v l := ownsRow_setCell_below h ha u
theorem own_set7 {w : World} {e : TypeId} {B b : Nat} {v : Value} {l : List Int} (h : OwnI w e B v l) (hb : b < B) (x0 x1 x2 x3 x4 x5 x6 : Value) : OwnI ((((((((w.setCell ⟨b, 0, none⟩ x0).setCell ⟨b, 1, none⟩ x1).setCell ⟨b, 2, none⟩ x2).setCell ⟨b, 3, none⟩ x3).setCell ⟨b, 4, none⟩ x4).setCell ⟨b, 5, none⟩ x5).setCell ⟨b, 6, none⟩ x6)) e B v l := by
  have h0 := h.set (a := ⟨b, 0, none⟩) hb x0
  have h1 := h0.set (a := ⟨b, 1, none⟩) hb x1
  have h2 := h1.set (a := ⟨b, 2, none⟩) hb x2
  have h3 := h2.set (a := ⟨b, 3, none⟩) hb x3
  have h4 := h3.set (a := ⟨b, 4, none⟩) hb x4
  have h5 := h4.set (a := ⟨b, 5, none⟩) hb x5
  exact h5.set (a := ⟨b, 6, none⟩) hb x6
theorem below_set7 {W w : World} {B b : Nat} (h : Below B W w) (hb : B ≤ b) (x0 x1 x2 x3 x4 x5 x6 : Value) : Below B W ((((((((w.setCell ⟨b, 0, none⟩ x0).setCell ⟨b, 1, none⟩ x1).setCell ⟨b, 2, none⟩ x2).setCell ⟨b, 3, none⟩ x3).setCell ⟨b, 4, none⟩ x4).setCell ⟨b, 5, none⟩ x5).setCell ⟨b, 6, none⟩ x6)) := by
  have h0 := h.setCell (p := ⟨b, 0, none⟩) hb x0
  have h1 := h0.setCell (p := ⟨b, 1, none⟩) hb x1
  have h2 := h1.setCell (p := ⟨b, 2, none⟩) hb x2
  have h3 := h2.setCell (p := ⟨b, 3, none⟩) hb x3
  have h4 := h3.setCell (p := ⟨b, 4, none⟩) hb x4
  have h5 := h4.setCell (p := ⟨b, 5, none⟩) hb x5
  exact h5.setCell (p := ⟨b, 6, none⟩) hb x6
theorem NumAt.set {w W : World} {x : NV} (h : NumAt w x W) {g o : Nat} (hg : w.heap.size + 1 < g) (u : Value) : NumAt w x (W.setCell ⟨g, o, none⟩ u) :=
  h.belowB (B := g) hg ((Below.refl _ _).setCell (p := ⟨g, o, none⟩) (Nat.le_refl _) u)
theorem TaskAt.push1 {w W w3 : World} {x : NV} {g : Nat} {id c d t p : Int} {v1 v' : Value} {R1 R' : List Int} (h : TaskAt w x g id c d t p v1 R1 (.slice none 0 0) [] W) (hg : W.grownBy w3 v1.ownBlock) (ho : OwnI w3 2 (g + 1) v' R') :
    TaskAt w x g id c d t p v' R' (.slice none 0 0) [] (w3.setCell ⟨g, 5, none⟩ v') ∧ w3.cell? ⟨g, 5, none⟩ = some v1 ∧ w3.frozen? ⟨g, 5, none⟩ = false := by
  have hs : g + 1 ≤ W.heap.size := lt_of_block h.box
  have hb : Below (g + 1) W w3 := (Below.refl _ W).grown hg hs (fun k hk => (h.own1.new hk).1)
  have h3 := kept_objB hb (by omega) h.box
  exact ⟨⟨(h.num.belowB (by have := h.gl; omega) hb).set h.gl _, h.gl, (blk_set h3 _).trans rfl, ho.set (by simp) _, OwnI.nil _ _ _⟩, by rw [blk_cell h3]; rfl, blk_free h3 5⟩
theorem TaskAt.push2 {w W w3 : World} {x : NV} {g : Nat} {id c d t p : Int} {v1 v2 v' : Value} {R1 R2 R' : List Int} (h : TaskAt w x g id c d t p v1 R1 v2 R2 W) (hg : W.grownBy w3 v2.ownBlock) (ho : OwnI w3 3 (g + 1) v' R') :
    TaskAt w x g id c d t p v1 R1 v' R' (w3.setCell ⟨g, 6, none⟩ v') ∧ w3.cell? ⟨g, 6, none⟩ = some v2 ∧ w3.frozen? ⟨g, 6, none⟩ = false := by
  have hs : g + 1 ≤ W.heap.size := lt_of_block h.box
  have hb : Below (g + 1) W w3 := (Below.refl _ W).grown hg hs (fun k hk => (h.own2.new hk).1)
  have h3 := kept_objB hb (by omega) h.box
  have h1 : OwnI w3 2 (g + 1) v1 R1 := by
    rcases h.own1 with ⟨h0, q | ⟨k, cap, cur, e, hB, h3, r⟩⟩
    · exact ⟨h0, .inl q⟩
    · refine ⟨h0, .inr ⟨k, cap, cur, e, hB, ?_, r⟩⟩
      rw [hg.block k (lt_of_block h3) ?_]; exact h3
      intro z
      rcases h.own2 with ⟨_, q | ⟨k', cap', cur', e', hB', h3', _⟩⟩
      · rw [q.1] at z; cases z
      · rw [e'] at z
        simp [Value.ownBlock] at z
        subst z
        rw [h3] at h3'
        simp at h3'
  exact ⟨⟨(h.num.belowB (by have := h.gl; omega) hb).set h.gl _, h.gl, (blk_set h3 _).trans rfl, h1.set (by simp) _, ho.set (by simp) _⟩, by rw [blk_cell h3]; rfl, blk_free h3 6⟩
theorem taskAt_new {w W : World} {x : NV} {id c d t p : Int} (h : NumAt w x W) (hg : w.heap.size + 1 < W.heap.size) : TaskAt w x W.heap.size id c d t p (.slice none 0 0) [] (.slice none 0 0) [] (W.alloc (.cells #[.int .i64 id, .int .i64 c, .int .i64 d, .int .i64 t, .int .i64 p, .slice none 0 0, .slice none 0 0] TT)) :=
  ⟨h.below (by repeat (first | exact Below.refl _ _ | (with_reducible assumption) | refine bw_alloc ?_ _ | refine bw_drew ?_)), hg, heap_alloc_new W _, OwnI.nil _ _ _, OwnI.nil _ _ _⟩
/-- Chunks so far: from 1 on, of that sum. -/
def Chunks (R : List Int) (f : Int) : Prop := (∀ x ∈ R, 1 ≤ x) ∧ R.sum = f
theorem Chunks.push {R : List Int} {f k : Int} (h : Chunks R f) (hk : f < k) : Chunks (R ++ [k - f]) k := by
  refine ⟨fun x hx => ?_, ?_⟩
  · rcases List.mem_append.1 hx with q | q
    · exact h.1 x q
    · simp at q; omega
  · rw [List.sum_append, h.2]; simp; omega
theorem Chunks.len {R : List Int} {f : Int} (h : Chunks R f) (hf : 0 ≤ f) : (R.length : Int) ≤ f := fill_len R f hf (fill_sum R f h.1 h.2)
/-- The row lies in a block of numbers. -/
def IsI (w : World) (a : Option Addr) (l : List Int) : Prop := l = [] ∨ ∀ g o, a = some ⟨g, o, none⟩ → ∃ cs T fr, w.heap[g]? = some (.cells cs T fr) ∧ (T = 2 ∨ T = 3)
theorem IsI.below {w w' : World} {a : Option Addr} {l : List Int} (h : IsI w a l) (hb : Below w.heap.size w w') : IsI w' a l := by
  rcases h with h | h
  · exact .inl h
  · refine .inr fun g o e => ?_
    obtain ⟨cs, T, fr, h1, h2⟩ := h g o e
    exact ⟨cs, T, fr, kept_obj hb h1, h2⟩
theorem OwnI.isI {w : World} {e : TypeId} {B n c : Nat} {a : Option Addr} {l : List Int} (h : OwnI w e B (.slice a n c) l) (he : e = 2 ∨ e = 3) : IsI w a l := by
  rcases h.2 with ⟨h1, h0⟩ | ⟨g, cap, cur, h1, _, h3, _⟩
  · exact .inl (List.length_eq_zero_iff.1 h0)
  · refine .inr fun g' o e' => ?_
    cases h1; cases e'
    exact ⟨_, _, _, h3, he⟩
/-- The task that comes back. -/
def TaskBack (i sets : Int) (w : World) (e : Ending) (w' : World) : Prop :=
  ∃ y : TV, e = .returned (.agg #[.int .i64 y.id, .int .i64 y.c, .int .i64 y.d, .int .i64 y.t, .int .i64 y.p, .slice y.a1 y.ch.length y.c1, .slice y.a2 y.us.length y.c2]) ∧ y.ok w' ∧ Good i sets y ∧ Below w.heap.size w w' ∧ IsI w' y.a1 y.ch ∧ IsI w' y.a2 y.us

set_option maxRecDepth 100000 in
set_option maxHeartbeats 4000000 in
theorem task_any (x : NV) (i sets : Int) (hi : 0 ≤ i ∧ i < 6) (hs : 1 ≤ sets ∧ sets ≤ 8) (w : World) (hx : x.ok w) : Calls Try.prog 43 #[.agg #[.int .i64 x.C, .int .i64 x.D, .int .i64 x.T, .int .i64 x.P, .int .i64 x.K, .slice x.a x.us.length x.c], .int .i64 i, .int .i64 sets] w (TaskBack i sets w) := by
  have hz := zeroTask
  obtain ⟨j, hj, hj2⟩ := and7 x.T
  obtain ⟨t, ht, ht1, ht2⟩ := period j hj
  go_enter Try.func43, Try.ntmps43
  go_upto_region 1 with fail
  refine gen_world (NumAt w x) numAt_new ?_
  intro W1 hw1
  have H1 := Lib.hid hw1
  clear hw1
  go_upto_region 2 with fail
  have hcell : (W1.alloc (.cells #[.int .i64 4, .int .i64 5, .int .i64 6, .int .i64 8, .int .i64 10, .int .i64 12, .int .i64 20, .int .i64 24] 110)).cell? ⟨W1.heap.size, j, none⟩ = some (.int .i64 t) := by
    obtain ⟨g, o, e, h⟩ := (ints_block W1 [4, 5, 6, 8, 10, 12, 20, 24] 110).at_ ht
    cases e; rw [Nat.zero_add] at h; exact h
  refine gen_world (fun v => NumAt w x v ∧ v.cell? ⟨W1.heap.size, j, none⟩ = some (.int .i64 t)) ⟨H1.out.below (by repeat (first | exact Below.refl _ _ | (with_reducible assumption) | refine bw_alloc ?_ _ | refine bw_drew ?_)), hcell⟩ ?_
  intro W2 ⟨hw2, hcell2⟩
  clear hcell
  have H2 := Lib.hid hw2
  obtain ⟨_, c0, c1, c2, c3, c4, c5, _⟩ := hw2
  have hj1 : (j : Int) < 8 := by omega
  have hj0 : (0 : Int) ≤ (j : Int) := by omega
  have HT := Lib.hid ht
  clear ht
  obtain ⟨d, hd⟩ : ∃ d, restI x.D t = d := ⟨_, rfl⟩
  have R1 := Lib.hid (fun w => hd ▸ rest_any x.D t (by omega) (by omega) w)
  have hd0 : 0 ≤ d := by rw [← hd]; exact Int.emod_nonneg _ (by omega)
  have hd1 : d < t := by rw [← hd]; exact Int.emod_lt_of_pos _ (by omega)
  have hw1 : IntKind.i64.wrap (1 + d) = 1 + d := IntWalk.i64_in _ (by omega)
  obtain ⟨c, hc⟩ : ∃ c, restI x.C (1 + d) = c := ⟨_, rfl⟩
  have R2 := Lib.hid (fun w => hc ▸ rest_any x.C (1 + d) (by omega) (by omega) w)
  have hc0 : 0 ≤ c := by rw [← hc]; exact Int.emod_nonneg _ (by omega)
  have hc1 : c < 1 + d := by rw [← hc]; exact Int.emod_lt_of_pos _ (by omega)
  have hw2 : IntKind.i64.wrap (1 + c) = 1 + c := IntWalk.i64_in _ (by omega)
  obtain ⟨p, hp⟩ : ∃ p, restI x.P 9 = p := ⟨_, rfl⟩
  have R3 := Lib.hid (fun w => hp ▸ rest_any x.P 9 (by omega) (by omega) w)
  have hp0 : 0 ≤ p := by rw [← hp]; exact Int.emod_nonneg _ (by omega)
  have hp1 : p < 9 := by rw [← hp]; exact Int.emod_lt_of_pos _ (by omega)
  have hw3 : IntKind.i64.wrap (1 + p) = 1 + p := IntWalk.i64_in _ (by omega)
  have hw4 : IntKind.i64.wrap (10 * (1 + p)) = 10 * (1 + p) := IntWalk.i64_in _ (by omega)
  have hw5 : IntKind.i64.wrap (10 * (1 + p) + i) = 10 * (1 + p) + i := IntWalk.i64_in _ (by omega)
  have hw6 : IntKind.i64.wrap (i + 1) = i + 1 := IntWalk.i64_in _ (by omega)
  clear hd hc hp
  go_upto_region 6 with (first
    | (go_at_call 42; (with_reducible refine (R1.out _).mono ?_); rintro e w3 ⟨rfl, rfl⟩)
    | (go_at_call 42; (with_reducible refine (R2.out _).mono ?_); rintro e w3 ⟨rfl, rfl⟩)
    | (go_at_call 42; (with_reducible refine (R3.out _).mono ?_); rintro e w3 ⟨rfl, rfl⟩))
  have hgl0 : w.heap.size + 1 < W2.heap.size := lt_of_block H2.out.res
  refine gen_world (TaskAt w x W2.heap.size (i + 1) (1 + c) (1 + d) t (10 * (1 + p) + i) (.slice none 0 0) [] (.slice none 0 0) []) (taskAt_new H2.out hgl0) ?_
  intro W3 hw3s
  have H3 := Lib.hid hw3s
  have hp9 : (10 * (1 + p) + i - i) % 10 = 0 := by omega
  have hp10 : 10 ≤ 10 * (1 + p) + i := by omega
  have hp99 : 10 * (1 + p) + i ≤ 90 + i := by omega
  have HP9 := Lib.hid hp9
  have HM : Hid (∀ sx : Unit, IntKind.i64.wrap (i + 1) = i + 1) := fun _ => hw6
  have HX := Lib.hid hx
  have hcc : 1 ≤ 1 + c := by omega
  have hcd : 1 + c ≤ 1 + d := by omega
  have hdt : 1 + d ≤ t := by omega
  have HI : Hid (i + 1 = i + 1) := rfl
  clear hw3s hw1 hw2 hw3 hw4 hw5 hw6 hp9 HT hcell2 c0 c1 c2 c3 c4 c5 R1 R2 R3 hj0 hj1 hj2 hj hx hc0 hc1 hd0 hd1 hp0 hp1 H1 H2
  generalize 1 + c = C at *
  generalize 1 + d = D at *
  generalize 10 * (1 + p) + i = P at *
  generalize W2.heap.size = g at *
  clear hgl0
  go_wp2_with fail
  go_loopw [12, 13] (fun u v wr => ∃ (f k : Int) (v1 : Value) (R1 : List Int), 1 ≤ k ∧ k ≤ C ∧ 0 ≤ f ∧ f < k ∧ v = .int .i64 k ∧ u = .int .i64 f ∧ Hid (Chunks R1 f) ∧ Hid (TaskAt w x g (i + 1) C D t P v1 R1 (.slice none 0 0) [] wr)) (fun _ v _ => (C - intOf v).toNat)
  case atStart => exact ⟨0, 1, _, [], by omega, hcc, by omega, by omega, rfl, rfl, ⟨(fun x hx => by cases hx), rfl⟩, H3⟩
  case round =>
    obtain ⟨f, k, v1, R1, hk1, hkC, hf0, hfk, rfl, rfl, HC, HP⟩ := hrel
    clear H3
    have c4 := HP.out.num.c4
    have b5 : wr.cell? ⟨g, 5, none⟩ = some v1 := by rw [blk_cell HP.out.box]; rfl
    have hgw : g < wr.heap.size := lt_of_block HP.out.box
    by_cases hlt : k < C
    · have hu : IntKind.u64.wrap k = k := by rw [IntKind.wrap_u64]; omega
      have hk24 : k ≤ 64 := by omega
      have hk0 : 0 ≤ k := by omega
      have hku : k ≤ 18446744073709551615 := by omega
      obtain ⟨q, hq⟩ : ∃ q, bits .and .i64 (x.K / 2 ^ k.toNat) 1 = q := ⟨_, rfl⟩
      by_cases hq1 : q = 1
      · obtain ⟨a5, cp5, rfl, _⟩ := HP.out.own1.slice
        have HLN := Lib.hid (HC.out.len hf0)
        have HSM : Hid (((R1.length : Int) + ((1 : Nat) : Int)) ≤ 17592186044416) := by show _ ≤ _; have := HLN.out; omega
        have HSZ : Hid (g + 1 ≤ (wr.alloc (.cells #[.int .i64 (k - f)] 2)).heap.size) := by show _ ≤ _; rw [World.size_alloc]; omega
        have HW : Hid (IntKind.i64.wrap (k - f) = k - f) := IntWalk.i64_in _ (by omega)
        have HC2 := Lib.hid (HC.out.push hfk)
        have d1 : (q == 1) = true := by rw [beq_iff_eq]; exact hq1
        have hkk : k < k + 1 := by omega
        have hk2 : k + 1 ≤ C := by omega
        have hk3 : 1 ≤ k + 1 := by omega
        have HMS : Hid ((C - (k + 1)).toNat < (C - k).toNat) := by show _ < _; omega
        have HW1 : Hid (IntKind.i64.wrap (k + 1) = k + 1) := IntWalk.i64_in _ (by omega)
        clear hq1
        have hw := HW.out
        have hw1 := HW1.out
        go_wp2_with (at_builtin; refine wp_ints (m := 1) (l := [k - f]) numL rfl _ _ rfl rfl rfl (HP.out.below (by repeat (first | exact Below.refl _ _ | (with_reducible assumption) | refine bw_alloc ?_ _ | refine bw_drew ?_))).own1 HSZ.out (ints_new _ _ _) rfl HSM.out (fun z => by cases z) (R1.length + 1) rfl ?_; intro a3 k3 w3 o3 g3 l3; obtain ⟨hn, z1, z2⟩ := (HP.out.below (by repeat (first | exact Below.refl _ _ | (with_reducible assumption) | refine bw_alloc ?_ _ | refine bw_drew ?_))).push1 g3 o3; have HN := Lib.hid hn; clear hn o3 g3 l3)
        go_roundw
        case rel => exact ⟨k, k + 1, _, R1 ++ [k - f], hk3, hk2, hk0, hkk, by first | rfl | (rw [hw1]), rfl, HC2, HN⟩
        case measure => simp only [intOf]; exact HMS.out
      · have d1 : (q == 1) = false := by rw [beq_eq_false_iff_ne]; exact hq1
        have hfk2 : f < k + 1 := by omega
        have hk2 : k + 1 ≤ C := by omega
        have hk3 : 1 ≤ k + 1 := by omega
        have HMS : Hid ((C - (k + 1)).toNat < (C - k).toNat) := by show _ < _; omega
        have HW1 : Hid (IntKind.i64.wrap (k + 1) = k + 1) := IntWalk.i64_in _ (by omega)
        clear hq1
        have hw1 := HW1.out
        go_wp2_with fail
        go_roundw
        case rel => exact ⟨f, k + 1, _, R1, hk3, hk2, hf0, hfk2, by first | rfl | (rw [hw1]), rfl, HC, HP⟩
        case measure => simp only [intOf]; exact HMS.out
    · go_upto_region 13 with fail
      obtain rfl : C = k := by omega
      by_cases hf : 0 < f
      · obtain ⟨a5, cp5, rfl, _⟩ := HP.out.own1.slice
        have HLN := Lib.hid (HC.out.len hf0)
        have HSM : Hid (((R1.length : Int) + ((1 : Nat) : Int)) ≤ 17592186044416) := by show _ ≤ _; have := HLN.out; omega
        have HSZ : Hid (g + 1 ≤ (wr.alloc (.cells #[.int .i64 (C - f)] 2)).heap.size) := by show _ ≤ _; rw [World.size_alloc]; omega
        have HW : Hid (IntKind.i64.wrap (C - f) = C - f) := IntWalk.i64_in _ (by omega)
        have HC2 := Lib.hid (HC.out.push hfk)
        have hw := HW.out
        go_upto_region 16 with (at_builtin; refine wp_ints (m := 1) (l := [C - f]) numL rfl _ _ rfl rfl rfl (HP.out.below (by repeat (first | exact Below.refl _ _ | (with_reducible assumption) | refine bw_alloc ?_ _ | refine bw_drew ?_))).own1 HSZ.out (ints_new _ _ _) rfl HSM.out (fun z => by cases z) (R1.length + 1) rfl ?_; intro a3 k3 w3 o3 g3 l3; obtain ⟨hn, z1, z2⟩ := (HP.out.below (by repeat (first | exact Below.refl _ _ | (with_reducible assumption) | refine bw_alloc ?_ _ | refine bw_drew ?_))).push1 g3 o3; have HQ := Lib.hid hn; clear hn o3 g3 l3)
        have HCH : Hid (R1 ++ [C - f] = [] ∨ fillB (R1 ++ [C - f]) C = true) := .inr (fill_sum _ _ HC2.out.1 HC2.out.2)
        clear HP HC HC2 HLN HSM HSZ hw HW b5 c4 z1 z2
        generalize R1 ++ [C - f] = R1 at *
        generalize Value.slice a3 _ k3 = v1 at *
        obtain ⟨m, hm⟩ : ∃ m, m = min x.us.length 5 := ⟨_, rfl⟩
        have hm1 : m ≤ x.us.length := by omega
        have hm5 : m ≤ 5 := by omega
        have hor : m = x.us.length ∨ (m = 5 ∧ 5 < x.us.length) := by omega
        have hul : (x.us.length : Int) ≤ 9223372036854775807 := by have := HX.out.le; have := HX.out.small; omega
        have HOR := Lib.hid hor
        clear hm hor
        go_loopw [14] (fun u wr => ∃ (k : Nat) (v2 : Value) (R2 : List Int), k ≤ m ∧ u = .int .i64 k ∧ Hid (R2.length = k) ∧ Hid (∀ u ∈ R2, 0 ≤ u ∧ u < sets) ∧ Hid (TaskAt w x g (i + 1) C D t P v1 R1 v2 R2 wr)) (fun u _ => (m - intOf u).toNat)
        case atStart => exact ⟨0, _, [], by omega, rfl, rfl, (fun u hu => by cases hu), HQ⟩
        case round =>
          obtain ⟨k, v2, R2, hk, rfl, HR2, HU, HP⟩ := hrel
          clear HQ
          have c5 := HP.out.num.c5
          have b6 : wr.cell? ⟨g, 6, none⟩ = some v2 := by rw [blk_cell HP.out.box]; rfl
          have hgw : g < wr.heap.size := lt_of_block HP.out.box
          by_cases hlt : k < m
          · obtain ⟨u, hu⟩ := nth_of (rfl : x.us.length = x.us.length) (show k < x.us.length by omega)
            obtain ⟨g', o', ea, z0⟩ := (HX.out.row.below HP.out.num.low).at_ hu
            have hk1 : (k : Int) < (x.us.length : Int) := by omega
            have hk5 : (k : Int) < 5 := by omega
            have hk0 : (0 : Int) ≤ (k : Int) := by omega
            obtain ⟨r, hr⟩ : ∃ r, restI u sets = r := ⟨_, rfl⟩
            have R4 := Lib.hid (fun w => hr ▸ rest_any u sets (by omega) (by omega) w)
            have HRR : Hid (0 ≤ r ∧ r < sets) := by
              show _ ∧ _
              rw [← hr]; exact ⟨Int.emod_nonneg _ (by omega), Int.emod_lt_of_pos _ (by omega)⟩
            rw [ea] at c5
            obtain ⟨a6, cp6, rfl, _⟩ := HP.out.own2.slice
            rw [HR2.out] at b6
            have HPK : Hid (TaskAt w x g (i + 1) C D t P v1 R1 (.slice a6 k cp6) R2 wr) := by
              have := HP.out; rw [HR2.out] at this; exact this
            have HSM : Hid (((R2.length : Int) + ((1 : Nat) : Int)) ≤ 17592186044416) := by show _ ≤ _; have := HR2.out; omega
            have HSZ : Hid (g + 1 ≤ wr.heap.size) := hgw
            have HNN : Hid (R2.length + 1 = k + 1) := by show _ = _; rw [HR2.out]
            have HU2 : Hid (∀ u ∈ R2 ++ [r], 0 ≤ u ∧ u < sets) := fun u hu => by
              rcases List.mem_append.1 hu with q | q
              · exact HU.out u q
              · simp at q; rw [q]; exact HRR.out
            have HL2 : Hid ((R2 ++ [r]).length = k + 1) := by show _ = _; rw [List.length_append, HR2.out]; rfl
            clear hr hu HP HU ea
            go_upto_region 18 with fail
            go_region_law (first
              | (refine step_ints (m := 1) (l := [r]) numI rfl (.tmp 87) (.tmp 95) rfl (by rfl) (by rfl) (HPK.out.below (by repeat (first | exact Below.refl _ _ | (with_reducible assumption) | refine bw_alloc ?_ _ | refine bw_drew ?_))).own2 (Nat.le_trans HSZ.out ((by repeat (first | exact Below.refl _ _ | (with_reducible assumption) | refine bw_alloc ?_ _ | refine bw_drew ?_)) : Below wr.heap.size wr _).size) (by first | exact ints_new _ _ _ | exact (ints_new _ _ _).below (by repeat (first | exact Below.refl _ _ | (with_reducible assumption) | refine bw_alloc ?_ _ | refine bw_drew ?_))) rfl HSM.out (fun z => by cases z) (k + 1) HNN.out ?_
                 intro a3 k3 w3 o3 g3 l3
                 obtain ⟨hn, z1, z2⟩ := (HPK.out.below (by repeat (first | exact Below.refl _ _ | (with_reducible assumption) | refine bw_alloc ?_ _ | refine bw_drew ?_))).push2 g3 o3
                 have HN := Lib.hid hn
                 clear hn o3 g3 l3)
              | (go_simp; (with_reducible refine (R4.out _).mono ?_); rintro e w3 ⟨rfl, rfl⟩))
            all_goals
              go_wp2
              go_roundw
              case rel => exact ⟨k + 1, _, R2 ++ [r], by omega, by go_num, HL2, HU2, HN⟩
              case measure => simp [intOf]; omega
          · obtain rfl : m = k := by omega
            obtain ⟨a5, cp5, rfl, i5, l5, m5⟩ := HP.out.own1.slice
            obtain ⟨a6, cp6, rfl, i6, l6, m6⟩ := HP.out.own2.slice
            have HFIN : Hid (∀ x0 x1 x2 x3 x4 x5 x6, TaskBack i sets w (.returned (.agg #[.int .i64 (i + 1), .int .i64 C, .int .i64 D, .int .i64 t, .int .i64 P, .slice a5 R1.length cp5, .slice a6 R2.length cp6])) ((((((((wr.setCell ⟨w.heap.size + 1, 0, none⟩ x0).setCell ⟨w.heap.size + 1, 1, none⟩ x1).setCell ⟨w.heap.size + 1, 2, none⟩ x2).setCell ⟨w.heap.size + 1, 3, none⟩ x3).setCell ⟨w.heap.size + 1, 4, none⟩ x4).setCell ⟨w.heap.size + 1, 5, none⟩ x5).setCell ⟨w.heap.size + 1, 6, none⟩ x6))) := by
              intro x0 x1 x2 x3 x4 x5 x6
              have hlow := HP.out.num.low
              have hb : Below w.heap.size w ((((((((wr.setCell ⟨w.heap.size + 1, 0, none⟩ x0).setCell ⟨w.heap.size + 1, 1, none⟩ x1).setCell ⟨w.heap.size + 1, 2, none⟩ x2).setCell ⟨w.heap.size + 1, 3, none⟩ x3).setCell ⟨w.heap.size + 1, 4, none⟩ x4).setCell ⟨w.heap.size + 1, 5, none⟩ x5).setCell ⟨w.heap.size + 1, 6, none⟩ x6)) := below_set7 hlow (Nat.le_succ _) x0 x1 x2 x3 x4 x5 x6
              have hg9 := HP.out.gl
              have o1 : OwnI ((((((((wr.setCell ⟨w.heap.size + 1, 0, none⟩ x0).setCell ⟨w.heap.size + 1, 1, none⟩ x1).setCell ⟨w.heap.size + 1, 2, none⟩ x2).setCell ⟨w.heap.size + 1, 3, none⟩ x3).setCell ⟨w.heap.size + 1, 4, none⟩ x4).setCell ⟨w.heap.size + 1, 5, none⟩ x5).setCell ⟨w.heap.size + 1, 6, none⟩ x6)) 2 (g + 1) (.slice a5 R1.length cp5) R1 := own_set7 HP.out.own1 (Nat.lt_succ_of_lt hg9) x0 x1 x2 x3 x4 x5 x6
              have o2 : OwnI ((((((((wr.setCell ⟨w.heap.size + 1, 0, none⟩ x0).setCell ⟨w.heap.size + 1, 1, none⟩ x1).setCell ⟨w.heap.size + 1, 2, none⟩ x2).setCell ⟨w.heap.size + 1, 3, none⟩ x3).setCell ⟨w.heap.size + 1, 4, none⟩ x4).setCell ⟨w.heap.size + 1, 5, none⟩ x5).setCell ⟨w.heap.size + 1, 6, none⟩ x6)) 3 (g + 1) (.slice a6 R2.length cp6) R2 := own_set7 HP.out.own2 (Nat.lt_succ_of_lt hg9) x0 x1 x2 x3 x4 x5 x6
              obtain ⟨a5', cp5', e5, i5, l5, m5⟩ := o1.slice
              cases e5
              obtain ⟨a6', cp6', e6, i6, l6, m6⟩ := o2.slice
              cases e6
              exact ⟨⟨i + 1, C, D, t, P, a5, R1, cp5, a6, R2, cp6⟩, rfl, ⟨i5, i6, l5, m5, l6, m6⟩, ⟨rfl, hcc, hcd, hdt, ht2, hp10, hp99, HP9.out, HCH.out, HU.out, by have := HR2.out; show R2.length ≤ 5; omega⟩, hb, o1.isI (.inl rfl), o2.isI (.inr rfl)⟩
            have hr1 : w.heap.size + 1 < wr.heap.size := lt_of_block HP.out.num.res
            have b0 : wr.cell? ⟨g, 0, none⟩ = some (.int .i64 (i + 1)) := by rw [blk_cell HP.out.box]; rfl
            have b1 : wr.cell? ⟨g, 1, none⟩ = some (.int .i64 C) := by rw [blk_cell HP.out.box]; rfl
            have b2 : wr.cell? ⟨g, 2, none⟩ = some (.int .i64 D) := by rw [blk_cell HP.out.box]; rfl
            have b3 : wr.cell? ⟨g, 3, none⟩ = some (.int .i64 t) := by rw [blk_cell HP.out.box]; rfl
            have b4 : wr.cell? ⟨g, 4, none⟩ = some (.int .i64 P) := by rw [blk_cell HP.out.box]; rfl
            have b5 : wr.cell? ⟨g, 5, none⟩ = some (.slice a5 R1.length cp5) := by rw [blk_cell HP.out.box]; rfl
            have r0 : wr.cell? ⟨w.heap.size + 1, 0, none⟩ = some (.int .i64 0) := by rw [blk_cell HP.out.num.res]; rfl
            have r1 : wr.cell? ⟨w.heap.size + 1, 1, none⟩ = some (.int .i64 0) := by rw [blk_cell HP.out.num.res]; rfl
            have r2 : wr.cell? ⟨w.heap.size + 1, 2, none⟩ = some (.int .i64 0) := by rw [blk_cell HP.out.num.res]; rfl
            have r3 : wr.cell? ⟨w.heap.size + 1, 3, none⟩ = some (.int .i64 0) := by rw [blk_cell HP.out.num.res]; rfl
            have r4 : wr.cell? ⟨w.heap.size + 1, 4, none⟩ = some (.int .i64 0) := by rw [blk_cell HP.out.num.res]; rfl
            have r5 : wr.cell? ⟨w.heap.size + 1, 5, none⟩ = some (.slice none 0 0) := by rw [blk_cell HP.out.num.res]; rfl
            have r6 : wr.cell? ⟨w.heap.size + 1, 6, none⟩ = some (.slice none 0 0) := by rw [blk_cell HP.out.num.res]; rfl
            have f0 := blk_free HP.out.num.res 0
            have f1 := blk_free HP.out.num.res 1
            have f2 := blk_free HP.out.num.res 2
            have f3 := blk_free HP.out.num.res 3
            have f4 := blk_free HP.out.num.res 4
            have f5 := blk_free HP.out.num.res 5
            have f6 := blk_free HP.out.num.res 6
            have q1 : ¬ ((m : Int) < (x.us.length : Int)) ∨ ((m : Int) < (x.us.length : Int) ∧ ¬ ((m : Int) < 5)) := by
              rcases HOR.out with h | ⟨h1, h2⟩
              · left; omega
              · right; omega
            clear HCH HU
            rcases q1 with q1 | ⟨q1, q2⟩
            all_goals
              go_wp2_with fail
              exact bodyPost_ret (v := .agg #[.int .i64 (i + 1), .int .i64 C, .int .i64 D, .int .i64 t, .int .i64 P, .slice a5 R1.length cp5, .slice a6 R2.length cp6]) (by simp [results, Try.results43, go_sem, r0, r1, r2, r3, r4, r5, r6]) rfl (HFIN.out _ _ _ _ _ _ _)
      · obtain rfl : f = 0 := by omega
        have HCH : Hid (R1 = [] ∨ fillB R1 C = true) := .inl (List.length_eq_zero_iff.1 (by have := HC.out.len (Int.le_refl 0); omega))
        have HQ := HP
        go_upto_region 16 with fail
        clear HP HC b5 c4
        obtain ⟨m, hm⟩ : ∃ m, m = min x.us.length 5 := ⟨_, rfl⟩
        have hm1 : m ≤ x.us.length := by omega
        have hm5 : m ≤ 5 := by omega
        have hor : m = x.us.length ∨ (m = 5 ∧ 5 < x.us.length) := by omega
        have hul : (x.us.length : Int) ≤ 9223372036854775807 := by have := HX.out.le; have := HX.out.small; omega
        have HOR := Lib.hid hor
        clear hm hor
        go_loopw [14] (fun u wr => ∃ (k : Nat) (v2 : Value) (R2 : List Int), k ≤ m ∧ u = .int .i64 k ∧ Hid (R2.length = k) ∧ Hid (∀ u ∈ R2, 0 ≤ u ∧ u < sets) ∧ Hid (TaskAt w x g (i + 1) C D t P v1 R1 v2 R2 wr)) (fun u _ => (m - intOf u).toNat)
        case atStart => exact ⟨0, _, [], by omega, rfl, rfl, (fun u hu => by cases hu), HQ⟩
        case round =>
          obtain ⟨k, v2, R2, hk, rfl, HR2, HU, HP⟩ := hrel
          clear HQ
          have c5 := HP.out.num.c5
          have b6 : wr.cell? ⟨g, 6, none⟩ = some v2 := by rw [blk_cell HP.out.box]; rfl
          have hgw : g < wr.heap.size := lt_of_block HP.out.box
          by_cases hlt : k < m
          · obtain ⟨u, hu⟩ := nth_of (rfl : x.us.length = x.us.length) (show k < x.us.length by omega)
            obtain ⟨g', o', ea, z0⟩ := (HX.out.row.below HP.out.num.low).at_ hu
            have hk1 : (k : Int) < (x.us.length : Int) := by omega
            have hk5 : (k : Int) < 5 := by omega
            have hk0 : (0 : Int) ≤ (k : Int) := by omega
            obtain ⟨r, hr⟩ : ∃ r, restI u sets = r := ⟨_, rfl⟩
            have R4 := Lib.hid (fun w => hr ▸ rest_any u sets (by omega) (by omega) w)
            have HRR : Hid (0 ≤ r ∧ r < sets) := by
              show _ ∧ _
              rw [← hr]; exact ⟨Int.emod_nonneg _ (by omega), Int.emod_lt_of_pos _ (by omega)⟩
            rw [ea] at c5
            obtain ⟨a6, cp6, rfl, _⟩ := HP.out.own2.slice
            rw [HR2.out] at b6
            have HPK : Hid (TaskAt w x g (i + 1) C D t P v1 R1 (.slice a6 k cp6) R2 wr) := by
              have := HP.out; rw [HR2.out] at this; exact this
            have HSM : Hid (((R2.length : Int) + ((1 : Nat) : Int)) ≤ 17592186044416) := by show _ ≤ _; have := HR2.out; omega
            have HSZ : Hid (g + 1 ≤ wr.heap.size) := hgw
            have HNN : Hid (R2.length + 1 = k + 1) := by show _ = _; rw [HR2.out]
            have HU2 : Hid (∀ u ∈ R2 ++ [r], 0 ≤ u ∧ u < sets) := fun u hu => by
              rcases List.mem_append.1 hu with q | q
              · exact HU.out u q
              · simp at q; rw [q]; exact HRR.out
            have HL2 : Hid ((R2 ++ [r]).length = k + 1) := by show _ = _; rw [List.length_append, HR2.out]; rfl
            clear hr hu HP HU ea
            go_upto_region 18 with fail
            go_region_law (first
              | (refine step_ints (m := 1) (l := [r]) numI rfl (.tmp 87) (.tmp 95) rfl (by rfl) (by rfl) (HPK.out.below (by repeat (first | exact Below.refl _ _ | (with_reducible assumption) | refine bw_alloc ?_ _ | refine bw_drew ?_))).own2 (Nat.le_trans HSZ.out ((by repeat (first | exact Below.refl _ _ | (with_reducible assumption) | refine bw_alloc ?_ _ | refine bw_drew ?_)) : Below wr.heap.size wr _).size) (by first | exact ints_new _ _ _ | exact (ints_new _ _ _).below (by repeat (first | exact Below.refl _ _ | (with_reducible assumption) | refine bw_alloc ?_ _ | refine bw_drew ?_))) rfl HSM.out (fun z => by cases z) (k + 1) HNN.out ?_
                 intro a3 k3 w3 o3 g3 l3
                 obtain ⟨hn, z1, z2⟩ := (HPK.out.below (by repeat (first | exact Below.refl _ _ | (with_reducible assumption) | refine bw_alloc ?_ _ | refine bw_drew ?_))).push2 g3 o3
                 have HN := Lib.hid hn
                 clear hn o3 g3 l3)
              | (go_simp; (with_reducible refine (R4.out _).mono ?_); rintro e w3 ⟨rfl, rfl⟩))
            all_goals
              go_wp2
              go_roundw
              case rel => exact ⟨k + 1, _, R2 ++ [r], by omega, by go_num, HL2, HU2, HN⟩
              case measure => simp [intOf]; omega
          · obtain rfl : m = k := by omega
            obtain ⟨a5, cp5, rfl, i5, l5, m5⟩ := HP.out.own1.slice
            obtain ⟨a6, cp6, rfl, i6, l6, m6⟩ := HP.out.own2.slice
            have HFIN : Hid (∀ x0 x1 x2 x3 x4 x5 x6, TaskBack i sets w (.returned (.agg #[.int .i64 (i + 1), .int .i64 C, .int .i64 D, .int .i64 t, .int .i64 P, .slice a5 R1.length cp5, .slice a6 R2.length cp6])) ((((((((wr.setCell ⟨w.heap.size + 1, 0, none⟩ x0).setCell ⟨w.heap.size + 1, 1, none⟩ x1).setCell ⟨w.heap.size + 1, 2, none⟩ x2).setCell ⟨w.heap.size + 1, 3, none⟩ x3).setCell ⟨w.heap.size + 1, 4, none⟩ x4).setCell ⟨w.heap.size + 1, 5, none⟩ x5).setCell ⟨w.heap.size + 1, 6, none⟩ x6))) := by
              intro x0 x1 x2 x3 x4 x5 x6
              have hlow := HP.out.num.low
              have hb : Below w.heap.size w ((((((((wr.setCell ⟨w.heap.size + 1, 0, none⟩ x0).setCell ⟨w.heap.size + 1, 1, none⟩ x1).setCell ⟨w.heap.size + 1, 2, none⟩ x2).setCell ⟨w.heap.size + 1, 3, none⟩ x3).setCell ⟨w.heap.size + 1, 4, none⟩ x4).setCell ⟨w.heap.size + 1, 5, none⟩ x5).setCell ⟨w.heap.size + 1, 6, none⟩ x6)) := below_set7 hlow (Nat.le_succ _) x0 x1 x2 x3 x4 x5 x6
              have hg9 := HP.out.gl
              have o1 : OwnI ((((((((wr.setCell ⟨w.heap.size + 1, 0, none⟩ x0).setCell ⟨w.heap.size + 1, 1, none⟩ x1).setCell ⟨w.heap.size + 1, 2, none⟩ x2).setCell ⟨w.heap.size + 1, 3, none⟩ x3).setCell ⟨w.heap.size + 1, 4, none⟩ x4).setCell ⟨w.heap.size + 1, 5, none⟩ x5).setCell ⟨w.heap.size + 1, 6, none⟩ x6)) 2 (g + 1) (.slice a5 R1.length cp5) R1 := own_set7 HP.out.own1 (Nat.lt_succ_of_lt hg9) x0 x1 x2 x3 x4 x5 x6
              have o2 : OwnI ((((((((wr.setCell ⟨w.heap.size + 1, 0, none⟩ x0).setCell ⟨w.heap.size + 1, 1, none⟩ x1).setCell ⟨w.heap.size + 1, 2, none⟩ x2).setCell ⟨w.heap.size + 1, 3, none⟩ x3).setCell ⟨w.heap.size + 1, 4, none⟩ x4).setCell ⟨w.heap.size + 1, 5, none⟩ x5).setCell ⟨w.heap.size + 1, 6, none⟩ x6)) 3 (g + 1) (.slice a6 R2.length cp6) R2 := own_set7 HP.out.own2 (Nat.lt_succ_of_lt hg9) x0 x1 x2 x3 x4 x5 x6
              obtain ⟨a5', cp5', e5, i5, l5, m5⟩ := o1.slice
              cases e5
              obtain ⟨a6', cp6', e6, i6, l6, m6⟩ := o2.slice
              cases e6
              exact ⟨⟨i + 1, C, D, t, P, a5, R1, cp5, a6, R2, cp6⟩, rfl, ⟨i5, i6, l5, m5, l6, m6⟩, ⟨rfl, hcc, hcd, hdt, ht2, hp10, hp99, HP9.out, HCH.out, HU.out, by have := HR2.out; show R2.length ≤ 5; omega⟩, hb, o1.isI (.inl rfl), o2.isI (.inr rfl)⟩
            have hr1 : w.heap.size + 1 < wr.heap.size := lt_of_block HP.out.num.res
            have b0 : wr.cell? ⟨g, 0, none⟩ = some (.int .i64 (i + 1)) := by rw [blk_cell HP.out.box]; rfl
            have b1 : wr.cell? ⟨g, 1, none⟩ = some (.int .i64 C) := by rw [blk_cell HP.out.box]; rfl
            have b2 : wr.cell? ⟨g, 2, none⟩ = some (.int .i64 D) := by rw [blk_cell HP.out.box]; rfl
            have b3 : wr.cell? ⟨g, 3, none⟩ = some (.int .i64 t) := by rw [blk_cell HP.out.box]; rfl
            have b4 : wr.cell? ⟨g, 4, none⟩ = some (.int .i64 P) := by rw [blk_cell HP.out.box]; rfl
            have b5 : wr.cell? ⟨g, 5, none⟩ = some (.slice a5 R1.length cp5) := by rw [blk_cell HP.out.box]; rfl
            have r0 : wr.cell? ⟨w.heap.size + 1, 0, none⟩ = some (.int .i64 0) := by rw [blk_cell HP.out.num.res]; rfl
            have r1 : wr.cell? ⟨w.heap.size + 1, 1, none⟩ = some (.int .i64 0) := by rw [blk_cell HP.out.num.res]; rfl
            have r2 : wr.cell? ⟨w.heap.size + 1, 2, none⟩ = some (.int .i64 0) := by rw [blk_cell HP.out.num.res]; rfl
            have r3 : wr.cell? ⟨w.heap.size + 1, 3, none⟩ = some (.int .i64 0) := by rw [blk_cell HP.out.num.res]; rfl
            have r4 : wr.cell? ⟨w.heap.size + 1, 4, none⟩ = some (.int .i64 0) := by rw [blk_cell HP.out.num.res]; rfl
            have r5 : wr.cell? ⟨w.heap.size + 1, 5, none⟩ = some (.slice none 0 0) := by rw [blk_cell HP.out.num.res]; rfl
            have r6 : wr.cell? ⟨w.heap.size + 1, 6, none⟩ = some (.slice none 0 0) := by rw [blk_cell HP.out.num.res]; rfl
            have f0 := blk_free HP.out.num.res 0
            have f1 := blk_free HP.out.num.res 1
            have f2 := blk_free HP.out.num.res 2
            have f3 := blk_free HP.out.num.res 3
            have f4 := blk_free HP.out.num.res 4
            have f5 := blk_free HP.out.num.res 5
            have f6 := blk_free HP.out.num.res 6
            have q1 : ¬ ((m : Int) < (x.us.length : Int)) ∨ ((m : Int) < (x.us.length : Int) ∧ ¬ ((m : Int) < 5)) := by
              rcases HOR.out with h | ⟨h1, h2⟩
              · left; omega
              · right; omega
            clear HCH HU
            rcases q1 with q1 | ⟨q1, q2⟩
            all_goals
              go_wp2_with fail
              exact bodyPost_ret (v := .agg #[.int .i64 (i + 1), .int .i64 C, .int .i64 D, .int .i64 t, .int .i64 P, .slice a5 R1.length cp5, .slice a6 R2.length cp6]) (by simp [results, Try.results43, go_sem, r0, r1, r2, r3, r4, r5, r6]) rfl (HFIN.out _ _ _ _ _ _ _)
end Go.Proofs.Ytlglncnhhgofoaa

/-
  The walks over what is cut of tasks and systems that came in.
-/
namespace Go.Proofs.Ytlglncnhhgofoaa
open Go.RowKit Go.Maps

/-- A task with at most 66 chunks and 66 used sets. -/
def cut (x : TV) : TV := { x with ch := x.ch.take 66, us := x.us.take 66 }
theorem cut_ok {w : World} {x : TV} (h : x.ok w) : (cut x).ok w :=
  ⟨h.one.take 66, h.two.take 66, by have := h.l1; simp only [cut, List.length_take]; omega, h.m1, by have := h.l2; simp only [cut, List.length_take]; omega, h.m2⟩

end Go.Proofs.Ytlglncnhhgofoaa
