/- Texts of this claim, put together: KMem, KW2, KW3, KW4, LMem, LRow, LNum, LW1, LW8, LW2, LW3, LW4, KW1, KW6, KW7, KW11. -/
import Derived.Test.YtlpffgmfgkleiaaGreatDoorChecked
import Derived.WalkKit
import Derived.WalkSpells
import Derived.WalkLawsBesides
import Derived.Lib.Hide
import Derived.Lib.SmallJoins
import Derived.Below
import Derived.IntWalk
import Derived.WalkMore
import Derived.Deep.QuietTactic
import Derived.Deep.RegionLaw
import Derived.BigQuiet
import Derived.BigRegion
import Derived.RegionTactic
import Derived.Maps.AppendAt
import Derived.Deep.AppendSrc
import Derived.Deep.DeepCutAuto
import Derived.Deep.LoopGhost
import Derived.Deep.CutRange
import Derived.Deep.CutBlock
import Derived.Deep.Cut
import Derived.Tactics2
import Derived.OwnWalk
import Derived.Maps.OwnSet
import Derived.Laws.EntriesVeiled
import Derived.Deep.RegionWith
import Derived.Deep.RegionHeld3
import Derived.StillTailTactics
import Derived.OneCell
set_option linter.unusedVariables false
set_option linter.unusedSimpArgs false

/-
  What rows of numbers, tasks and rows of tasks hold, in a world and in later ones.
-/
namespace Go.Proofs.YtlpffgmfgkleiaaGreatDoor
open Go.RowKit Go.Maps

theorem block_of_cell {w : World} {a : Addr} {v : Value} (h : w.cell? a = some v) : a.block < w.heap.size := by
  rcases Nat.lt_or_ge a.block w.heap.size with g | g
  · exact g
  · simp [World.cell?, Array.getElem?_eq_none g] at h
theorem lt_of_block {w : World} {b : Nat} {o : Obj} (h : w.heap[b]? = some o) : b < w.heap.size := (Array.getElem?_eq_some_iff.1 h).1
theorem addr_at (g o t : Nat) : (⟨g, o, none⟩ : Addr).add t = ⟨g, o + t, none⟩ := by
  unfold Addr.add; split <;> simp_all
theorem kept_cell {w w' : World} (hb : Below w.heap.size w w') {b o : Nat} {v : Value} (h : w.cell? ⟨b, o, none⟩ = some v) : w'.cell? ⟨b, o, none⟩ = some v := by
  rw [hb.cell (p := ⟨b, o, none⟩) (block_of_cell h)]; exact h
theorem kept_obj {w w' : World} (hb : Below w.heap.size w w') {b : Nat} {o : Obj} (h : w.heap[b]? = some o) : w'.heap[b]? = some o := (hb.block b (lt_of_block h)).trans h
/-- The walk goes on in a world of which only so much is known. -/
theorem gen_world {P : Program} {c : Code} {Q : Exit → Act → World → Prop} {a : Act} {w : World} (S : World → Prop) (h : S w) (k : ∀ w', S w' → c.wp P Q a w') : c.wp P Q a w := k w h
theorem blk_set {w : World} {b o : Nat} {cs : Array Value} {T : TypeId} {fr : Nat × Nat} (h : w.heap[b]? = some (.cells cs T fr)) (v : Value) : (w.setCell ⟨b, o, none⟩ v).heap[b]? = some (.cells (cs.setIfInBounds o v) T fr) := by
  simp [World.setCell, Array.getElem?_modify, h]
theorem blk_far {w : World} {b : Nat} {a : Addr} (hne : b ≠ a.block) (v : Value) : (w.setCell a v).heap[b]? = w.heap[b]? := Below.heap_setCell w a v b hne
theorem blk_cell {w : World} {b : Nat} {cs : Array Value} {T : TypeId} {fr : Nat × Nat} (h : w.heap[b]? = some (.cells cs T fr)) (o : Nat) : w.cell? ⟨b, o, none⟩ = cs[o]? := cell_of_row w b o cs T fr h
theorem blk_free {w : World} {b : Nat} {cs : Array Value} {T : TypeId} (h : w.heap[b]? = some (.cells cs T (0, 0))) (o : Nat) : w.frozen? ⟨b, o, none⟩ = false := by
  simp [World.frozen?, h]
theorem below_same {B : Nat} {W w w' : World} (h : Below B W w) (e : w'.heap = w.heap) (e1 : w'.os = w.os) (e2 : w'.tape = w.tape) (e3 : w'.output = w.output) : Below B W w' :=
  ⟨e1.trans h.os, e2.trans h.tape, e3.trans h.output, by rw [e]; exact h.size, fun k hk => by rw [e]; exact h.block k hk⟩
theorem below_up {W w w' : World} (h : Below W.heap.size W w) (k : Below w.heap.size w w') : Below W.heap.size W w' := h.trans (k.mono h.size)

/-! ### rows of numbers -/
/-- A row of numbers that can be read. -/
def Ints (w : World) (a : Option Addr) (l : List Int) : Prop :=
  l = [] ∨ ∃ g o, a = some ⟨g, o, none⟩ ∧ ∀ (j : Nat) (u : Int), l[j]? = some u → w.cell? ⟨g, o + j, none⟩ = some (.int .i64 u)
theorem Ints.nil {w : World} {a : Option Addr} : Ints w a [] := .inl rfl
theorem Ints.at_ {w : World} {a : Option Addr} {l : List Int} (h : Ints w a l) {k : Nat} {x : Int} (hx : l[k]? = some x) : ∃ g o, a = some ⟨g, o, none⟩ ∧ w.cell? ⟨g, o + k, none⟩ = some (.int .i64 x) := by
  rcases h with rfl | ⟨g, o, rfl, hc⟩
  · simp at hx
  · exact ⟨g, o, rfl, hc _ _ hx⟩
theorem Ints.below {w w' : World} {a : Option Addr} {l : List Int} (h : Ints w a l) (hb : Below w.heap.size w w') : Ints w' a l := by
  rcases h with rfl | ⟨g, o, rfl, hc⟩
  · exact .inl rfl
  · exact .inr ⟨g, o, rfl, fun j u hj => kept_cell hb (hc j u hj)⟩
theorem Ints.take {w : World} {a : Option Addr} {l : List Int} (h : Ints w a l) (k : Nat) : Ints w a (l.take k) := by
  rcases h with rfl | ⟨g, o, rfl, hc⟩
  · left; simp
  · refine .inr ⟨g, o, rfl, fun j u hj => ?_⟩
    rw [List.getElem?_take] at hj
    split at hj
    · exact hc j u hj
    · cases hj
theorem Ints.nothing {w : World} {l : List Int} (h : Ints w none l) : l = [] := by
  rcases h with rfl | ⟨g, o, e, _⟩
  · rfl
  · cases e
theorem Ints.of_block {w : World} {g : Nat} {l : List Int} {cs : Array Value} {T : TypeId} {fr : Nat × Nat} (h : w.heap[g]? = some (.cells cs T fr)) (hl : ∀ (j : Nat) (u : Int), l[j]? = some u → cs[j]? = some (.int .i64 u)) : Ints w (some ⟨g, 0, none⟩) l :=
  .inr ⟨g, 0, rfl, fun j u hj => by rw [Nat.zero_add, blk_cell h]; exact hl j u hj⟩
def I64 (x : Int) : Prop := -9223372036854775808 ≤ x ∧ x ≤ 9223372036854775807
theorem i64_of_wf {x : Int} (h : (Lit.int .i64 x).wf = true) : I64 x := by
  simp [Lit.wf, IntKind.min, IntKind.max, IntKind.signed, IntKind.bits] at h
  unfold I64; omega

/-! ### tasks -/
/-- A task as it stands in memory: its numbers, and its two rows. -/
structure TV where
  id : Int
  c : Int
  d : Int
  t : Int
  p : Int
  a1 : Option Addr
  ch : List Int
  c1 : Nat
  a2 : Option Addr
  us : List Int
  c2 : Nat
/-- A task as it is meant. -/
structure Tk where
  id : Int
  c : Int
  d : Int
  t : Int
  p : Int
  ch : List Int
  us : List Int
deriving DecidableEq
def TV.tk (x : TV) : Tk := ⟨x.id, x.c, x.d, x.t, x.p, x.ch, x.us⟩
def TV.cells (x : TV) : List Value := [.int .i64 x.id, .int .i64 x.c, .int .i64 x.d, .int .i64 x.t, .int .i64 x.p, .slice x.a1 x.ch.length x.c1, .slice x.a2 x.us.length x.c2]
def TV.val (x : TV) : Value := .agg #[.int .i64 x.id, .int .i64 x.c, .int .i64 x.d, .int .i64 x.t, .int .i64 x.p, .slice x.a1 x.ch.length x.c1, .slice x.a2 x.us.length x.c2]
/-- Its rows can be read. -/
structure TV.ok (w : World) (x : TV) : Prop where
  one : Ints w x.a1 x.ch
  two : Ints w x.a2 x.us
  l1 : x.ch.length ≤ x.c1
  m1 : (x.c1 : Int) ≤ 9223372036854775807
  l2 : x.us.length ≤ x.c2
  m2 : (x.c2 : Int) ≤ 9223372036854775807
theorem TV.ok.below {w w' : World} {x : TV} (h : x.ok w) (hb : Below w.heap.size w w') : x.ok w' := ⟨h.one.below hb, h.two.below hb, h.l1, h.m1, h.l2, h.m2⟩
def AllOk (w : World) (L : List TV) : Prop := ∀ x ∈ L, x.ok w
theorem AllOk.below {w w' : World} {L : List TV} (h : AllOk w L) (hb : Below w.heap.size w w') : AllOk w' L := fun x hx => (h x hx).below hb
theorem AllOk.at_ {w : World} {L : List TV} (h : AllOk w L) {k : Nat} {x : TV} (hx : L[k]? = some x) : x.ok w := h x (List.mem_of_getElem? hx)
theorem AllOk.append {w : World} {L M : List TV} (h : AllOk w L) (k : AllOk w M) : AllOk w (L ++ M) := fun x hx => (List.mem_append.1 hx).elim (h x) (k x)
theorem AllOk.one {w : World} {x : TV} (h : x.ok w) : AllOk w [x] := fun y hy => by simp at hy; subst hy; exact h
theorem AllOk.take {w : World} {L : List TV} (h : AllOk w L) (k : Nat) : AllOk w (L.take k) := fun x hx => h x (List.mem_of_mem_take hx)

/-- The cells of a row of tasks. -/
def flat : List TV → List Value
  | [] => []
  | x :: l => x.cells ++ flat l
theorem cells_len (x : TV) : x.cells.length = 7 := rfl
theorem flat_len : ∀ l : List TV, (flat l).length = l.length * 7
  | [] => rfl
  | x :: l => by simp [flat, flat_len l, cells_len]; omega
theorem flat_append : ∀ l m : List TV, flat (l ++ m) = flat l ++ flat m
  | [], _ => rfl
  | x :: l, m => by simp [flat, flat_append l m]
theorem flat_at : ∀ (l : List TV) (k : Nat) (x : TV), l[k]? = some x → ∀ i, i < 7 → (flat l)[k * 7 + i]? = x.cells[i]?
  | [], k, x, h => by simp at h
  | y :: l, 0, x, h => by
    simp at h; subst h
    intro i hi
    rw [Nat.zero_mul, Nat.zero_add, flat, List.getElem?_append_left (by rw [cells_len]; exact hi)]
  | y :: l, k + 1, x, h => by
    intro i hi
    have := flat_at l k x (by simpa using h) i hi
    rw [show (k + 1) * 7 + i = 7 + (k * 7 + i) by omega, flat, List.getElem?_append_right (by rw [cells_len]; omega), cells_len, ← this]
    congr 1; omega
theorem flat_one : ∀ (l : List TV), ∀ u ∈ flat l, u.oneCell' = true
  | [], u, h => by simp [flat] at h
  | x :: l, u, h => by
    rcases List.mem_append.1 h with h | h
    · simp [TV.cells] at h
      rcases h with rfl | rfl | rfl | rfl | rfl | rfl | rfl <;> rfl
    · exact flat_one l u h
theorem flat_drop : ∀ (k : Nat) (l : List TV), flat (l.drop k) = (flat l).drop (k * 7)
  | 0, l => by simp
  | k + 1, [] => by simp [flat]
  | k + 1, x :: l => by
    rw [List.drop_succ_cons, flat_drop k l, flat, List.drop_append, show (k + 1) * 7 = 7 + k * 7 by omega]
    simp [cells_len]
theorem flat_take : ∀ (k : Nat) (l : List TV), flat (l.take k) = (flat l).take (k * 7)
  | 0, l => by simp [flat]
  | k + 1, [] => by simp [flat]
  | k + 1, x :: l => by
    rw [List.take_succ_cons, flat, flat, flat_take k l, List.take_append, show (k + 1) * 7 = 7 + k * 7 by omega]
    simp [cells_len]
    rw [List.take_of_length_le (by rw [cells_len]; omega)]

/-- The cells of one task, from a place on. -/
structure At (w : World) (g o : Nat) (x : TV) : Prop where
  c0 : w.cell? ⟨g, o, none⟩ = some (.int .i64 x.id)
  c1 : w.cell? ⟨g, o + 1, none⟩ = some (.int .i64 x.c)
  c2 : w.cell? ⟨g, o + 2, none⟩ = some (.int .i64 x.d)
  c3 : w.cell? ⟨g, o + 3, none⟩ = some (.int .i64 x.t)
  c4 : w.cell? ⟨g, o + 4, none⟩ = some (.int .i64 x.p)
  c5 : w.cell? ⟨g, o + 5, none⟩ = some (.slice x.a1 x.ch.length x.c1)
  c6 : w.cell? ⟨g, o + 6, none⟩ = some (.slice x.a2 x.us.length x.c2)
theorem At.below {w w' : World} {g o : Nat} {x : TV} (h : At w g o x) (hb : Below w.heap.size w w') : At w' g o x :=
  ⟨kept_cell hb h.c0, kept_cell hb h.c1, kept_cell hb h.c2, kept_cell hb h.c3, kept_cell hb h.c4, kept_cell hb h.c5, kept_cell hb h.c6⟩
/-- A row of tasks that can be read. -/
def View (w : World) (a : Option Addr) (l : List TV) : Prop :=
  l = [] ∨ ∃ g o, a = some ⟨g, o, none⟩ ∧ ∀ j u, (flat l)[j]? = some u → w.cell? ⟨g, o + j, none⟩ = some u
theorem View.nil {w : World} {a : Option Addr} : View w a [] := .inl rfl
theorem View.at_ {w : World} {a : Option Addr} {l : List TV} (h : View w a l) {k : Nat} {x : TV} (hx : l[k]? = some x) : ∃ g o, a = some ⟨g, o, none⟩ ∧ At w g (o + k * 7) x := by
  rcases h with rfl | ⟨g, o, rfl, hc⟩
  · simp at hx
  · have f := flat_at l k x hx
    refine ⟨g, o, rfl, ⟨?_, ?_, ?_, ?_, ?_, ?_, ?_⟩⟩
    · exact hc _ _ (f 0 (by omega))
    · exact hc _ _ (f 1 (by omega))
    · exact hc _ _ (f 2 (by omega))
    · exact hc _ _ (f 3 (by omega))
    · exact hc _ _ (f 4 (by omega))
    · exact hc _ _ (f 5 (by omega))
    · exact hc _ _ (f 6 (by omega))
theorem View.below {w w' : World} {a : Option Addr} {l : List TV} (h : View w a l) (hb : Below w.heap.size w w') : View w' a l := by
  rcases h with rfl | ⟨g, o, rfl, hc⟩
  · exact .inl rfl
  · exact .inr ⟨g, o, rfl, fun j u hj => kept_cell hb (hc j u hj)⟩
theorem View.drop {w : World} {g o : Nat} {l : List TV} (h : View w (some ⟨g, o, none⟩) l) (k : Nat) : View w (some ⟨g, o + k * 7, none⟩) (l.drop k) := by
  rcases h with rfl | ⟨g', o', e, hc⟩
  · left; simp
  · cases e
    refine .inr ⟨_, _, rfl, fun j u hj => ?_⟩
    rw [flat_drop, List.getElem?_drop] at hj
    rw [Nat.add_assoc]
    exact hc _ u hj
theorem View.take {w : World} {a : Option Addr} {l : List TV} (h : View w a l) (k : Nat) : View w a (l.take k) := by
  rcases h with rfl | ⟨g, o, rfl, hc⟩
  · left; simp
  · refine .inr ⟨g, o, rfl, fun j u hj => ?_⟩
    rw [flat_take, List.getElem?_take] at hj
    split at hj
    · exact hc j u hj
    · cases hj
theorem View.of_at {w : World} {g o : Nat} {x : TV} (h : At w g o x) : View w (some ⟨g, o, none⟩) [x] := by
  refine .inr ⟨g, o, rfl, fun j u hj => ?_⟩
  simp only [flat, List.append_nil, TV.cells] at hj
  match j, hj with
  | 0, hj => simp at hj; subst hj; exact h.c0
  | 1, hj => simp at hj; subst hj; exact h.c1
  | 2, hj => simp at hj; subst hj; exact h.c2
  | 3, hj => simp at hj; subst hj; exact h.c3
  | 4, hj => simp at hj; subst hj; exact h.c4
  | 5, hj => simp at hj; subst hj; exact h.c5
  | 6, hj => simp at hj; subst hj; exact h.c6
  | j + 7, hj => simp at hj
/-- A slice of tasks that can be read, with all that they hold. -/
structure Tasks (w : World) (a : Option Addr) (n cap : Nat) (L : List TV) : Prop where
  len : L.length = n
  view : View w a L
  ok : AllOk w L
  le : n ≤ cap
  small : (cap : Int) ≤ 9223372036854775807
theorem Tasks.below {w w' : World} {a : Option Addr} {n cap : Nat} {L : List TV} (h : Tasks w a n cap L) (hb : Below w.heap.size w w') : Tasks w' a n cap L := ⟨h.len, h.view.below hb, h.ok.below hb, h.le, h.small⟩
theorem nth_of {α : Type} {l : List α} {i m : Nat} (h : l.length = m) (hi : i < m) : ∃ x, l[i]? = some x := ⟨l[i]'(by rw [h]; exact hi), by simp [h, hi]⟩

/-! ### rows of one's own -/
abbrev TT : TypeId := 26
def OwnT (w : World) (B : Nat) (v : Value) (l : List TV) : Prop := w.ownsRow B TT 7 v l.length (flat l)
theorem OwnT.nil (w : World) (B : Nat) : OwnT w B (.slice none 0 0) [] := World.ownsRow_nil _ _ _ _
theorem OwnT.made (w : World) : OwnT (w.alloc (.cells #[] TT)) w.heap.size (.slice (some ⟨w.heap.size, 0, none⟩) 0 0) [] :=
  World.ownsRow_made (w := w) #[] 0 (Nat.le_refl _) (by decide) rfl
theorem OwnT.low {w : World} {B B' : Nat} {v : Value} {l : List TV} (h : OwnT w B v l) (hB : B' ≤ B) : OwnT w B' v l := by
  rcases h with ⟨h0, h | ⟨g, cap, cur, rfl, hb, r⟩⟩
  · exact ⟨h0, .inl h⟩
  · exact ⟨h0, .inr ⟨g, cap, cur, rfl, by omega, r⟩⟩
theorem OwnT.slice {w : World} {B : Nat} {v : Value} {l : List TV} (h : OwnT w B v l) : ∃ a cap, v = .slice a l.length cap ∧ View w a l ∧ l.length ≤ cap ∧ (cap : Int) ≤ 9223372036854775807 := by
  rcases h.2 with ⟨rfl, h0⟩ | ⟨g, cap, cur, rfl, _, h3, h1, h2, h4, h5⟩
  · exact ⟨none, 0, by rw [h0], .inl (List.length_eq_zero_iff.1 h0), by omega, by omega⟩
  · refine ⟨_, cap, rfl, .inr ⟨g, 0, rfl, fun j u hj => ?_⟩, h1, by unfold maxLen at h2; omega⟩
    rw [Nat.zero_add, blk_cell h3]
    rw [← h5] at hj
    rw [List.getElem?_take] at hj
    split at hj
    · simpa using hj
    · cases hj
theorem OwnT.tasks {w : World} {B : Nat} {a : Option Addr} {n cap : Nat} {l : List TV} (h : OwnT w B (.slice a n cap) l) (hok : AllOk w l) : Tasks w a n cap l := by
  obtain ⟨a', cap', e, hv, hl, hm⟩ := h.slice
  cases e
  exact ⟨rfl, hv, hok, hl, hm⟩
theorem OwnT.new {w : World} {B : Nat} {v : Value} {l : List TV} (h : OwnT w B v l) {k : Nat} (hk : v.ownBlock = some k) : B ≤ k ∧ k < w.heap.size := World.ownsRow.lt h k hk
theorem OwnT.below {w w' : World} {B : Nat} {v : Value} {l : List TV} (h : OwnT w B v l) (hb : Below w.heap.size w w') : OwnT w' B v l := by
  rcases h with ⟨h0, h | ⟨g, cap, cur, rfl, hB, h3, r⟩⟩
  · exact ⟨h0, .inl h⟩
  · exact ⟨h0, .inr ⟨g, cap, cur, rfl, hB, kept_obj hb h3, r⟩⟩
theorem OwnT.none_len {w : World} {B n c : Nat} {l : List TV} (h : OwnT w B (.slice none n c) l) : n = 0 := by
  rcases h.2 with ⟨h1, h0⟩ | ⟨g, cap, cur, h1, _⟩
  · cases h1; rfl
  · cases h1

theorem infoTask : (Tryz.prog.info? TT).map (fun i => (i.zero, i.size, i.bytes)) = some (some (.agg #[.int .i64 0, .int .i64 0, .int .i64 0, .int .i64 0, .int .i64 0, .slice none 0 0, .slice none 0 0]), 7, 88) := by kernel_rfl
theorem zeroTask (w : World) : (zeroValue TT).run Tryz.prog w = .ok (.agg #[.int .i64 0, .int .i64 0, .int .i64 0, .int .i64 0, .int .i64 0, .slice none 0 0, .slice none 0 0]) w := by kernel_rfl
theorem infoParts : ∃ i, Tryz.prog.info? TT = some i ∧ i.zero = some (.agg #[.int .i64 0, .int .i64 0, .int .i64 0, .int .i64 0, .int .i64 0, .slice none 0 0, .slice none 0 0]) ∧ i.size = 7 ∧ i.bytes = 88 := by
  obtain ⟨i, h1, h2⟩ := Option.map_eq_some_iff.1 infoTask
  simp only [Prod.mk.injEq] at h2
  exact ⟨i, h1, h2.1, h2.2.1, h2.2.2⟩

/-- A row that was appended to: what it holds, where it lies. -/
theorem append_view {w : World} {B m c : Nat} {v : Value} {q l : List TV} {ad : Option Addr} (h : OwnT w B v q) (hB : B ≤ w.heap.size) (hv : View w ad l) (hl : l.length = m) (hs : q.length + m ≤ 2000000) (hn : ad = none → m = 0) (ty : TypeId) :
    ∃ v' w', (Builtin.append_ #[27, 27] ty #[v, .slice ad m c]).run Tryz.prog w = .ok v' w' ∧ OwnT w' B v' (q ++ l) ∧ w.grownBy w' v.ownBlock ∧ ∀ k, v'.ownBlock = some k → v.ownBlock = some k ∨ w.heap.size ≤ k := by
  obtain ⟨i0, hi, hz0, hz1, hz2⟩ := infoParts
  cases ad with
  | none =>
    obtain rfl := hn rfl
    obtain rfl : l = [] := List.length_eq_zero_iff.1 hl
    refine ⟨v, w, ?_, by rw [List.append_nil]; exact h, ⟨rfl, rfl, rfl, Nat.le_refl _, fun _ _ _ => rfl⟩, fun k hk => .inl hk⟩
    rcases h.2 with ⟨rfl, h0⟩ | ⟨g, cap, cur, rfl, _, h3, h1, h2, h4, h5⟩
    · have hs := Src.ofNil (w := w) (size := i0.size) Tryz.underlying27 c
      simp [Builtin.append_, run_underlying Tryz.underlying27, sizeOf, typeInfo, hi, hs.len, hs.cells]
    · have := run_append_room_src (P := Tryz.prog) (w := w) 27 27 ty TT i0 Tryz.underlying27 hi g 0 q.length cap (.slice none 0 c) 0 [] (Src.ofNil w Tryz.underlying27 c) (by omega) (fun j hj => absurd hj (Nat.not_lt_zero _)) (fun j hj => absurd hj (Nat.not_lt_zero _))
      simpa [World.setCells] using this
  | some x =>
    have hnews : ∀ j u, (flat l)[j]? = some u → w.cell? (x.add j) = some u := by
      intro j u hj
      rcases hv with rfl | ⟨g, o, e, hc⟩
      · simp [flat] at hj
      · cases e
        rw [addr_at]; exact hc j u hj
    obtain ⟨v', w', h1, h2, h3, _, h5⟩ := run_append_own_at (P := Tryz.prog) w B 27 ty TT i0 _ 7 88 Tryz.underlying27 hi hz0 hz1 hz2 rfl (by decide) v q.length (flat q) h x m c (flat l) (by rw [flat_len, hl]) hnews (flat_one l) (by unfold maxLen; omega) (by omega) hB
    refine ⟨v', w', h1, ?_, h3, fun k hk => ?_⟩
    · unfold OwnT
      rw [List.length_append, flat_append, hl]
      exact h2
    · rcases h5 with z | z
      · left; rw [← z]; exact hk
      · right; rw [z] at hk; cases hk; exact Nat.le_refl _

theorem step_append {w : World} {ops : Array Oper} {o : Oper} {a : Act} {K : Act → World → Prop} {Q : Exit → Act → World → Prop} {E : Prop} (hgd : o.guard = none) (s x : Operand)
    (ho : o.op = .call { callee := .builtin .append, args := #[s, x], argTypes := #[27, 27] }) {B m c : Nat} {v : Value} {q l : List TV} {ad : Option Addr} (hs : a.eval s = v) (hx : a.eval x = .slice ad m c)
    (hown : OwnT w B v q) (hB : B ≤ w.heap.size) (hv : View w ad l) (hl : l.length = m) (hsm : q.length + m ≤ 2000000) (hn : ad = none → m = 0) (N : Nat) (hN : q.length + m = N)
    (h : ∀ a' cp' w', OwnT w' B (.slice a' N cp') (q ++ l) → w.grownBy w' v.ownBlock → (∀ k, (Value.slice a' N cp').ownBlock = some k → v.ownBlock = some k ∨ w.heap.size ≤ k) → K (a.put o.dst (.slice a' N cp')) w') :
    if Region.wanted o (yielded ops a.tmps) = true then Oper.wp Tryz.prog o a w K Q else E := by
  have hw : Region.wanted o (yielded ops a.tmps) = true := by simp [Region.wanted, hgd]
  rw [if_pos hw]
  obtain ⟨v', w', hr, h2, h3, h4⟩ := append_view (c := c) hown hB hv hl hsm hn o.type
  obtain ⟨a', cp', hv', _⟩ := h2.slice
  rw [List.length_append, hl, hN] at hv'
  subst hv'
  unfold Oper.wp execOp
  simp only [ho, resolve, invoke, builtin, Sem.run_bind, Sem.run_pure, Result.andThen_ok, List.map_toArray, List.map_cons, List.map_nil, hs, hx, hr]
  exact h a' cp' w' h2 h3 h4
theorem wp_append {ops : Array Oper} {rest : List Oper} {o : Oper} {a : Act} {Q : Exit → Act → World → Prop} {w : World} (hgd : o.guard = none) (s x : Operand)
    (ho : o.op = .call { callee := .builtin .append, args := #[s, x], argTypes := #[27, 27] }) {B m c : Nat} {v : Value} {q l : List TV} {ad : Option Addr} (hs : a.eval s = v) (hx : a.eval x = .slice ad m c)
    (hown : OwnT w B v q) (hB : B ≤ w.heap.size) (hv : View w ad l) (hl : l.length = m) (hsm : q.length + m ≤ 2000000) (hn : ad = none → m = 0) (N : Nat) (hN : q.length + m = N)
    (h : ∀ a' cp' w', OwnT w' B (.slice a' N cp') (q ++ l) → w.grownBy w' v.ownBlock → (∀ k, (Value.slice a' N cp').ownBlock = some k → v.ownBlock = some k ∨ w.heap.size ≤ k) → wpList Tryz.prog ops Q rest (a.put o.dst (.slice a' N cp')) w') : wpList Tryz.prog ops Q (o :: rest) a w :=
  wpList_step fun _ hK => step_append hgd s x ho hs hx hown hB hv hl hsm hn N hN (fun a' cp' w' o' g' l' => hK _ _ (h a' cp' w' o' g' l'))

/-! ### rows of numbers of one's own -/
def vi (l : List Int) : List Value := l.map (Value.int .i64)
theorem vi_one (l : List Int) : ∀ u ∈ vi l, u.oneCell' = true := by
  intro u hu
  obtain ⟨_, _, rfl⟩ := List.mem_map.1 hu
  rfl
theorem vi_at {l : List Int} {j : Nat} {u : Int} (h : l[j]? = some u) : (vi l)[j]? = some (.int .i64 u) := by simp [vi, h]
def OwnI (w : World) (e : TypeId) (B : Nat) (v : Value) (l : List Int) : Prop := w.ownsRow B e 1 v l.length (vi l)
theorem OwnI.nil (w : World) (e : TypeId) (B : Nat) : OwnI w e B (.slice none 0 0) [] := World.ownsRow_nil _ _ _ _
theorem OwnI.made (w : World) (e : TypeId) : OwnI (w.alloc (.cells #[] e)) e w.heap.size (.slice (some ⟨w.heap.size, 0, none⟩) 0 0) [] :=
  World.ownsRow_made (w := w) #[] 0 (Nat.le_refl _) (by decide) rfl
theorem OwnI.slice {w : World} {e : TypeId} {B : Nat} {v : Value} {l : List Int} (h : OwnI w e B v l) : ∃ a cap, v = .slice a l.length cap ∧ Ints w a l ∧ l.length ≤ cap ∧ (cap : Int) ≤ 9223372036854775807 := by
  rcases h.2 with ⟨rfl, h0⟩ | ⟨g, cap, cur, rfl, _, h3, h1, h2, h4, h5⟩
  · exact ⟨none, 0, by rw [h0], .inl (List.length_eq_zero_iff.1 h0), by omega, by omega⟩
  · refine ⟨_, cap, rfl, .inr ⟨g, 0, rfl, fun j u hj => ?_⟩, h1, by unfold maxLen at h2; omega⟩
    rw [Nat.zero_add, blk_cell h3]
    have := vi_at hj
    rw [← h5, List.getElem?_take] at this
    split at this
    · simpa using this
    · cases this
theorem OwnI.new {w : World} {e : TypeId} {B : Nat} {v : Value} {l : List Int} (h : OwnI w e B v l) {k : Nat} (hk : v.ownBlock = some k) : B ≤ k ∧ k < w.heap.size := World.ownsRow.lt h k hk
theorem OwnI.below {w w' : World} {e : TypeId} {B : Nat} {v : Value} {l : List Int} (h : OwnI w e B v l) (hb : Below w.heap.size w w') : OwnI w' e B v l := by
  rcases h with ⟨h0, h | ⟨g, cap, cur, rfl, hB, h3, r⟩⟩
  · exact ⟨h0, .inl h⟩
  · exact ⟨h0, .inr ⟨g, cap, cur, rfl, hB, kept_obj hb h3, r⟩⟩
theorem OwnI.low {w : World} {e : TypeId} {B B' : Nat} {v : Value} {l : List Int} (h : OwnI w e B v l) (hB : B' ≤ B) : OwnI w e B' v l := by
  rcases h with ⟨h0, h | ⟨g, cap, cur, rfl, hb, r⟩⟩
  · exact ⟨h0, .inl h⟩
  · exact ⟨h0, .inr ⟨g, cap, cur, rfl, by omega, r⟩⟩

/-- A slice type of numbers. -/
structure IsNum (t e : TypeId) : Prop where
  und : Tryz.prog.underlying t = some (.slice e)
  info : ∃ i, Tryz.prog.info? e = some i ∧ i.zero = some (.int .i64 0) ∧ i.size = 1 ∧ i.bytes = 8
theorem num_of {t e : TypeId} (h : Tryz.prog.underlying t = some (.slice e)) (h2 : (Tryz.prog.info? e).map (fun i => (i.zero, i.size, i.bytes)) = some (some (.int .i64 0), 1, 8)) : IsNum t e := by
  obtain ⟨i, h1, h2⟩ := Option.map_eq_some_iff.1 h2
  simp only [Prod.mk.injEq] at h2
  exact ⟨h, i, h1, h2.1, h2.2.1, h2.2.2⟩
theorem numL : IsNum 23 2 := num_of Tryz.underlying23 (by kernel_rfl)
theorem numI : IsNum 24 3 := num_of Tryz.underlying24 (by kernel_rfl)

theorem append_ints {w : World} {t e : TypeId} (ht : IsNum t e) {B m c : Nat} {v : Value} {q l : List Int} {ad : Option Addr} (h : OwnI w e B v q) (hB : B ≤ w.heap.size) (hv : Ints w ad l) (hl : l.length = m) (hs : (q.length + m : Int) ≤ 17592186044416) (hn : ad = none → m = 0) (ty : TypeId) :
    ∃ v' w', (Builtin.append_ #[t, t] ty #[v, .slice ad m c]).run Tryz.prog w = .ok v' w' ∧ OwnI w' e B v' (q ++ l) ∧ w.grownBy w' v.ownBlock ∧ ∀ k, v'.ownBlock = some k → v.ownBlock = some k ∨ w.heap.size ≤ k := by
  obtain ⟨i0, hi, hz0, hz1, hz2⟩ := ht.info
  cases ad with
  | none =>
    obtain rfl := hn rfl
    obtain rfl : l = [] := List.length_eq_zero_iff.1 hl
    refine ⟨v, w, ?_, by rw [List.append_nil]; exact h, ⟨rfl, rfl, rfl, Nat.le_refl _, fun _ _ _ => rfl⟩, fun k hk => .inl hk⟩
    rcases h.2 with ⟨rfl, h0⟩ | ⟨g, cap, cur, rfl, _, h3, h1, h2, h4, h5⟩
    · have hs := Src.ofNil (w := w) (size := i0.size) ht.und c
      simp [Builtin.append_, run_underlying ht.und, sizeOf, typeInfo, hi, hs.len, hs.cells]
    · have := run_append_room_src (P := Tryz.prog) (w := w) t t ty e i0 ht.und hi g 0 q.length cap (.slice none 0 c) 0 [] (Src.ofNil w ht.und c) (by omega) (fun j hj => absurd hj (Nat.not_lt_zero _)) (fun j hj => absurd hj (Nat.not_lt_zero _))
      simpa [World.setCells] using this
  | some x =>
    have hnews : ∀ j u, (vi l)[j]? = some u → w.cell? (x.add j) = some u := by
      intro j u hj
      rcases hv with rfl | ⟨g, o, e, hc⟩
      · simp [vi] at hj
      · cases e
        simp only [vi, List.getElem?_map, Option.map_eq_some_iff] at hj
        obtain ⟨y, hy, rfl⟩ := hj
        rw [addr_at]; exact hc j y hy
    obtain ⟨v', w', h1, h2, h3, _, h5⟩ := run_append_own_at (P := Tryz.prog) w B t ty e i0 _ 1 8 ht.und hi hz0 hz1 hz2 rfl (by decide) v q.length (vi q) h x m c (vi l) (by simp [vi, hl]) hnews (vi_one l) (by unfold maxLen; omega) (by omega) hB
    refine ⟨v', w', h1, ?_, h3, fun k hk => ?_⟩
    · unfold OwnI
      rw [List.length_append, hl]
      unfold vi at h2 ⊢
      rw [List.map_append]
      exact h2
    · rcases h5 with z | z
      · left; rw [← z]; exact hk
      · right; rw [z] at hk; cases hk; exact Nat.le_refl _

theorem step_ints {w : World} {t e : TypeId} (ht : IsNum t e) {ops : Array Oper} {o : Oper} {a : Act} {K : Act → World → Prop} {Q : Exit → Act → World → Prop} {E : Prop} (hgd : o.guard = none) (s x : Operand)
    (ho : o.op = .call { callee := .builtin .append, args := #[s, x], argTypes := #[t, t] }) {B m c : Nat} {v : Value} {q l : List Int} {ad : Option Addr} (hs : a.eval s = v) (hx : a.eval x = .slice ad m c)
    (hown : OwnI w e B v q) (hB : B ≤ w.heap.size) (hv : Ints w ad l) (hl : l.length = m) (hsm : (q.length + m : Int) ≤ 17592186044416) (hn : ad = none → m = 0) (N : Nat) (hN : q.length + m = N)
    (h : ∀ a' cp' w', OwnI w' e B (.slice a' N cp') (q ++ l) → w.grownBy w' v.ownBlock → (∀ k, (Value.slice a' N cp').ownBlock = some k → v.ownBlock = some k ∨ w.heap.size ≤ k) → K (a.put o.dst (.slice a' N cp')) w') :
    if Region.wanted o (yielded ops a.tmps) = true then Oper.wp Tryz.prog o a w K Q else E := by
  have hw : Region.wanted o (yielded ops a.tmps) = true := by simp [Region.wanted, hgd]
  rw [if_pos hw]
  obtain ⟨v', w', hr, h2, h3, h4⟩ := append_ints ht (c := c) hown hB hv hl hsm hn o.type
  obtain ⟨a', cp', hv', _⟩ := h2.slice
  rw [List.length_append, hl, hN] at hv'
  subst hv'
  unfold Oper.wp execOp
  simp only [ho, resolve, invoke, builtin, Sem.run_bind, Sem.run_pure, Result.andThen_ok, List.map_toArray, List.map_cons, List.map_nil, hs, hx, hr]
  exact h a' cp' w' h2 h3 h4
theorem wp_ints {t e : TypeId} (ht : IsNum t e) {ops : Array Oper} {rest : List Oper} {o : Oper} {a : Act} {Q : Exit → Act → World → Prop} {w : World} (hgd : o.guard = none) (s x : Operand)
    (ho : o.op = .call { callee := .builtin .append, args := #[s, x], argTypes := #[t, t] }) {B m c : Nat} {v : Value} {q l : List Int} {ad : Option Addr} (hs : a.eval s = v) (hx : a.eval x = .slice ad m c)
    (hown : OwnI w e B v q) (hB : B ≤ w.heap.size) (hv : Ints w ad l) (hl : l.length = m) (hsm : (q.length + m : Int) ≤ 17592186044416) (hn : ad = none → m = 0) (N : Nat) (hN : q.length + m = N)
    (h : ∀ a' cp' w', OwnI w' e B (.slice a' N cp') (q ++ l) → w.grownBy w' v.ownBlock → (∀ k, (Value.slice a' N cp').ownBlock = some k → v.ownBlock = some k ∨ w.heap.size ≤ k) → wpList Tryz.prog ops Q rest (a.put o.dst (.slice a' N cp')) w') : wpList Tryz.prog ops Q (o :: rest) a w :=
  wpList_step fun _ hK => step_ints ht hgd s x ho hs hx hown hB hv hl hsm hn N hN (fun a' cp' w' o' g' l' => hK _ _ (h a' cp' w' o' g' l'))
theorem ints_new (w : World) (x : Int) (T : TypeId) : Ints (w.alloc (.cells #[.int .i64 x] T)) (some ⟨w.heap.size, 0, none⟩) [x] :=
  .inr ⟨_, 0, rfl, fun j u hj => by
    match j, hj with
    | 0, hj => simp at hj; subst hj; rw [World.cell?_alloc_new]; rfl
    | j + 1, hj => simp at hj⟩
theorem at_new (w : World) (x : TV) (T : TypeId) : At (w.alloc (.cells #[.int .i64 x.id, .int .i64 x.c, .int .i64 x.d, .int .i64 x.t, .int .i64 x.p, .slice x.a1 x.ch.length x.c1, .slice x.a2 x.us.length x.c2] T)) w.heap.size 0 x :=
  ⟨by rw [World.cell?_alloc_new]; rfl, by rw [World.cell?_alloc_new]; rfl, by rw [World.cell?_alloc_new]; rfl, by rw [World.cell?_alloc_new]; rfl, by rw [World.cell?_alloc_new]; rfl, by rw [World.cell?_alloc_new]; rfl, by rw [World.cell?_alloc_new]; rfl⟩
end Go.Proofs.YtlpffgmfgkleiaaGreatDoor

/-
  The walks over whether rows of numbers, and tasks, are the same.
-/
namespace Go.Proofs.YtlpffgmfgkleiaaGreatDoor
open Go.RowKit Go.Maps

theorem bw_alloc {W w : World} (h : Below W.heap.size W w) (o : Obj) : Below W.heap.size W (w.alloc o) := h.alloc h.size o
theorem bw_drew {W w : World} (h : Below W.heap.size W w) : Below W.heap.size W w.drew := h.drew

theorem same_step {l m : List Int} {k : Nat} {x y : Int} (h : l.take k = m.take k) (hx : l[k]? = some x) (hy : m[k]? = some y) (e : x = y) : l.take (k + 1) = m.take (k + 1) := by
  rw [List.take_add_one, List.take_add_one, h, hx, hy, e]
theorem same_end {l m : List Int} {k : Nat} (h : l.take k = m.take k) (hl : l.length = k) (hm : m.length = k) : l = m := by
  rwa [List.take_of_length_le (by omega), List.take_of_length_le (by omega)] at h
theorem same_not {l m : List Int} {k : Nat} {x y : Int} (hx : l[k]? = some x) (hy : m[k]? = some y) (e : ¬ x = y) : ¬ l = m := by
  rintro rfl; rw [hx] at hy; cases hy; exact e rfl

end Go.Proofs.YtlpffgmfgkleiaaGreatDoor

/-
  The walks over whether two tasks are the same.
-/
namespace Go.Proofs.YtlpffgmfgkleiaaGreatDoor
open Go.RowKit Go.Maps

theorem new_first (w : World) (cs : Array Value) (T : TypeId) (o : Obj) (i : Nat) : ((w.alloc (.cells cs T)).alloc o).cell? ⟨w.heap.size, i, none⟩ = cs[i]? := by
  rw [World.cell?_alloc_lt _ _ _ (by simp), World.cell?_alloc_new]
theorem new_second (w : World) (cs : Array Value) (T : TypeId) (o : Obj) (i : Nat) : ((w.alloc o).alloc (.cells cs T)).cell? ⟨w.heap.size + 1, i, none⟩ = cs[i]? := by
  have := World.cell?_alloc_new (w.alloc o) cs T i
  rwa [World.size_alloc] at this
theorem tk_eq (x y : TV) : x.tk = y.tk ↔ x.id = y.id ∧ x.c = y.c ∧ x.d = y.d ∧ x.t = y.t ∧ x.p = y.p ∧ x.ch = y.ch ∧ x.us = y.us := by
  simp [TV.tk]

end Go.Proofs.YtlpffgmfgkleiaaGreatDoor

/-
  The walks over whether two tasks are the same, by the document's own words.
-/
namespace Go.Proofs.YtlpffgmfgkleiaaGreatDoor
open Go.RowKit Go.Maps

/-- Two tasks in boxes of their own. -/
structure Boxes (w : World) (a1 : Option Addr) (n1 c1 : Nat) (a2 : Option Addr) (n2 c2 : Nat) (b1 : Option Addr) (m1 e1 : Nat) (b2 : Option Addr) (m2 e2 : Nat) (v : World) : Prop where
  low : Below w.heap.size w v
  x5 : v.cell? ⟨w.heap.size, 5, none⟩ = some (.slice a1 n1 c1)
  x6 : v.cell? ⟨w.heap.size, 6, none⟩ = some (.slice a2 n2 c2)
  y5 : v.cell? ⟨w.heap.size + 1, 5, none⟩ = some (.slice b1 m1 e1)
  y6 : v.cell? ⟨w.heap.size + 1, 6, none⟩ = some (.slice b2 m2 e2)
theorem Boxes.below {w v v' : World} {a1 a2 b1 b2 : Option Addr} {n1 c1 n2 c2 m1 e1 m2 e2 : Nat} (h : Boxes w a1 n1 c1 a2 n2 c2 b1 m1 e1 b2 m2 e2 v) (hb : Below v.heap.size v v') : Boxes w a1 n1 c1 a2 n2 c2 b1 m1 e1 b2 m2 e2 v' :=
  ⟨below_up h.low hb, kept_cell hb h.x5, kept_cell hb h.x6, kept_cell hb h.y5, kept_cell hb h.y6⟩
theorem boxes_new {w : World} {i0 i1 i2 i3 i4 j0 j1 j2 j3 j4 : Value} {a1 a2 b1 b2 : Option Addr} {n1 c1 n2 c2 m1 e1 m2 e2 : Nat} {T T' : TypeId} :
    Boxes w a1 n1 c1 a2 n2 c2 b1 m1 e1 b2 m2 e2 ((w.alloc (.cells #[i0, i1, i2, i3, i4, .slice a1 n1 c1, .slice a2 n2 c2] T)).alloc (.cells #[j0, j1, j2, j3, j4, .slice b1 m1 e1, .slice b2 m2 e2] T')) :=
  ⟨(by repeat (first | exact Below.refl _ _ | (with_reducible assumption) | refine bw_alloc ?_ _ | refine bw_drew ?_)), (new_first w _ _ _ 5).trans rfl, (new_first w _ _ _ 6).trans rfl, (new_second w _ _ _ 5).trans rfl, (new_second w _ _ _ 6).trans rfl⟩

set_option maxRecDepth 100000 in
set_option maxHeartbeats 8000000 in
theorem rsame_task (x y : TV) (w : World) (hx : x.ok w) (hy : y.ok w) : Calls Tryz.prog 26 #[x.val, y.val] w fun e w' => e = .returned (.bool (decide (x.tk = y.tk))) ∧ Below w.heap.size w w' := by
  obtain ⟨id, c, d, t, p, a1, ch, c1, a2, us, c2⟩ := x
  obtain ⟨id', c', d', t', p', a1', ch', c1', a2', us', c2'⟩ := y
  obtain ⟨i1, i2, l1, m1, l2, m2⟩ := hx
  obtain ⟨j1, j2, k1, n1, k2, n2⟩ := hy
  simp only at i1 i2 l1 m1 l2 m2 j1 j2 k1 n1 k2 n2
  unfold TV.val
  simp only []
  by_cases h0 : id = id'
  rotate_left
  · have hq : ¬ ((TV.mk id c d t p a1 ch c1 a2 us c2).tk = (TV.mk id' c' d' t' p' a1' ch' c1' a2' us' c2').tk) := fun z => h0 ((tk_eq _ _).1 z).1
    rw [decide_eq_false hq]
    clear hq i1 i2 j1 j2
    have d1 : (id == id') = false := by rw [beq_eq_false_iff_ne]; exact h0
    have d2 : (id != id') = true := by rw [bne, d1]; rfl
    go_enter Tryz.func26, Tryz.ntmps26
    go_wp2
    go_ret
    exact ⟨rfl, (by repeat (first | exact Below.refl _ _ | (with_reducible assumption) | refine bw_alloc ?_ _ | refine bw_drew ?_))⟩
  subst h0
  by_cases h1 : c = c'
  rotate_left
  · have hq : ¬ ((TV.mk id c d t p a1 ch c1 a2 us c2).tk = (TV.mk id c' d' t' p' a1' ch' c1' a2' us' c2').tk) := fun z => h1 ((tk_eq _ _).1 z).2.1
    rw [decide_eq_false hq]
    clear hq i1 i2 j1 j2
    have d1 : (c == c') = false := by rw [beq_eq_false_iff_ne]; exact h1
    have d2 : (c != c') = true := by rw [bne, d1]; rfl
    go_enter Tryz.func26, Tryz.ntmps26
    go_wp2
    go_ret
    exact ⟨rfl, (by repeat (first | exact Below.refl _ _ | (with_reducible assumption) | refine bw_alloc ?_ _ | refine bw_drew ?_))⟩
  subst h1
  by_cases h2 : d = d'
  rotate_left
  · have hq : ¬ ((TV.mk id c d t p a1 ch c1 a2 us c2).tk = (TV.mk id c d' t' p' a1' ch' c1' a2' us' c2').tk) := fun z => h2 ((tk_eq _ _).1 z).2.2.1
    rw [decide_eq_false hq]
    clear hq i1 i2 j1 j2
    have d1 : (d == d') = false := by rw [beq_eq_false_iff_ne]; exact h2
    have d2 : (d != d') = true := by rw [bne, d1]; rfl
    go_enter Tryz.func26, Tryz.ntmps26
    go_wp2
    go_ret
    exact ⟨rfl, (by repeat (first | exact Below.refl _ _ | (with_reducible assumption) | refine bw_alloc ?_ _ | refine bw_drew ?_))⟩
  subst h2
  by_cases h3 : t = t'
  rotate_left
  · have hq : ¬ ((TV.mk id c d t p a1 ch c1 a2 us c2).tk = (TV.mk id c d t' p' a1' ch' c1' a2' us' c2').tk) := fun z => h3 ((tk_eq _ _).1 z).2.2.2.1
    rw [decide_eq_false hq]
    clear hq i1 i2 j1 j2
    have d1 : (t == t') = false := by rw [beq_eq_false_iff_ne]; exact h3
    have d2 : (t != t') = true := by rw [bne, d1]; rfl
    go_enter Tryz.func26, Tryz.ntmps26
    go_wp2
    go_ret
    exact ⟨rfl, (by repeat (first | exact Below.refl _ _ | (with_reducible assumption) | refine bw_alloc ?_ _ | refine bw_drew ?_))⟩
  subst h3
  by_cases h4 : p = p'
  rotate_left
  · have hq : ¬ ((TV.mk id c d t p a1 ch c1 a2 us c2).tk = (TV.mk id c d t p' a1' ch' c1' a2' us' c2').tk) := fun z => h4 ((tk_eq _ _).1 z).2.2.2.2.1
    rw [decide_eq_false hq]
    clear hq i1 i2 j1 j2
    have d1 : (p == p') = false := by rw [beq_eq_false_iff_ne]; exact h4
    have d2 : (p != p') = true := by rw [bne, d1]; rfl
    go_enter Tryz.func26, Tryz.ntmps26
    go_wp2
    go_ret
    exact ⟨rfl, (by repeat (first | exact Below.refl _ _ | (with_reducible assumption) | refine bw_alloc ?_ _ | refine bw_drew ?_))⟩
  subst h4
  by_cases h5 : ch.length = ch'.length
  rotate_left
  · have hq : ¬ ((TV.mk id c d t p a1 ch c1 a2 us c2).tk = (TV.mk id c d t p a1' ch' c1' a2' us' c2').tk) := fun z => h5 (congrArg List.length ((tk_eq _ _).1 z).2.2.2.2.2.1)
    rw [decide_eq_false hq]
    clear hq i1 i2 j1 j2
    have d1 : ((ch.length : Int) == (ch'.length : Int)) = false := by rw [beq_eq_false_iff_ne]; omega
    have d2 : ((ch.length : Int) != (ch'.length : Int)) = true := by rw [bne, d1]; rfl
    go_enter Tryz.func26, Tryz.ntmps26
    go_wp2
    go_ret
    exact ⟨rfl, (by repeat (first | exact Below.refl _ _ | (with_reducible assumption) | refine bw_alloc ?_ _ | refine bw_drew ?_))⟩
  by_cases h6 : us.length = us'.length
  rotate_left
  · have hq : ¬ ((TV.mk id c d t p a1 ch c1 a2 us c2).tk = (TV.mk id c d t p a1' ch' c1' a2' us' c2').tk) := fun z => h6 (congrArg List.length ((tk_eq _ _).1 z).2.2.2.2.2.2)
    rw [decide_eq_false hq]
    clear hq i1 i2 j1 j2
    have d1 : ((us.length : Int) == (us'.length : Int)) = false := by rw [beq_eq_false_iff_ne]; omega
    have d2 : ((us.length : Int) != (us'.length : Int)) = true := by rw [bne, d1]; rfl
    go_enter Tryz.func26, Tryz.ntmps26
    go_wp2
    go_ret
    exact ⟨rfl, (by repeat (first | exact Below.refl _ _ | (with_reducible assumption) | refine bw_alloc ?_ _ | refine bw_drew ?_))⟩
  have hq : ((TV.mk id c d t p a1 ch c1 a2 us c2).tk = (TV.mk id c d t p a1' ch' c1' a2' us' c2').tk) ↔ ch = ch' ∧ us = us' := by
    simp [tk_eq]
  have HQ : Hid (decide ((TV.mk id c d t p a1 ch c1 a2 us c2).tk = (TV.mk id c d t p a1' ch' c1' a2' us' c2').tk) = decide (ch = ch' ∧ us = us')) := by
    show _ = _
    rw [decide_eq_decide]; exact hq
  clear hq
  obtain ⟨n, hn⟩ : ∃ n, ch.length = n := ⟨_, rfl⟩
  obtain ⟨m, hm⟩ : ∃ m, us.length = m := ⟨_, rfl⟩
  have HL := Lib.hid hn
  have HR := Lib.hid (h5.symm.trans hn)
  have HM := Lib.hid hm
  have HK := Lib.hid (h6.symm.trans hm)
  rw [HR.out, HK.out, hn, hm]
  rw [hn] at l1
  rw [hm] at l2
  have hn9 : (n : Int) ≤ 9223372036854775807 := by omega
  have hm9 : (m : Int) ≤ 9223372036854775807 := by omega
  have I1 := Lib.hid i1
  have I2 := Lib.hid i2
  have J1 := Lib.hid j1
  have J2 := Lib.hid j2
  clear i1 i2 j1 j2 l1 m1 l2 m2 k1 n1 k2 n2 hn hm h5 h6
  go_enter Tryz.func26, Tryz.ntmps26
  go_wp2
  refine gen_world (Boxes w a1 n c1 a2 m c2 a1' n c1' a2' m c2') boxes_new ?_
  intro W1 hw1
  have H1 := Lib.hid hw1
  clear hw1
  go_loopw [5] (fun u wr => ∃ k : Nat, k ≤ n ∧ u = .int .i64 k ∧ Hid (ch.take k = ch'.take k) ∧ Hid (Boxes w a1 n c1 a2 m c2 a1' n c1' a2' m c2' wr)) (fun u _ => (n - intOf u).toNat)
  case atStart => exact ⟨0, by omega, rfl, by show _ = _; simp, H1⟩
  case round =>
    obtain ⟨k, hk, rfl, HS, HP⟩ := hrel
    obtain ⟨_, x5, x6, y5, y6⟩ := HP.out
    by_cases hlt : k < n
    · obtain ⟨x, hx⟩ := nth_of HL.out hlt
      obtain ⟨y, hy⟩ := nth_of HR.out hlt
      obtain ⟨g, o, rfl, c0⟩ := (I1.out.below HP.out.low).at_ hx
      obtain ⟨g2, o2, rfl, d0⟩ := (J1.out.below HP.out.low).at_ hy
      have hk1 : (k : Int) < (n : Int) := by omega
      have hk0 : (0 : Int) ≤ (k : Int) := by omega
      by_cases hxy : x = y
      · have HS2 := Lib.hid (same_step HS.out hx hy hxy)
        subst hxy
        clear hx hy HS
        go_upto_region 6 with (fail)
        go_quiet (fail)
        go_wp2
        go_roundw
        case rel => exact ⟨k + 1, by omega, by go_num, HS2, HP.out.below (below_same (Below.refl _ _) rfl rfl rfl rfl)⟩
        case measure => simp [intOf]; omega
      · have HN := Lib.hid (same_not hx hy hxy)
        have d1 : (x == y) = false := by rw [beq_eq_false_iff_ne]; exact hxy
        have d2 : (x != y) = true := by rw [bne, d1]; rfl
        clear hx hy HS hxy
        go_upto_region 6 with (fail)
        go_quiet (fail)
        go_wp2
        go_ret
        rw [HQ.out, decide_eq_false (fun z => HN.out z.1)]
        exact ⟨rfl, below_same HP.out.low rfl rfl rfl rfl⟩
    · obtain rfl : n = k := by omega
      have HE := Lib.hid (same_end HS.out HL.out HR.out)
      have HP0 := HP
      go_wp2
      clear HP H1 x5 x6 y5 y6
      go_loopw [6] (fun u wr => ∃ k : Nat, k ≤ m ∧ u = .int .i64 k ∧ Hid (us.take k = us'.take k) ∧ Hid (Boxes w a1 n c1 a2 m c2 a1' n c1' a2' m c2' wr)) (fun u _ => (m - intOf u).toNat)
      case atStart => exact ⟨0, by omega, rfl, by show _ = _; simp, HP0⟩
      case round =>
        obtain ⟨k, hk, rfl, HS, HP⟩ := hrel
        obtain ⟨_, x5, x6, y5, y6⟩ := HP.out
        by_cases hlt : k < m
        · obtain ⟨x, hx⟩ := nth_of HM.out hlt
          obtain ⟨y, hy⟩ := nth_of HK.out hlt
          obtain ⟨g, o, rfl, c0⟩ := (I2.out.below HP.out.low).at_ hx
          obtain ⟨g2, o2, rfl, d0⟩ := (J2.out.below HP.out.low).at_ hy
          have hk1 : (k : Int) < (m : Int) := by omega
          have hk0 : (0 : Int) ≤ (k : Int) := by omega
          by_cases hxy : x = y
          · have HS2 := Lib.hid (same_step HS.out hx hy hxy)
            subst hxy
            clear hx hy HS
            go_upto_region 11 with (fail)
            go_quiet (fail)
            go_wp2
            go_roundw
            case rel => exact ⟨k + 1, by omega, by go_num, HS2, HP.out.below (below_same (Below.refl _ _) rfl rfl rfl rfl)⟩
            case measure => simp [intOf]; omega
          · have HN := Lib.hid (same_not hx hy hxy)
            have d1 : (x == y) = false := by rw [beq_eq_false_iff_ne]; exact hxy
            have d2 : (x != y) = true := by rw [bne, d1]; rfl
            clear hx hy HS hxy
            go_upto_region 11 with (fail)
            go_quiet (fail)
            go_wp2
            go_ret
            rw [HQ.out, decide_eq_false (fun z => HN.out z.2)]
            exact ⟨rfl, below_same HP.out.low rfl rfl rfl rfl⟩
        · obtain rfl : k = m := by omega
          have HE2 := Lib.hid (same_end HS.out HM.out HK.out)
          go_wp2
          go_ret
          rw [HQ.out, decide_eq_true ⟨HE.out, HE2.out⟩]
          exact ⟨rfl, HP.out.low⟩
end Go.Proofs.YtlpffgmfgkleiaaGreatDoor

/-
  What rows of numbers, words and rows of words hold, in a world and in later ones.
-/
namespace Go.Proofs.YtlpffgmfgkleiaaGreatDoor
open Go.RowKit Go.Maps

theorem l_i64_of_wf {x : Int} (h : (Lit.int .i64 x).wf = true) : I64 x := by
  simp [Lit.wf, IntKind.min, IntKind.max, IntKind.signed, IntKind.bits] at h
  unfold I64; omega

/-! ### words -/
/-- A word: where it begins, on which line, what it is. -/
structure WV where
  at_ : Int
  ln : Int
  tx : ByteArray
deriving DecidableEq
def WV.cells (x : WV) : List Value := [.int .i64 x.at_, .int .i64 x.ln, .string x.tx]
def WV.val (x : WV) : Value := .agg #[.int .i64 x.at_, .int .i64 x.ln, .string x.tx]
/-- The cells of a row of words. -/
def wflat : List WV → List Value
  | [] => []
  | x :: l => x.cells ++ wflat l
theorem wcells_len (x : WV) : x.cells.length = 3 := rfl
theorem wflat_len : ∀ l : List WV, (wflat l).length = l.length * 3
  | [] => rfl
  | x :: l => by simp [wflat, wflat_len l, wcells_len]; omega
theorem wflat_append : ∀ l m : List WV, wflat (l ++ m) = wflat l ++ wflat m
  | [], _ => rfl
  | x :: l, m => by simp [wflat, wflat_append l m]
theorem wflat_at : ∀ (l : List WV) (k : Nat) (x : WV), l[k]? = some x → ∀ i, i < 3 → (wflat l)[k * 3 + i]? = x.cells[i]?
  | [], k, x, h => by simp at h
  | y :: l, 0, x, h => by
    simp at h; subst h
    intro i hi
    rw [Nat.zero_mul, Nat.zero_add, wflat, List.getElem?_append_left (by rw [wcells_len]; exact hi)]
  | y :: l, k + 1, x, h => by
    intro i hi
    have := wflat_at l k x (by simpa using h) i hi
    rw [show (k + 1) * 3 + i = 3 + (k * 3 + i) by omega, wflat, List.getElem?_append_right (by rw [wcells_len]; omega), wcells_len, ← this]
    congr 1; omega
theorem wflat_one : ∀ (l : List WV), ∀ u ∈ wflat l, u.oneCell' = true
  | [], u, h => by simp [wflat] at h
  | x :: l, u, h => by
    rcases List.mem_append.1 h with h | h
    · simp [WV.cells] at h
      rcases h with rfl | rfl | rfl <;> rfl
    · exact wflat_one l u h
theorem wflat_drop : ∀ (k : Nat) (l : List WV), wflat (l.drop k) = (wflat l).drop (k * 3)
  | 0, l => by simp
  | k + 1, [] => by simp [wflat]
  | k + 1, x :: l => by
    rw [List.drop_succ_cons, wflat_drop k l, wflat, List.drop_append, show (k + 1) * 3 = 3 + k * 3 by omega]
    simp [wcells_len]
theorem wflat_take : ∀ (k : Nat) (l : List WV), wflat (l.take k) = (wflat l).take (k * 3)
  | 0, l => by simp [wflat]
  | k + 1, [] => by simp [wflat]
  | k + 1, x :: l => by
    rw [List.take_succ_cons, wflat, wflat, wflat_take k l, List.take_append, show (k + 1) * 3 = 3 + k * 3 by omega]
    simp [wcells_len]
    rw [List.take_of_length_le (by rw [wcells_len]; omega)]

/-- The cells of one word, from a place on. -/
structure WAt (w : World) (g o : Nat) (x : WV) : Prop where
  c0 : w.cell? ⟨g, o, none⟩ = some (.int .i64 x.at_)
  c1 : w.cell? ⟨g, o + 1, none⟩ = some (.int .i64 x.ln)
  c2 : w.cell? ⟨g, o + 2, none⟩ = some (.string x.tx)
theorem WAt.below {w w' : World} {g o : Nat} {x : WV} (h : WAt w g o x) (hb : Below w.heap.size w w') : WAt w' g o x :=
  ⟨kept_cell hb h.c0, kept_cell hb h.c1, kept_cell hb h.c2⟩
/-- A row of words that can be read. -/
def WView (w : World) (a : Option Addr) (l : List WV) : Prop :=
  l = [] ∨ ∃ g o, a = some ⟨g, o, none⟩ ∧ ∀ j u, (wflat l)[j]? = some u → w.cell? ⟨g, o + j, none⟩ = some u
theorem WView.nil {w : World} {a : Option Addr} : WView w a [] := .inl rfl
theorem WView.at_ {w : World} {a : Option Addr} {l : List WV} (h : WView w a l) {k : Nat} {x : WV} (hx : l[k]? = some x) : ∃ g o, a = some ⟨g, o, none⟩ ∧ WAt w g (o + k * 3) x := by
  rcases h with rfl | ⟨g, o, rfl, hc⟩
  · simp at hx
  · have f := wflat_at l k x hx
    refine ⟨g, o, rfl, ⟨?_, ?_, ?_⟩⟩
    · exact hc _ _ (f 0 (by omega))
    · exact hc _ _ (f 1 (by omega))
    · exact hc _ _ (f 2 (by omega))
theorem WView.below {w w' : World} {a : Option Addr} {l : List WV} (h : WView w a l) (hb : Below w.heap.size w w') : WView w' a l := by
  rcases h with rfl | ⟨g, o, rfl, hc⟩
  · exact .inl rfl
  · exact .inr ⟨g, o, rfl, fun j u hj => kept_cell hb (hc j u hj)⟩
theorem WView.drop {w : World} {g o : Nat} {l : List WV} (h : WView w (some ⟨g, o, none⟩) l) (k : Nat) : WView w (some ⟨g, o + k * 3, none⟩) (l.drop k) := by
  rcases h with rfl | ⟨g', o', e, hc⟩
  · left; simp
  · cases e
    refine .inr ⟨_, _, rfl, fun j u hj => ?_⟩
    rw [wflat_drop, List.getElem?_drop] at hj
    rw [Nat.add_assoc]
    exact hc _ u hj
theorem WView.take {w : World} {a : Option Addr} {l : List WV} (h : WView w a l) (k : Nat) : WView w a (l.take k) := by
  rcases h with rfl | ⟨g, o, rfl, hc⟩
  · left; simp
  · refine .inr ⟨g, o, rfl, fun j u hj => ?_⟩
    rw [wflat_take, List.getElem?_take] at hj
    split at hj
    · exact hc j u hj
    · cases hj
theorem WView.of_at {w : World} {g o : Nat} {x : WV} (h : WAt w g o x) : WView w (some ⟨g, o, none⟩) [x] := by
  refine .inr ⟨g, o, rfl, fun j u hj => ?_⟩
  simp only [wflat, List.append_nil, WV.cells] at hj
  match j, hj with
  | 0, hj => simp at hj; subst hj; exact h.c0
  | 1, hj => simp at hj; subst hj; exact h.c1
  | 2, hj => simp at hj; subst hj; exact h.c2
  | j + 3, hj => simp at hj
/-- A slice of words that can be read. -/
structure Words (w : World) (a : Option Addr) (n cap : Nat) (L : List WV) : Prop where
  len : L.length = n
  view : WView w a L
  le : n ≤ cap
  small : (cap : Int) ≤ 9223372036854775807
theorem Words.below {w w' : World} {a : Option Addr} {n cap : Nat} {L : List WV} (h : Words w a n cap L) (hb : Below w.heap.size w w') : Words w' a n cap L := ⟨h.len, h.view.below hb, h.le, h.small⟩
abbrev WT : TypeId := 66
def OwnW (w : World) (B : Nat) (v : Value) (l : List WV) : Prop := w.ownsRow B WT 3 v l.length (wflat l)
theorem OwnW.nil (w : World) (B : Nat) : OwnW w B (.slice none 0 0) [] := World.ownsRow_nil _ _ _ _
theorem OwnW.made (w : World) : OwnW (w.alloc (.cells #[] WT)) w.heap.size (.slice (some ⟨w.heap.size, 0, none⟩) 0 0) [] :=
  World.ownsRow_made (w := w) #[] 0 (Nat.le_refl _) (by decide) rfl
theorem OwnW.low {w : World} {B B' : Nat} {v : Value} {l : List WV} (h : OwnW w B v l) (hB : B' ≤ B) : OwnW w B' v l := by
  rcases h with ⟨h0, h | ⟨g, cap, cur, rfl, hb, r⟩⟩
  · exact ⟨h0, .inl h⟩
  · exact ⟨h0, .inr ⟨g, cap, cur, rfl, by omega, r⟩⟩
theorem OwnW.slice {w : World} {B : Nat} {v : Value} {l : List WV} (h : OwnW w B v l) : ∃ a cap, v = .slice a l.length cap ∧ WView w a l ∧ l.length ≤ cap ∧ (cap : Int) ≤ 9223372036854775807 := by
  rcases h.2 with ⟨rfl, h0⟩ | ⟨g, cap, cur, rfl, _, h3, h1, h2, h4, h5⟩
  · exact ⟨none, 0, by rw [h0], .inl (List.length_eq_zero_iff.1 h0), by omega, by omega⟩
  · refine ⟨_, cap, rfl, .inr ⟨g, 0, rfl, fun j u hj => ?_⟩, h1, by unfold maxLen at h2; omega⟩
    rw [Nat.zero_add, blk_cell h3]
    rw [← h5] at hj
    rw [List.getElem?_take] at hj
    split at hj
    · simpa using hj
    · cases hj
theorem OwnW.words {w : World} {B : Nat} {a : Option Addr} {n cap : Nat} {l : List WV} (h : OwnW w B (.slice a n cap) l) : Words w a n cap l := by
  obtain ⟨a', cap', e, hv, hl, hm⟩ := h.slice
  cases e
  exact ⟨rfl, hv, hl, hm⟩
theorem OwnW.new {w : World} {B : Nat} {v : Value} {l : List WV} (h : OwnW w B v l) {k : Nat} (hk : v.ownBlock = some k) : B ≤ k ∧ k < w.heap.size := World.ownsRow.lt h k hk
theorem OwnW.below {w w' : World} {B : Nat} {v : Value} {l : List WV} (h : OwnW w B v l) (hb : Below w.heap.size w w') : OwnW w' B v l := by
  rcases h with ⟨h0, h | ⟨g, cap, cur, rfl, hB, h3, r⟩⟩
  · exact ⟨h0, .inl h⟩
  · exact ⟨h0, .inr ⟨g, cap, cur, rfl, hB, kept_obj hb h3, r⟩⟩
theorem OwnW.none_len {w : World} {B n c : Nat} {l : List WV} (h : OwnW w B (.slice none n c) l) : n = 0 := by
  rcases h.2 with ⟨h1, h0⟩ | ⟨g, cap, cur, h1, _⟩
  · cases h1; rfl
  · cases h1

theorem infoWord : (Tryz.prog.info? WT).map (fun i => (i.zero, i.size, i.bytes)) = some (some (.agg #[.int .i64 0, .int .i64 0, .string ⟨#[]⟩]), 3, 32) := by kernel_rfl
theorem zeroWord (w : World) : (zeroValue WT).run Tryz.prog w = .ok (.agg #[.int .i64 0, .int .i64 0, .string ⟨#[]⟩]) w := by kernel_rfl
theorem winfoParts : ∃ i, Tryz.prog.info? WT = some i ∧ i.zero = some (.agg #[.int .i64 0, .int .i64 0, .string ⟨#[]⟩]) ∧ i.size = 3 ∧ i.bytes = 32 := by
  obtain ⟨i, h1, h2⟩ := Option.map_eq_some_iff.1 infoWord
  simp only [Prod.mk.injEq] at h2
  exact ⟨i, h1, h2.1, h2.2.1, h2.2.2⟩

/-- A row that was appended to: what it holds, where it lies. -/
theorem append_wview {w : World} {B m c : Nat} {v : Value} {q l : List WV} {ad : Option Addr} (h : OwnW w B v q) (hB : B ≤ w.heap.size) (hv : WView w ad l) (hl : l.length = m) (hs : q.length + m ≤ 2000000) (hn : ad = none → m = 0) (ty : TypeId) :
    ∃ v' w', (Builtin.append_ #[22, 22] ty #[v, .slice ad m c]).run Tryz.prog w = .ok v' w' ∧ OwnW w' B v' (q ++ l) ∧ w.grownBy w' v.ownBlock ∧ ∀ k, v'.ownBlock = some k → v.ownBlock = some k ∨ w.heap.size ≤ k := by
  obtain ⟨i0, hi, hz0, hz1, hz2⟩ := winfoParts
  cases ad with
  | none =>
    obtain rfl := hn rfl
    obtain rfl : l = [] := List.length_eq_zero_iff.1 hl
    refine ⟨v, w, ?_, by rw [List.append_nil]; exact h, ⟨rfl, rfl, rfl, Nat.le_refl _, fun _ _ _ => rfl⟩, fun k hk => .inl hk⟩
    rcases h.2 with ⟨rfl, h0⟩ | ⟨g, cap, cur, rfl, _, h3, h1, h2, h4, h5⟩
    · have hs := Src.ofNil (w := w) (size := i0.size) Tryz.underlying22 c
      simp [Builtin.append_, run_underlying Tryz.underlying22, sizeOf, typeInfo, hi, hs.len, hs.cells]
    · have := run_append_room_src (P := Tryz.prog) (w := w) 22 22 ty WT i0 Tryz.underlying22 hi g 0 q.length cap (.slice none 0 c) 0 [] (Src.ofNil w Tryz.underlying22 c) (by omega) (fun j hj => absurd hj (Nat.not_lt_zero _)) (fun j hj => absurd hj (Nat.not_lt_zero _))
      simpa [World.setCells] using this
  | some x =>
    have hnews : ∀ j u, (wflat l)[j]? = some u → w.cell? (x.add j) = some u := by
      intro j u hj
      rcases hv with rfl | ⟨g, o, e, hc⟩
      · simp [wflat] at hj
      · cases e
        rw [addr_at]; exact hc j u hj
    obtain ⟨v', w', h1, h2, h3, _, h5⟩ := run_append_own_at (P := Tryz.prog) w B 22 ty WT i0 _ 3 32 Tryz.underlying22 hi hz0 hz1 hz2 rfl (by decide) v q.length (wflat q) h x m c (wflat l) (by rw [wflat_len, hl]) hnews (wflat_one l) (by unfold maxLen; omega) (by omega) hB
    refine ⟨v', w', h1, ?_, h3, fun k hk => ?_⟩
    · unfold OwnW
      rw [List.length_append, wflat_append, hl]
      exact h2
    · rcases h5 with z | z
      · left; rw [← z]; exact hk
      · right; rw [z] at hk; cases hk; exact Nat.le_refl _

theorem step_wappend {w : World} {ops : Array Oper} {o : Oper} {a : Act} {K : Act → World → Prop} {Q : Exit → Act → World → Prop} {E : Prop} (hgd : o.guard = none) (s x : Operand)
    (ho : o.op = .call { callee := .builtin .append, args := #[s, x], argTypes := #[22, 22] }) {B m c : Nat} {v : Value} {q l : List WV} {ad : Option Addr} (hs : a.eval s = v) (hx : a.eval x = .slice ad m c)
    (hown : OwnW w B v q) (hB : B ≤ w.heap.size) (hv : WView w ad l) (hl : l.length = m) (hsm : q.length + m ≤ 2000000) (hn : ad = none → m = 0) (N : Nat) (hN : q.length + m = N)
    (h : ∀ a' cp' w', OwnW w' B (.slice a' N cp') (q ++ l) → w.grownBy w' v.ownBlock → (∀ k, (Value.slice a' N cp').ownBlock = some k → v.ownBlock = some k ∨ w.heap.size ≤ k) → K (a.put o.dst (.slice a' N cp')) w') :
    if Region.wanted o (yielded ops a.tmps) = true then Oper.wp Tryz.prog o a w K Q else E := by
  have hw : Region.wanted o (yielded ops a.tmps) = true := by simp [Region.wanted, hgd]
  rw [if_pos hw]
  obtain ⟨v', w', hr, h2, h3, h4⟩ := append_wview (c := c) hown hB hv hl hsm hn o.type
  obtain ⟨a', cp', hv', _⟩ := h2.slice
  rw [List.length_append, hl, hN] at hv'
  subst hv'
  unfold Oper.wp execOp
  simp only [ho, resolve, invoke, builtin, Sem.run_bind, Sem.run_pure, Result.andThen_ok, List.map_toArray, List.map_cons, List.map_nil, hs, hx, hr]
  exact h a' cp' w' h2 h3 h4
theorem wp_wappend {ops : Array Oper} {rest : List Oper} {o : Oper} {a : Act} {Q : Exit → Act → World → Prop} {w : World} (hgd : o.guard = none) (s x : Operand)
    (ho : o.op = .call { callee := .builtin .append, args := #[s, x], argTypes := #[22, 22] }) {B m c : Nat} {v : Value} {q l : List WV} {ad : Option Addr} (hs : a.eval s = v) (hx : a.eval x = .slice ad m c)
    (hown : OwnW w B v q) (hB : B ≤ w.heap.size) (hv : WView w ad l) (hl : l.length = m) (hsm : q.length + m ≤ 2000000) (hn : ad = none → m = 0) (N : Nat) (hN : q.length + m = N)
    (h : ∀ a' cp' w', OwnW w' B (.slice a' N cp') (q ++ l) → w.grownBy w' v.ownBlock → (∀ k, (Value.slice a' N cp').ownBlock = some k → v.ownBlock = some k ∨ w.heap.size ≤ k) → wpList Tryz.prog ops Q rest (a.put o.dst (.slice a' N cp')) w') : wpList Tryz.prog ops Q (o :: rest) a w :=
  wpList_step fun _ hK => step_wappend hgd s x ho hs hx hown hB hv hl hsm hn N hN (fun a' cp' w' o' g' l' => hK _ _ (h a' cp' w' o' g' l'))

/-! ### rows of numbers of one's own -/
theorem wat_new (w : World) (x : WV) (T : TypeId) : WAt (w.alloc (.cells #[.int .i64 x.at_, .int .i64 x.ln, .string x.tx] T)) w.heap.size 0 x :=
  ⟨by rw [World.cell?_alloc_new]; rfl, by rw [World.cell?_alloc_new]; rfl, by rw [World.cell?_alloc_new]; rfl⟩
end Go.Proofs.YtlpffgmfgkleiaaGreatDoor

/-
  Rows of rows of words.
-/
namespace Go.Proofs.YtlpffgmfgkleiaaGreatDoor
open Go.RowKit Go.Maps

abbrev RTy : TypeId := 22
def OwnR (w : World) (B : Nat) (v : Value) (cs : List Value) : Prop := w.ownsRow B RTy 1 v cs.length cs
theorem OwnR.nil (w : World) (B : Nat) : OwnR w B (.slice none 0 0) [] := World.ownsRow_nil _ _ _ _
theorem OwnR.below {w w' : World} {B : Nat} {v : Value} {l : List Value} (h : OwnR w B v l) (hb : Below w.heap.size w w') : OwnR w' B v l := by
  rcases h with ⟨h0, h | ⟨g, cap, cur, rfl, hB, h3, r⟩⟩
  · exact ⟨h0, .inl h⟩
  · exact ⟨h0, .inr ⟨g, cap, cur, rfl, hB, kept_obj hb h3, r⟩⟩
theorem OwnR.new {w : World} {B : Nat} {v : Value} {l : List Value} (h : OwnR w B v l) {k : Nat} (hk : v.ownBlock = some k) : B ≤ k ∧ k < w.heap.size := World.ownsRow.lt h k hk
theorem OwnR.slice {w : World} {B : Nat} {v : Value} {l : List Value} (h : OwnR w B v l) : ∃ a cap, v = .slice a l.length cap ∧ l.length ≤ cap ∧ (cap : Int) ≤ 9223372036854775807 ∧ ∀ (j : Nat) (u : Value), l[j]? = some u → ∃ g, a = some ⟨g, 0, none⟩ ∧ w.cell? ⟨g, j, none⟩ = some u ∧ w.frozen? ⟨g, j, none⟩ = false := by
  rcases h.2 with ⟨rfl, h0⟩ | ⟨g, cap, cur, rfl, _, h3, h1, h2, h4, h5⟩
  · refine ⟨none, 0, by rw [h0], by omega, by omega, fun j u hj => ?_⟩
    rw [List.length_eq_zero_iff.1 h0] at hj; simp at hj
  · refine ⟨_, cap, rfl, h1, by unfold maxLen at h2; omega, fun j u hj => ⟨g, rfl, ?_, blk_free h3 _⟩⟩
    rw [blk_cell h3]
    rw [← h5, List.getElem?_take] at hj
    split at hj
    · simpa using hj
    · cases hj
/-- Its block, by its type. -/
theorem OwnR.blk {w : World} {B : Nat} {v : Value} {l : List Value} (h : OwnR w B v l) {k : Nat} (hk : v.ownBlock = some k) : ∃ cs, w.heap[k]? = some (.cells cs RTy (0, 0)) := by
  rcases h.2 with ⟨rfl, h0⟩ | ⟨g, cap, cur, rfl, _, h3, _⟩
  · simp [Value.ownBlock] at hk
  · simp [Value.ownBlock] at hk; subst hk; exact ⟨cur, h3⟩
theorem OwnW.blk {w : World} {B : Nat} {v : Value} {l : List WV} (h : OwnW w B v l) {k : Nat} (hk : v.ownBlock = some k) : ∃ cs, w.heap[k]? = some (.cells cs WT (0, 0)) := by
  rcases h.2 with ⟨rfl, h0⟩ | ⟨g, cap, cur, rfl, _, h3, _⟩
  · simp [Value.ownBlock] at hk
  · simp [Value.ownBlock] at hk; subst hk; exact ⟨cur, h3⟩
theorem rw_apart {w : World} {B B' : Nat} {u v : Value} {l : List WV} {cs : List Value} (h : OwnW w B u l) (r : OwnR w B' v cs) {k : Nat} (hu : u.ownBlock = some k) : v.ownBlock ≠ some k := by
  intro hv
  obtain ⟨c1, h1⟩ := h.blk hu
  obtain ⟨c2, h2⟩ := r.blk hv
  rw [h1] at h2
  simp only [Option.some.injEq, Obj.cells.injEq] at h2
  exact absurd h2.2.1 (by decide)
theorem OwnW.grown {w w' : World} {B : Nat} {v : Value} {l : List WV} {o : Option Nat} (h : OwnW w B v l) (hg : w.grownBy w' o) (hne : ∀ k, v.ownBlock = some k → o ≠ some k) : OwnW w' B v l := by
  rcases h with ⟨h0, h | ⟨g, cap, cur, rfl, hB, h3, r⟩⟩
  · exact ⟨h0, .inl h⟩
  · exact ⟨h0, .inr ⟨g, cap, cur, rfl, hB, (hg.block g (lt_of_block h3) (fun e => hne g rfl e.symm)).trans h3, r⟩⟩
theorem OwnR.grown {w w' : World} {B : Nat} {v : Value} {l : List Value} {o : Option Nat} (h : OwnR w B v l) (hg : w.grownBy w' o) (hne : ∀ k, v.ownBlock = some k → o ≠ some k) : OwnR w' B v l := by
  rcases h with ⟨h0, h | ⟨g, cap, cur, rfl, hB, h3, r⟩⟩
  · exact ⟨h0, .inl h⟩
  · exact ⟨h0, .inr ⟨g, cap, cur, rfl, hB, (hg.block g (lt_of_block h3) (fun e => hne g rfl e.symm)).trans h3, r⟩⟩
theorem OwnR.set {w : World} {B n c g : Nat} {cs : List Value} (h : OwnR w B (.slice (some ⟨g, 0, none⟩) n c) cs) {k : Nat} (u : Value) : OwnR (w.setCell ⟨g, k, none⟩ u) B (.slice (some ⟨g, 0, none⟩) n c) (cs.set k u) ∧ B ≤ g := by
  rcases h with ⟨h0, h | ⟨g', cap, cur, e, hb, h3, h1, h2, h4, h5⟩⟩
  · cases h.1
  · cases e
    refine ⟨⟨by rw [List.length_set]; omega, .inr ⟨g, c, cur.setIfInBounds k u, by rw [List.length_set], hb, blk_set h3 _, by rw [List.length_set]; exact h1, h2, by simp [h4], ?_⟩⟩, hb⟩
    rw [List.length_set, Array.toList_setIfInBounds, List.take_set, h5]

/-- A row of rows: what each holds; no two in one block. -/
structure Rows (w : World) (B : Nat) (v : Value) (cs : List Value) (G : List (List WV)) : Prop where
  own : OwnR w B v cs
  len : cs.length = G.length
  each : ∀ (j : Nat) (x : List WV), G[j]? = some x → ∃ a c, cs[j]? = some (.slice a x.length c) ∧ OwnW w B (.slice a x.length c) x
  apart : ∀ (i j : Nat) (u z : Value) (k : Nat), i < j → cs[i]? = some u → cs[j]? = some z → u.ownBlock = some k → z.ownBlock ≠ some k
theorem Rows.nil (w : World) (B : Nat) : Rows w B (.slice none 0 0) [] [] := ⟨OwnR.nil _ _, rfl, fun j x h => by simp at h, fun i j u z k _ h => by simp at h⟩
theorem Rows.below {w w' : World} {B : Nat} {v : Value} {cs : List Value} {G : List (List WV)} (h : Rows w B v cs G) (hb : Below w.heap.size w w') : Rows w' B v cs G :=
  ⟨h.own.below hb, h.len, fun j x hx => by
    obtain ⟨a, c, h1, h2⟩ := h.each j x hx
    exact ⟨a, c, h1, h2.below hb⟩, h.apart⟩
/-- A row of none is added. -/
theorem Rows.more {w w' : World} {B : Nat} {v v' : Value} {cs : List Value} {G : List (List WV)} (h : Rows w B v cs G) (ho : OwnR w' B v' (cs ++ [.slice none 0 0])) (hg : w.grownBy w' v.ownBlock) : Rows w' B v' (cs ++ [.slice none 0 0]) (G ++ [[]]) := by
  refine ⟨ho, by simp [h.len], fun j x hx => ?_, fun i j u z k hij hu hz hk => ?_⟩
  · rcases Nat.lt_or_ge j G.length with q | q
    · rw [List.getElem?_append_left q] at hx
      obtain ⟨a, c, h1, h2⟩ := h.each j x hx
      exact ⟨a, c, by rw [List.getElem?_append_left (by rw [h.len]; exact q)]; exact h1, h2.grown hg (fun k hk => rw_apart h2 h.own hk)⟩
    · have hj : j = G.length := by have := (List.getElem?_eq_some_iff.1 hx).1; simp at this; omega
      subst hj
      simp at hx; subst hx
      exact ⟨none, 0, by rw [← h.len]; simp, OwnW.nil _ _⟩
  · have hjl := (List.getElem?_eq_some_iff.1 hz).1
    simp at hjl
    rw [List.getElem?_append_left (by omega)] at hu
    rcases Nat.lt_or_ge j cs.length with q | q
    · rw [List.getElem?_append_left q] at hz
      exact h.apart i j u z k hij hu hz hk
    · have hj : j = cs.length := by omega
      subst hj
      simp at hz; subst hz
      simp [Value.ownBlock]
/-- The last row grows, and is stored. -/
theorem Rows.grow {w w' : World} {B g n c : Nat} {cs : List Value} {u u' : Value} {G : List (List WV)} {x y : List WV} (h : Rows w B (.slice (some ⟨g, 0, none⟩) n c) (cs ++ [u]) (G ++ [x])) (hy : y.length = x.length + 1) (ho : OwnW w' B u' y) (hu' : ∃ a d, u' = .slice a y.length d) (hg : w.grownBy w' u.ownBlock) (hn : ∀ k, u'.ownBlock = some k → u.ownBlock = some k ∨ w.heap.size ≤ k) :
    Rows (w'.setCell ⟨g, G.length, none⟩ u') B (.slice (some ⟨g, 0, none⟩) n c) (cs ++ [u']) (G ++ [y]) ∧ B ≤ g := by
  have hcl : cs.length = G.length := by have := h.len; simpa using this
  obtain ⟨au, du, hu1, hu2⟩ := h.each G.length x (by simp)
  rw [← hcl] at hu1
  simp only [List.getElem?_concat_length, Option.some.injEq] at hu1
  have hou : OwnW w B u x := by rw [hu1]; exact hu2
  have hr : OwnR w' B (.slice (some ⟨g, 0, none⟩) n c) (cs ++ [u]) := h.own.grown hg (fun k hk e => rw_apart hou h.own e hk)
  obtain ⟨hs, hB⟩ := hr.set (k := G.length) u'
  have hset : (cs ++ [u]).set G.length u' = cs ++ [u'] := by rw [← hcl]; simp
  rw [hset] at hs
  refine ⟨⟨hs, by simp [hcl], fun j z hz => ?_, fun i j a z k hij ha hz hk => ?_⟩, hB⟩
  · rcases Nat.lt_or_ge j G.length with q | q
    · rw [List.getElem?_append_left q] at hz
      obtain ⟨a, d, h1, h2⟩ := h.each j z (by rw [List.getElem?_append_left q]; exact hz)
      have h1' := h1
      rw [List.getElem?_append_left (by omega)] at h1
      refine ⟨a, d, by rw [List.getElem?_append_left (by omega)]; exact h1, ?_⟩
      have h3 : OwnW w' B (.slice a z.length d) z := h2.grown hg (fun k hk => h.apart j G.length _ u k q h1' (by rw [← hcl]; simp) hk)
      exact ownsRow_setCell_other h3 (a := ⟨g, G.length, none⟩) (fun e => rw_apart h3 hr e rfl) _
    · have hj : j = G.length := by have := (List.getElem?_eq_some_iff.1 hz).1; simp at this; omega
      subst hj
      simp at hz; subst hz
      obtain ⟨a, d, rfl⟩ := hu'
      exact ⟨a, d, by rw [← hcl]; simp, ownsRow_setCell_other ho (a := ⟨g, G.length, none⟩) (fun e => rw_apart ho hr e rfl) _⟩
  · have hjl := (List.getElem?_eq_some_iff.1 hz).1
    simp at hjl
    rw [List.getElem?_append_left (by omega)] at ha
    have ha' : (cs ++ [u])[i]? = some a := by rw [List.getElem?_append_left (by omega)]; exact ha
    rcases Nat.lt_or_ge j cs.length with q | q
    · rw [List.getElem?_append_left q] at hz
      exact h.apart i j a z k hij ha' (by rw [List.getElem?_append_left q]; exact hz) hk
    · have hj : j = cs.length := by omega
      subst hj
      simp at hz; subst hz
      intro e
      obtain ⟨p, hp⟩ : ∃ p, (G ++ [x])[i]? = some p := nth_of rfl (by simp; omega)
      obtain ⟨a1, d1, e1, e2⟩ := h.each i p hp
      rw [ha'] at e1; cases e1
      rcases hn k e with q | q
      · exact h.apart i cs.length _ u k hij ha' (by simp) hk q
      · have := (e2.new hk).2; omega
theorem infoRow : (Tryz.prog.info? RTy).map (fun i => (i.zero, i.size, i.bytes)) = some (some (.slice none 0 0), 1, 24) := by kernel_rfl
theorem rinfoParts : ∃ i, Tryz.prog.info? RTy = some i ∧ i.zero = some (.slice none 0 0) ∧ i.size = 1 ∧ i.bytes = 24 := by
  obtain ⟨i, h1, h2⟩ := Option.map_eq_some_iff.1 infoRow
  simp only [Prod.mk.injEq] at h2
  exact ⟨i, h1, h2.1, h2.2.1, h2.2.2⟩
/-- One more row, out of a block of one cell. -/
theorem append_row {w : World} {B g d : Nat} {v u : Value} {q : List Value} (h : OwnR w B v q) (hB : B ≤ w.heap.size) (hu : w.cell? ⟨g, 0, none⟩ = some u) (ho : u.oneCell' = true) (hs : q.length + 1 ≤ 2000000) (ty : TypeId) :
    ∃ v' w', (Builtin.append_ #[115, 115] ty #[v, .slice (some ⟨g, 0, none⟩) 1 d]).run Tryz.prog w = .ok v' w' ∧ OwnR w' B v' (q ++ [u]) ∧ w.grownBy w' v.ownBlock ∧ ∀ k, v'.ownBlock = some k → v.ownBlock = some k ∨ w.heap.size ≤ k := by
  obtain ⟨i0, hi, hz0, hz1, hz2⟩ := rinfoParts
  obtain ⟨v', w', h1, h2, h3, _, h5⟩ := run_append_own_at (P := Tryz.prog) w B 115 ty RTy i0 _ 1 24 Tryz.underlying115 hi hz0 hz1 hz2 rfl (by decide) v q.length q h ⟨g, 0, none⟩ 1 d [u] rfl (fun j z hj => by
    match j, hj with
    | 0, hj => simp at hj; subst hj; rw [addr_at]; exact hu
    | j + 1, hj => simp at hj) (fun z hz => by simp at hz; subst hz; exact ho) (by unfold maxLen; omega) (by omega) hB
  refine ⟨v', w', h1, ?_, h3, fun k hk => ?_⟩
  · unfold OwnR
    rw [List.length_append]
    exact h2
  · rcases h5 with z | z
    · left; rw [← z]; exact hk
    · right; rw [z] at hk; cases hk; exact Nat.le_refl _
theorem wp_rappend {ops : Array Oper} {rest : List Oper} {o : Oper} {a : Act} {Q : Exit → Act → World → Prop} {w : World} (hgd : o.guard = none) (s x : Operand)
    (ho : o.op = .call { callee := .builtin .append, args := #[s, x], argTypes := #[115, 115] }) {B g d : Nat} {v u : Value} {q : List Value} (hs : a.eval s = v) (hx : a.eval x = .slice (some ⟨g, 0, none⟩) 1 d)
    (hown : OwnR w B v q) (hB : B ≤ w.heap.size) (hu : w.cell? ⟨g, 0, none⟩ = some u) (h1 : u.oneCell' = true) (hsm : q.length + 1 ≤ 2000000) (N : Nat) (hN : q.length + 1 = N)
    (h : ∀ a' cp' w', OwnR w' B (.slice a' N cp') (q ++ [u]) → w.grownBy w' v.ownBlock → (∀ k, (Value.slice a' N cp').ownBlock = some k → v.ownBlock = some k ∨ w.heap.size ≤ k) → wpList Tryz.prog ops Q rest (a.put o.dst (.slice a' N cp')) w') : wpList Tryz.prog ops Q (o :: rest) a w :=
  wpList_step fun _ hK => by
    have hw : Region.wanted o (yielded ops a.tmps) = true := by simp [Region.wanted, hgd]
    rw [if_pos hw]
    obtain ⟨v', w', hr, h2, h3, h4⟩ := append_row (d := d) hown hB hu h1 hsm o.type
    obtain ⟨a', cp', hv', _⟩ := h2.slice
    rw [List.length_append, List.length_singleton, hN] at hv'
    subst hv'
    unfold Oper.wp execOp
    simp only [ho, resolve, invoke, builtin, Sem.run_bind, Sem.run_pure, Result.andThen_ok, List.map_toArray, List.map_cons, List.map_nil, hs, hx, hr]
    exact hK _ _ (h a' cp' w' h2 h3 h4)
end Go.Proofs.YtlpffgmfgkleiaaGreatDoor

/-
  Words and numbers of a text, in plain words: what the document's answer is at each place.
-/
namespace Go.Proofs.YtlpffgmfgkleiaaGreatDoor
open Go.RowKit Go.Maps

/-- The byte at a place; at the text's end a line's end. -/
def byteAt (s : ByteArray) (i : Nat) : Nat := match s[i]? with
  | some c => c.toNat
  | none => 10
theorem byteAt_end (s : ByteArray) {i : Nat} (h : s.size ≤ i) : byteAt s i = 10 := by
  unfold byteAt
  rw [getElem?_neg s i (by omega)]
theorem byteAt_in (s : ByteArray) {i : Nat} (h : i < s.size) : s[i]? = some s[i] ∧ byteAt s i = s[i].toNat := by
  unfold byteAt
  rw [getElem?_pos s i h]
  exact ⟨rfl, rfl⟩
/-- How far the document's answer has come: the words, the line, where a word has begun (or -1), whether a note runs. -/
structure LS where
  out : List WV
  ln : Int
  fr : Int
  off : Bool
def wstep (s : ByteArray) (i : Nat) (q : LS) : LS :=
  let c := byteAt s i
  let off1 := q.off || decide (c = 35)
  if c = 10 ∨ off1 = true ∨ c = 32 ∨ c = 9 then
    ⟨if q.fr < 0 then q.out else q.out ++ [⟨q.fr, q.ln, s.extract q.fr.toNat i⟩], if c = 10 then q.ln + 1 else q.ln, -1, if c = 10 then false else off1⟩
  else ⟨q.out, q.ln, if q.fr < 0 then (i : Int) else q.fr, q.off⟩
def wrun (s : ByteArray) : Nat → LS
  | 0 => ⟨[], 1, -1, false⟩
  | i + 1 => wstep s i (wrun s i)
/-- The words of a text. -/
def wordsOf (s : ByteArray) : List WV := (wrun s (s.size + 1)).out
/-- What holds at each place. -/
theorem wrun_inv (s : ByteArray) : ∀ i, i ≤ s.size + 1 → (wrun s i).out.length ≤ i ∧ 1 ≤ (wrun s i).ln ∧ (wrun s i).ln ≤ (i : Int) + 1 ∧ -1 ≤ (wrun s i).fr ∧ (wrun s i).fr < i
  | 0, _ => by simp [wrun]
  | i + 1, h => by
    have ih := wrun_inv s i (by omega)
    rw [wrun]
    generalize wrun s i = q at ih ⊢
    obtain ⟨h1, h2, h3, h4, h5⟩ := ih
    unfold wstep
    simp only []
    split
    · refine ⟨?_, ?_, ?_, ?_, ?_⟩
      · split
        · simp only []; omega
        · simp only [List.length_append, List.length_singleton]; omega
      · simp only []; split <;> omega
      · simp only []; split <;> omega
      · simp only []; omega
      · simp only []; omega
    · refine ⟨?_, ?_, ?_, ?_, ?_⟩
      · simp only []; omega
      · simp only []; omega
      · simp only []; omega
      · simp only []; split <;> omega
      · simp only []; split <;> omega
end Go.Proofs.YtlpffgmfgkleiaaGreatDoor

/-
  The walk over the document's words of a text.
-/
namespace Go.Proofs.YtlpffgmfgkleiaaGreatDoor
open Go.RowKit Go.Maps

/-- A row of words of one's own that comes back. -/
def WordsBack (l : List WV) (w : World) (e : Ending) (w' : World) : Prop :=
  ∃ (a : Option Addr) (c : Nat), e = .returned (.slice a l.length c) ∧ OwnW w' w.heap.size (.slice a l.length c) l ∧ Below w.heap.size w w'
theorem wstep_go (s : ByteArray) (i : Nat) (q : LS) {c : Nat} (hc : byteAt s i = c) {O K : Bool} (hO : (q.off || decide (c = 35)) = O) (hK : decide (c = 10 ∨ O = true ∨ c = 32 ∨ c = 9) = K) :
    wstep s i q = if K = true then ⟨if q.fr < 0 then q.out else q.out ++ [⟨q.fr, q.ln, s.extract q.fr.toNat i⟩], if c = 10 then q.ln + 1 else q.ln, -1, if c = 10 then false else O⟩ else ⟨q.out, q.ln, if q.fr < 0 then (i : Int) else q.fr, q.off⟩ := by
  subst hc hO hK
  unfold wstep
  simp only [decide_eq_true_eq]
theorem grown_wnew {W w3 w4 : World} {B : Nat} {v : Value} {l : List WV} (hb : Below B W w3) (ho : OwnW w3 B v l) (hB : B ≤ w3.heap.size) (hg : w3.grownBy w4 v.ownBlock) : Below B W w4 :=
  hb.grown hg hB (fun k hk => (ho.new hk).1)

set_option maxRecDepth 100000 in
set_option maxHeartbeats 4000000 in
theorem rwords_any (s : ByteArray) (hs : s.size ≤ 1050000) (w : World) : Calls Tryz.prog 10 #[.string s] w (WordsBack (wordsOf s) w) := by
  go_enter Tryz.func10, Tryz.ntmps10
  go_wp2_with fail
  go_loopw [3, 4, 5, 6, 7] (fun v l f o u wr => ∃ (i m : Nat) (a' : Option Addr) (cp' : Nat) (q : LS), i ≤ s.size + 1 ∧ m ≤ i ∧ 1 ≤ q.ln ∧ q.ln ≤ (i : Int) + 1 ∧ -1 ≤ q.fr ∧ q.fr < i ∧ u = .int .i64 i ∧ o = .bool q.off ∧ f = .int .i64 q.fr ∧ l = .int .i64 q.ln ∧ v = .slice a' m cp' ∧ Hid (q.out.length = m) ∧ Hid (wrun s i = q) ∧ Hid (Below w.heap.size w wr) ∧ Hid (OwnW wr w.heap.size (.slice a' m cp') q.out)) (fun _ _ _ _ u _ => (s.size + 1 - intOf u).toNat)
  case atStart => exact ⟨0, 0, _, _, ⟨[], 1, -1, false⟩, by omega, by omega, by simp, by simp, by simp, by simp, rfl, rfl, rfl, rfl, rfl, rfl, rfl, Below.refl _ _, OwnW.nil _ _⟩
  case round =>
    obtain ⟨i, m, a', cp', q, hi, hm, hl1, hl2, hf1, hf2, rfl, rfl, rfl, rfl, rfl, HQL, HQ, HB, HP⟩ := hrel
    by_cases hlt : i ≤ s.size
    · have hk1 : (i : Int) ≤ (s.size : Int) := by omega
      have hk0 : (0 : Int) ≤ (i : Int) := by omega
      obtain ⟨c, hc⟩ : ∃ c, byteAt s i = c := ⟨_, rfl⟩
      obtain ⟨E, hE⟩ : ∃ E, decide (c = 10) = E := ⟨_, rfl⟩
      obtain ⟨N, hN⟩ : ∃ N, decide (c = 35) = N := ⟨_, rfl⟩
      obtain ⟨O, hO⟩ : ∃ O, (q.off || decide (c = 35)) = O := ⟨_, rfl⟩
      obtain ⟨K, hK⟩ : ∃ K, decide (c = 10 ∨ O = true ∨ c = 32 ∨ c = 9) = K := ⟨_, rfl⟩
      have HST := Lib.hid (wstep_go s i q hc hO hK)
      have HC := Lib.hid hc
      have HE := Lib.hid hE
      have HO : Hid ((q.off || N) = O) := by show _ = _; rw [← hN]; exact hO
      have HNN := Lib.hid hN
      have HK := Lib.hid hK
      have HIN : Hid (∀ h : i < s.size, s[i].toNat = c) := fun h => by
        rw [← hc]; exact (byteAt_in s h).2.symm
      have HIE : Hid (¬ i < s.size → c = 10) := fun h => by rw [← hc]; exact byteAt_end s (by omega)
      clear hc hE hO hK hN
      go_upto_region 8 with fail
      go_cut [8] from 15 to 24 (fun u wx => u = .bool E ∧ Hid (Below w.heap.size w wx) ∧ Hid (OwnW wx w.heap.size (.slice a' m cp') q.out))
      case first =>
        cases E with
        | true =>
          have hc10 : c = 10 := by have := HE.out; simpa using this
          by_cases hin : i < s.size
          · have d1 : ((i : Int) == (s.size : Int)) = false := by rw [beq_eq_false_iff_ne]; omega
            have d2 : ((s[i].toNat : Int) == 10) = true := by rw [beq_iff_eq, HIN.out hin]; omega
            clear hc10
            go_wp2_with fail
            go_meet
            exact ⟨rfl, HB, HP⟩
          · have d1 : ((i : Int) == (s.size : Int)) = true := by rw [beq_iff_eq]; omega
            clear hin hc10
            go_wp2_with fail
            go_meet
            exact ⟨rfl, HB, HP⟩
        | false =>
          have hc10 : ¬ c = 10 := by have := HE.out; simpa using this
          have hin : i < s.size := Decidable.byContradiction fun h => hc10 (HIE.out h)
          have d1 : ((i : Int) == (s.size : Int)) = false := by rw [beq_eq_false_iff_ne]; omega
          have d2 : ((s[i].toNat : Int) == 10) = false := by rw [beq_eq_false_iff_ne, HIN.out hin]; omega
          clear hc10
          go_wp2_with fail
          go_meet
          exact ⟨rfl, HB, HP⟩
      case rest =>
        clear HB HP
        obtain ⟨rfl, HB, HP⟩ := hcut
        go_upto_region 9 with fail
        go_cut [32] from 25 to 32 (fun u wx => u = .bool N ∧ Hid (Below w.heap.size w wx) ∧ Hid (OwnW wx w.heap.size (.slice a' m cp') q.out))
        case first =>
          cases E with
          | true =>
            have HH35 : Hid (decide (c = 35) = false) := by show _ = _; have := HE.out; simp at this; exact decide_eq_false (by omega)
            go_wp2_with fail
            go_meet
            exact ⟨by rw [← HNN.out, HH35.out], HB, HP⟩
          | false =>
            have hc10 : ¬ c = 10 := by have := HE.out; simpa using this
            have hin : i < s.size := Decidable.byContradiction fun h => hc10 (HIE.out h)
            by_cases h35 : c = 35
            · have d2 : ((s[i].toNat : Int) == 35) = true := by rw [beq_iff_eq, HIN.out hin]; omega
              have H35 := Lib.hid (decide_eq_true h35)
              clear hc10 h35
              go_wp2_with fail
              go_meet
              exact ⟨by rw [← HNN.out, H35.out], HB, HP⟩
            · have d2 : ((s[i].toNat : Int) == 35) = false := by rw [beq_eq_false_iff_ne, HIN.out hin]; omega
              have H35 := Lib.hid (decide_eq_false h35)
              clear hc10 h35
              go_wp2_with fail
              go_meet
              exact ⟨by rw [← HNN.out, H35.out], HB, HP⟩
        case rest =>
          clear HB HP
          obtain ⟨rfl, HB, HP⟩ := hcut
          go_upto_if 32 with fail
          go_cut [6] from 33 to 33 (fun u wx => u = .bool O ∧ Hid (Below w.heap.size w wx) ∧ Hid (OwnW wx w.heap.size (.slice a' m cp') q.out))
          case first =>
            cases N with
            | true =>
              have HOO : Hid (O = true) := by show _ = _; rw [← HO.out, Bool.or_true]
              go_wp2_with fail
              go_meet
              exact ⟨by rw [HOO.out], HB, HP⟩
            | false =>
              have HOO : Hid (O = q.off) := by show _ = _; rw [← HO.out, Bool.or_false]
              go_wp2_with fail
              go_meet
              exact ⟨by rw [HOO.out], HB, HP⟩
          case rest =>
            clear HB HP
            obtain ⟨rfl, HB, HP⟩ := hcut
            go_upto_region 11 with fail
            go_cut [48] from 33 to 48 (fun u wx => u = .bool K ∧ Hid (Below w.heap.size w wx) ∧ Hid (OwnW wx w.heap.size (.slice a' m cp') q.out))
            case first =>
              cases E with
              | true =>
                have HKK : Hid (K = true) := by
                  show _ = _; rw [← HK.out]
                  have := HE.out; simp at this
                  exact decide_eq_true (.inl this)
                go_wp2_with fail
                go_meet
                exact ⟨by rw [HKK.out], HB, HP⟩
              | false =>
                have hc10 : ¬ c = 10 := by have := HE.out; simpa using this
                have hin : i < s.size := Decidable.byContradiction fun h => hc10 (HIE.out h)
                cases O with
                | true =>
                  have HKK : Hid (K = true) := by
                    show _ = _; rw [← HK.out]; exact decide_eq_true (.inr (.inl rfl))
                  clear hc10
                  go_wp2_with fail
                  go_meet
                  exact ⟨by rw [HKK.out], HB, HP⟩
                | false =>
                  by_cases h32 : c = 32
                  · have d2 : ((s[i].toNat : Int) == 32) = true := by rw [beq_iff_eq, HIN.out hin]; omega
                    have HKK : Hid (K = true) := by
                      show _ = _; rw [← HK.out]; exact decide_eq_true (.inr (.inr (.inl h32)))
                    clear hc10 h32
                    go_wp2_with fail
                    go_meet
                    exact ⟨by rw [HKK.out], HB, HP⟩
                  · have d2 : ((s[i].toNat : Int) == 32) = false := by rw [beq_eq_false_iff_ne, HIN.out hin]; omega
                    by_cases h9 : c = 9
                    · have d3 : ((s[i].toNat : Int) == 9) = true := by rw [beq_iff_eq, HIN.out hin]; omega
                      have HKK : Hid (K = true) := by
                        show _ = _; rw [← HK.out]; exact decide_eq_true (.inr (.inr (.inr h9)))
                      clear hc10 h32 h9
                      go_wp2_with fail
                      go_meet
                      exact ⟨by rw [HKK.out], HB, HP⟩
                    · have d3 : ((s[i].toNat : Int) == 9) = false := by rw [beq_eq_false_iff_ne, HIN.out hin]; omega
                      have HKK : Hid (K = false) := by
                        show _ = _; rw [← HK.out]; exact decide_eq_false (by rintro (q | q | q | q) <;> first | exact hc10 q | exact h32 q | exact h9 q | cases q)
                      clear hc10 h32 h9
                      go_wp2_with fail
                      go_meet
                      exact ⟨by rw [HKK.out], HB, HP⟩
            case rest =>
              clear HB HP
              obtain ⟨rfl, HB, HP⟩ := hcut
              cases K with
              | true =>
                obtain ⟨F, hF⟩ : ∃ F, decide (0 ≤ q.fr) = F := ⟨_, rfl⟩
                go_upto_if 50 with fail
                have HF := Lib.hid hF
                clear hF
                obtain ⟨out', ho'⟩ : ∃ o, (if q.fr < 0 then q.out else q.out ++ [(⟨q.fr, q.ln, s.extract q.fr.toNat i⟩ : WV)]) = o := ⟨_, rfl⟩
                have HOUT := Lib.hid ho'
                clear ho'
                go_cut [3] from 51 to 60 (fun u wx => ∃ (m2 : Nat) (a2 : Option Addr) (c2 : Nat), u = .slice a2 m2 c2 ∧ m2 ≤ i + 1 ∧ Hid (out'.length = m2) ∧ Hid (Below w.heap.size w wx) ∧ Hid (OwnW wx w.heap.size (.slice a2 m2 c2) out'))
                case first =>
                  cases F with
                  | false =>
                    have hf : q.fr < 0 := by have := HF.out; simp at this; exact this
                    have ho := HOUT.out
                    rw [if_pos hf] at ho
                    subst ho
                    clear HOUT
                    go_wp2_with fail
                    go_meet
                    exact ⟨m, a', cp', rfl, by omega, HQL, HB, HP⟩
                  | true =>
                    have hf9 : 0 ≤ q.fr := by have := HF.out; simpa using this
                    have hf : ¬ q.fr < 0 := by omega
                    have hf8 : q.fr ≤ (i : Int) := by omega
                    have ho := HOUT.out
                    rw [if_neg hf] at ho
                    have HOO := Lib.hid ho
                    have HSM : Hid (q.out.length + 1 ≤ 2000000) := by show _ ≤ _; rw [HQL.out]; omega
                    have HNL : Hid (q.out.length + 1 = m + 1) := by show _ = _; rw [HQL.out]
                    have HL2 : Hid (out'.length = m + 1) := by show _ = _; rw [← ho, List.length_append, HQL.out]; rfl
                    clear HOUT ho hf
                    go_wp2_with (at_builtin; refine wp_wappend (m := 1) (l := [(⟨q.fr, q.ln, s.extract q.fr.toNat i⟩ : WV)]) rfl _ _ rfl rfl rfl (HP.out.below (by repeat (first | exact Below.refl _ _ | (with_reducible assumption) | refine bw_alloc ?_ _ | refine bw_drew ?_))) (Nat.le_trans HB.out.size ((by repeat (first | exact Below.refl _ _ | (with_reducible assumption) | refine bw_alloc ?_ _ | refine bw_drew ?_)) : Below wc.heap.size wc _).size) (WView.of_at (wat_new _ ⟨q.fr, q.ln, s.extract q.fr.toNat i⟩ _)) rfl HSM.out (fun z => by cases z) (m + 1) HNL.out ?_; intro a3 k3 w3 o3 g3 l3; have HN3 := Lib.hid (HOO.out ▸ o3); have HB3 := Lib.hid (grown_wnew (below_up HB.out ((by repeat (first | exact Below.refl _ _ | (with_reducible assumption) | refine bw_alloc ?_ _ | refine bw_drew ?_)) : Below wc.heap.size wc _)) (HP.out.below ((by repeat (first | exact Below.refl _ _ | (with_reducible assumption) | refine bw_alloc ?_ _ | refine bw_drew ?_)) : Below wc.heap.size wc _)) (Nat.le_trans HB.out.size ((by repeat (first | exact Below.refl _ _ | (with_reducible assumption) | refine bw_alloc ?_ _ | refine bw_drew ?_)) : Below wc.heap.size wc _).size) g3); clear o3 g3 l3)
                    go_meet
                    exact ⟨m + 1, a3, k3, rfl, by omega, HL2, HB3, HN3⟩
                case rest =>
                  clear HB HP HQL
                  obtain ⟨m2, a2, c2, rfl, hm2, HQL, HB, HP⟩ := hcut
                  have hw1 : IntKind.i64.wrap (q.ln + 1) = q.ln + 1 := IntWalk.i64_in _ (by omega)
                  have hwi : IntKind.i64.wrap ((i : Int) + 1) = (i : Int) + 1 := IntWalk.i64_in _ (by omega)
                  cases E with
                  | true =>
                    have HS2 : Hid (wrun s (i + 1) = ⟨out', q.ln + 1, -1, false⟩) := by
                      have h10 : c = 10 := by have := HE.out; simpa using this
                      show _ = _
                      rw [wrun, HQ.out, HST.out, if_pos rfl, HOUT.out, if_pos h10, if_pos h10]
                    go_wp2_with fail
                    go_roundw
                    case rel => exact ⟨i + 1, m2, a2, c2, ⟨out', q.ln + 1, -1, false⟩, by omega, by omega, by simp only []; omega, by simp only []; omega, by simp only []; omega, by simp only []; omega, by go_num, rfl, rfl, rfl, rfl, HQL, HS2, HB, HP⟩
                    case measure => simp [intOf]; omega
                  | false =>
                    have HS2 : Hid (wrun s (i + 1) = ⟨out', q.ln, -1, O⟩) := by
                      have h10 : ¬ c = 10 := by have := HE.out; simpa using this
                      show _ = _
                      rw [wrun, HQ.out, HST.out, if_pos rfl, HOUT.out, if_neg h10, if_neg h10]
                    go_wp2_with fail
                    go_roundw
                    case rel => exact ⟨i + 1, m2, a2, c2, ⟨out', q.ln, -1, O⟩, by omega, by omega, by simp only []; omega, by simp only []; omega, by simp only []; omega, by simp only []; omega, by go_num, rfl, rfl, rfl, rfl, HQL, HS2, HB, HP⟩
                    case measure => simp [intOf]; omega
              | false =>
                have HEF : Hid (E = false ∧ O = false) := by
                  have h := HK.out
                  rw [decide_eq_false_iff_not] at h
                  have h1 : ¬ c = 10 := fun z => h (.inl z)
                  have h2 : ¬ O = true := fun z => h (.inr (.inl z))
                  exact ⟨by rw [← HE.out]; exact decide_eq_false h1, by simpa using h2⟩
                obtain ⟨rfl, rfl⟩ := HEF.out
                have HOF : Hid (q.off = false) := by
                  have := HO.out
                  simp only [Bool.or_eq_false_iff] at this
                  exact this.1
                clear HEF
                by_cases hf : q.fr < 0
                · have HS2 : Hid (wrun s (i + 1) = ⟨q.out, q.ln, (i : Int), false⟩) := by
                    show _ = _
                    rw [wrun, HQ.out, HST.out, if_neg (by simp), if_pos hf, HOF.out]
                  go_wp2_with fail
                  go_roundw
                  case rel => exact ⟨i + 1, m, a', cp', ⟨q.out, q.ln, (i : Int), false⟩, by omega, by omega, by simp only []; omega, by simp only []; omega, by simp only []; omega, by simp only []; omega, by go_num, rfl, rfl, rfl, rfl, HQL, HS2, HB, HP⟩
                  case measure => simp [intOf]; omega
                · have HS2 : Hid (wrun s (i + 1) = ⟨q.out, q.ln, q.fr, false⟩) := by
                    show _ = _
                    rw [wrun, HQ.out, HST.out, if_neg (by simp), if_neg hf, HOF.out]
                  go_wp2_with fail
                  go_roundw
                  case rel => exact ⟨i + 1, m, a', cp', ⟨q.out, q.ln, q.fr, false⟩, by omega, by omega, by simp only []; omega, by simp only []; omega, by simp only []; omega, by simp only []; omega, by go_num, rfl, rfl, rfl, rfl, HQL, HS2, HB, HP⟩
                  case measure => simp [intOf]; omega
    · obtain rfl : i = s.size + 1 := by omega
      have HD : Hid (q.out = wordsOf s) := by show _ = _; unfold wordsOf; rw [HQ.out]
      go_wp2_with fail
      go_ret
      exact ⟨a', cp', by rw [← HD.out, HQL.out]; rfl, by rw [← HD.out, HQL.out]; exact HP.out, HB.out⟩
end Go.Proofs.YtlpffgmfgkleiaaGreatDoor

/-
  The walk over the document's lines of words.
-/
namespace Go.Proofs.YtlpffgmfgkleiaaGreatDoor
open Go.RowKit Go.Maps

def lnAt (L : List WV) (i : Nat) : Int := (L[i]?.map WV.ln).getD 0
theorem lnAt_of {L : List WV} {i : Nat} {x : WV} (h : L[i]? = some x) : lnAt L i = x.ln := by unfold lnAt; rw [h]; rfl
/-- The lines that the first words make. -/
def lrun (L : List WV) : Nat → List (List WV)
  | 0 => []
  | i + 1 => if i = 0 ∨ lnAt L i ≠ lnAt L (i - 1) then lrun L i ++ [L[i]?.toList] else (lrun L i).dropLast ++ [((lrun L i).getLast?.getD []) ++ L[i]?.toList]
def linesOf (s : ByteArray) : List (List WV) := lrun (wordsOf s) (wordsOf s).length
theorem lrun_len (L : List WV) : ∀ i, (lrun L i).length ≤ i
  | 0 => Nat.le_refl _
  | i + 1 => by
    have := lrun_len L i
    rw [lrun]; split <;> simp <;> omega
theorem lrun_each (L : List WV) : ∀ i, ∀ g ∈ lrun L i, g.length ≤ i
  | 0, g, h => by simp [lrun] at h
  | i + 1, g, h => by
    have ih := lrun_each L i
    have hx : (L[i]?.toList).length ≤ 1 := by cases L[i]? <;> simp
    rw [lrun] at h
    split at h
    · rcases List.mem_append.1 h with q | q
      · have := ih g q; omega
      · simp at q; subst q; omega
    · rcases List.mem_append.1 h with q | q
      · have := ih g (List.dropLast_subset _ q); omega
      · simp only [List.mem_singleton] at q
        subst q
        rw [List.length_append]
        have : ((lrun L i).getLast?.getD []).length ≤ i := by
          cases e : (lrun L i).getLast? with
          | none => simp
          | some z => exact ih z (List.mem_of_getLast? e)
        omega
theorem lrun_some (L : List WV) {i : Nat} (h : 0 < i) : lrun L i ≠ [] := by
  obtain ⟨j, rfl⟩ : ∃ j, i = j + 1 := ⟨i - 1, by omega⟩
  rw [lrun]; split <;> simp
/-- The row of lines and its last one, that the next word goes to. -/
def NextRow (L : List WV) (i : Nat) (x : WV) (N : Bool) (G0 : List (List WV)) (y : List WV) : Prop :=
  lrun L (i + 1) = G0 ++ [y ++ [x]] ∧ if N = true then G0 = lrun L i ∧ y = [] else 0 < i ∧ lnAt L i = lnAt L (i - 1) ∧ lrun L i = G0 ++ [y]
theorem next_row (L : List WV) (i : Nat) (x : WV) (hx : L[i]? = some x) (N : Bool) (hN : decide (i = 0 ∨ lnAt L i ≠ lnAt L (i - 1)) = N) : ∃ G0 y, NextRow L i x N G0 y := by
  unfold NextRow
  rw [lrun, hx]
  by_cases h : i = 0 ∨ lnAt L i ≠ lnAt L (i - 1)
  · rw [decide_eq_true h] at hN
    subst hN
    exact ⟨lrun L i, [], by rw [if_pos h]; rfl, by rw [if_pos rfl]; exact ⟨rfl, rfl⟩⟩
  · rw [decide_eq_false h] at hN
    subst hN
    have h0 : 0 < i := by omega
    have hne := lrun_some L h0
    refine ⟨(lrun L i).dropLast, (lrun L i).getLast hne, ?_, ?_⟩
    · rw [if_neg h, List.getLast?_eq_some_getLast hne]; rfl
    · rw [if_neg (by simp)]
      refine ⟨h0, Decidable.byContradiction fun z => h (.inr z), ?_⟩
      exact (List.dropLast_concat_getLast hne).symm
/-- Where the walk is, the last line laid out. -/
def AtRow (W : World) (n : Nat) (G0 : List (List WV)) (y : List WV) (v : Value) (w : World) : Prop :=
  Below W.heap.size W w ∧ ∃ g c cs u, v = .slice (some ⟨g, 0, none⟩) n c ∧ Rows w W.heap.size v (cs ++ [u]) (G0 ++ [y])
/-- Rows of words that come back. -/
def LinesBack (G : List (List WV)) (w : World) (e : Ending) (w' : World) : Prop :=
  ∃ (a : Option Addr) (c B : Nat) (cs : List Value), e = .returned (.slice a G.length c) ∧ w.heap.size ≤ B ∧ Rows w' B (.slice a G.length c) cs G ∧ Below w.heap.size w w'
theorem rows_split {w : World} {B : Nat} {v : Value} {cs : List Value} {G0 : List (List WV)} {y : List WV} (h : Rows w B v cs (G0 ++ [y])) : ∃ cs0 u, cs = cs0 ++ [u] ∧ cs0.length = G0.length := by
  have hl := h.len
  rcases List.eq_nil_or_concat cs with q | ⟨cs0, u, q⟩
  · subst q; simp at hl
  · refine ⟨cs0, u, by rw [q, List.concat_eq_append], ?_⟩
    subst q; simp at hl; omega
theorem rows_at {w : World} {B : Nat} {v : Value} {cs : List Value} {u : Value} {G : List (List WV)} (h : Rows w B v (cs ++ [u]) G) : ∃ g c, v = .slice (some ⟨g, 0, none⟩) G.length c ∧ w.cell? ⟨g, cs.length, none⟩ = some u ∧ w.frozen? ⟨g, cs.length, none⟩ = false := by
  obtain ⟨a, c, e, _, _, hj⟩ := h.own.slice
  obtain ⟨g, rfl, h1, h2⟩ := hj cs.length u (by simp)
  exact ⟨g, c, by rw [e, h.len], h1, h2⟩

theorem at_more {W w w' : World} {v v' : Value} {cs : List Value} {G : List (List WV)} {p : Nat} (HB : Below W.heap.size W w) (h : Rows w W.heap.size v cs G) (o3 : OwnR w' W.heap.size v' (cs ++ [.slice none 0 0])) (g3 : w.grownBy w' v.ownBlock) (hn : G.length = p) : AtRow W (p + 1) G [] v' w' := by
  have hr := h.more o3 g3
  obtain ⟨g, c, e, _, _⟩ := rows_at hr
  rw [List.length_append, List.length_singleton, hn] at e
  exact ⟨HB.grown g3 HB.size (fun k hk => (h.own.new hk).1), g, c, cs, _, e, hr⟩
theorem at_same {W w : World} {v : Value} {cs : List Value} {G0 : List (List WV)} {y : List WV} {p : Nat} (HB : Below W.heap.size W w) (h : Rows w W.heap.size v cs (G0 ++ [y])) (hn : G0.length = p) : AtRow W (p + 1) G0 y v w := by
  obtain ⟨cs0, u, rfl, _⟩ := rows_split h
  obtain ⟨g, c, e, _, _⟩ := rows_at h
  rw [List.length_append, List.length_singleton, hn] at e
  exact ⟨HB, g, c, cs0, u, e, h⟩
/-- The last line grows, and is stored. -/
theorem row_grow {W w w' : World} {g n c p : Nat} {cs : List Value} {u u' : Value} {G0 : List (List WV)} {y z : List WV} (HB : Below W.heap.size W w) (h : Rows w W.heap.size (.slice (some ⟨g, 0, none⟩) n c) (cs ++ [u]) (G0 ++ [y])) (hn : G0.length = p) (hz : z.length = y.length + 1) (ho : OwnW w' W.heap.size u' z) (hg : w.grownBy w' u.ownBlock) (hk : ∀ k, u'.ownBlock = some k → u.ownBlock = some k ∨ w.heap.size ≤ k) :
    w'.cell? ⟨g, p, none⟩ = some u ∧ w'.frozen? ⟨g, p, none⟩ = false ∧ Rows (w'.setCell ⟨g, p, none⟩ u') W.heap.size (.slice (some ⟨g, 0, none⟩) n c) (cs ++ [u']) (G0 ++ [z]) ∧ Below W.heap.size W (w'.setCell ⟨g, p, none⟩ u') := by
  subst hn
  obtain ⟨a, d, e, _⟩ := ho.slice
  obtain ⟨hr, hB⟩ := h.grow hz ho ⟨a, d, e⟩ hg hk
  have hcl : cs.length = G0.length := by have := h.len; simpa using this
  obtain ⟨au, du, hu1, hu2⟩ := h.each G0.length y (by simp)
  have hu3 := hu1
  rw [← hcl] at hu1
  simp only [List.getElem?_concat_length, Option.some.injEq] at hu1
  have hou : OwnW w W.heap.size u y := by rw [hu1]; exact hu2
  have hro : OwnR w' W.heap.size (.slice (some ⟨g, 0, none⟩) n c) (cs ++ [u]) := h.own.grown hg (fun k hk e => rw_apart hou h.own e hk)
  obtain ⟨a6, c6, e6, _, _, hj⟩ := hro.slice
  obtain ⟨g6, e7, h1, h2⟩ := hj cs.length u (by simp)
  simp only [Value.slice.injEq] at e6
  rw [e7] at e6
  simp only [Option.some.injEq, Addr.mk.injEq] at e6
  obtain ⟨⟨rfl, _⟩, _⟩ := e6
  rw [hcl] at h1 h2
  exact ⟨h1, h2, hr, (HB.grown hg HB.size (fun k hk => (hou.new hk).1)).setCell (p := ⟨g, G0.length, none⟩) hB _⟩
end Go.Proofs.YtlpffgmfgkleiaaGreatDoor

/-
  The walks over texts that are cut, and over pairs.
-/
namespace Go.Proofs.YtlpffgmfgkleiaaGreatDoor
open Go.RowKit Go.Maps

def shortOf (s : ByteArray) (n : Nat) : ByteArray := if n < s.size then s.extract 0 n else s
set_option maxHeartbeats 1000000 in
theorem short_any (s : ByteArray) (n : Nat) (hn : (n : Int) ≤ 2000000) (w : World) : Calls Tryz.prog 11 #[.string s, .int .i64 n] w fun e w' => e = .returned (.string (shortOf s n)) ∧ w = w' := by
  unfold shortOf
  by_cases h : n < s.size
  · rw [if_pos h]
    have h1 : (n : Int) < (s.size : Int) := by omega
    have h2 : (n : Int) ≤ (s.size : Int) := by omega
    go_enter Tryz.func11, Tryz.ntmps11
    go_wp2
    go_ret
    exact ⟨rfl, rfl⟩
  · rw [if_neg h]
    have h1 : ¬ (n : Int) < (s.size : Int) := by omega
    go_enter Tryz.func11, Tryz.ntmps11
    go_wp2
    go_ret
    exact ⟨rfl, rfl⟩

/-- The first place of a byte. -/
def FirstByte (s : ByteArray) (c : Nat) (i : Nat) : Prop := i < s.size ∧ byteAt s i = c ∧ ∀ j, j < i → byteAt s j ≠ c
def NoByte (s : ByteArray) (c : Nat) : Prop := ∀ j, j < s.size → byteAt s j ≠ c
/-- A text without a line's end. -/
def LineIs (s t : ByteArray) : Prop := (NoByte s 10 ∧ t = s) ∨ ∃ i, FirstByte s 10 i ∧ t = s.extract 0 i
theorem zeroTwo (w : World) : (zeroValue 105).run Tryz.prog w = .ok (.agg #[.string ⟨#[]⟩, .string ⟨#[]⟩, .bool false]) w := by kernel_rfl
/-- What a pair is made of. -/
def PairIs (s : ByteArray) (x y : ByteArray) (b : Bool) : Prop :=
  (NoByte s 61 ∧ x = ⟨#[]⟩ ∧ y = ⟨#[]⟩ ∧ b = false) ∨ ∃ i, FirstByte s 61 i ∧ x = s.extract 0 i ∧ y = s.extract (i + 1) s.size ∧ b = true
def PairBack (s : ByteArray) (w : World) (e : Ending) (w' : World) : Prop := ∃ x y b, e = .returned (.agg #[.string x, .string y, .bool b]) ∧ PairIs s x y b ∧ Below w.heap.size w w'
set_option maxRecDepth 100000 in
set_option maxHeartbeats 2000000 in
theorem rpair_any (s : ByteArray) (hs : (s.size : Int) ≤ 9223372036854775807) (w : World) : Calls Tryz.prog 73 #[.string s] w (PairBack s w) := by
  have hz := zeroTwo
  go_enter Tryz.func73, Tryz.ntmps73
  go_upto_region 1 with fail
  refine gen_world (fun v => Below w.heap.size w v ∧ v.heap[w.heap.size]? = some (.cells #[.string ⟨#[]⟩, .string ⟨#[]⟩, .bool false] 105 (0, 0))) ⟨(by repeat (first | exact Below.refl _ _ | (with_reducible assumption) | refine bw_alloc ?_ _ | refine bw_drew ?_)), heap_alloc_new w _⟩ ?_
  intro W1 ⟨hl1, hb1⟩
  have HL := Lib.hid hl1
  have r0 : W1.cell? ⟨w.heap.size, 0, none⟩ = some (.string ⟨#[]⟩) := by rw [blk_cell hb1]; rfl
  have r1 : W1.cell? ⟨w.heap.size, 1, none⟩ = some (.string ⟨#[]⟩) := by rw [blk_cell hb1]; rfl
  have r2 : W1.cell? ⟨w.heap.size, 2, none⟩ = some (.bool false) := by rw [blk_cell hb1]; rfl
  have f0 := blk_free hb1 0
  have f1 := blk_free hb1 1
  have f2 := blk_free hb1 2
  have hr := lt_of_block hb1
  clear hl1 hb1
  go_wp2_with fail
  go_loop [3] (fun u => ∃ i : Nat, i ≤ s.size ∧ u = .int .i64 i ∧ Hid (∀ j, j < i → byteAt s j ≠ 61)) (fun u => (s.size - intOf u).toNat)
  case atStart => exact ⟨0, by omega, rfl, fun j hj => absurd hj (Nat.not_lt_zero _)⟩
  case round =>
    obtain ⟨i, hi, rfl, HS⟩ := hrel
    by_cases hlt : i < s.size
    · have hk1 : (i : Int) < (s.size : Int) := by omega
      have hk2 : (i : Int) ≤ (s.size : Int) := by omega
      have hk0 : (0 : Int) ≤ (i : Int) := by omega
      have hb := (byteAt_in s hlt).2
      by_cases hq : s[i].toNat = 61
      · have d1 : ((s[i].toNat : Int) == 61) = true := by rw [beq_iff_eq]; omega
        have HF : Hid (FirstByte s 61 i) := ⟨hlt, by rw [hb]; exact hq, HS.out⟩
        have hk3 : (i : Int) + 1 ≤ (s.size : Int) := by omega
        have hk4 : (0 : Int) ≤ (i : Int) + 1 := by omega
        clear hb hq
        have HD : Hid (∀ v, Below w.heap.size w v → PairBack s w (.returned (.agg #[.string (s.extract 0 i), .string (s.extract (i + 1) s.size), .bool true])) v) := fun v hv => ⟨_, _, _, rfl, .inr ⟨i, HF.out, rfl, rfl, rfl⟩, hv⟩
        have hwi : IntKind.i64.wrap ((i : Int) + 1) = ((i + 1 : Nat) : Int) := (IntWalk.i64_in _ (by omega)).trans (by omega)
        have hk5 : ((i + 1 : Nat) : Int) ≤ (s.size : Int) := by omega
        have hk6 : (0 : Int) ≤ ((i + 1 : Nat) : Int) := by omega
        clear hk3 hk4 HS
        go_upto_region 5 with fail
        go_region
        all_goals
          go_wp2_with fail
          exact bodyPost_ret (v := .agg #[.string (s.extract 0 i), .string (s.extract (i + 1) s.size), .bool true]) (by simp [results, Tryz.results73, go_sem, r0, r1, r2]) rfl (HD.out _ (((HL.out.drew.setCell (p := ⟨w.heap.size, 0, none⟩) (Nat.le_refl _) _).setCell (p := ⟨w.heap.size, 1, none⟩) (Nat.le_refl _) _).setCell (p := ⟨w.heap.size, 2, none⟩) (Nat.le_refl _) _))
      · have d1 : ((s[i].toNat : Int) == 61) = false := by rw [beq_eq_false_iff_ne]; omega
        have HS2 : Hid (∀ j, j < i + 1 → byteAt s j ≠ 61) := fun j hj => by
          rcases Nat.lt_or_ge j i with h | h
          · exact HS.out j h
          · have e : j = i := by omega
            subst e; rw [hb]; exact hq
        clear hb hq HS
        go_wp2_with fail
        go_round
        case rel => exact ⟨i + 1, by omega, by go_num, HS2⟩
        case measure => simp [intOf]; omega
    · have e : i = s.size := by omega
      have HN : Hid (NoByte s 61) := fun j hj => HS.out j (by omega)
      have hk1 : ¬ (i : Int) < (s.size : Int) := by omega
      clear e HS
      go_wp2_with fail
      exact bodyPost_ret (v := .agg #[.string ⟨#[]⟩, .string ⟨#[]⟩, .bool false]) (by simp [results, Tryz.results73, go_sem, r0, r1, r2]) rfl ⟨⟨#[]⟩, ⟨#[]⟩, false, rfl, .inl ⟨HN.out, rfl, rfl, rfl⟩, ((HL.out.setCell (p := ⟨w.heap.size, 0, none⟩) (Nat.le_refl _) _).setCell (p := ⟨w.heap.size, 1, none⟩) (Nat.le_refl _) _).setCell (p := ⟨w.heap.size, 2, none⟩) (Nat.le_refl _) _⟩
end Go.Proofs.YtlpffgmfgkleiaaGreatDoor

/-
  The walks over numbers of a text.
-/
namespace Go.Proofs.YtlpffgmfgkleiaaGreatDoor
open Go.RowKit Go.Maps

/-- The number that the first bytes are, if they are digits, and it is not too great. -/
def nrun (s : ByteArray) : Nat → Option Nat
  | 0 => some 0
  | i + 1 => match nrun s i with
    | none => none
    | some n => if byteAt s i < 48 ∨ 57 < byteAt s i ∨ (9223372036854775807 - (byteAt s i - 48)) / 10 < n then none else some (10 * n + (byteAt s i - 48))
def numOf (s : ByteArray) (most : Int) : Option Nat :=
  if s.size = 0 ∨ (1 < s.size ∧ byteAt s 0 = 48) then none else match nrun s s.size with
    | none => none
    | some n => if most < (n : Int) then none else some n
theorem nrun_small (s : ByteArray) : ∀ i n, nrun s i = some n → n ≤ 9223372036854775807
  | 0, n, h => by simp [nrun] at h; omega
  | i + 1, n, h => by
    rw [nrun] at h
    split at h
    · cases h
    · rename_i m _
      split at h
      · cases h
      · rename_i q
        simp only [not_or, Nat.not_lt] at q
        cases h
        omega
theorem nrun_none (s : ByteArray) {i : Nat} (h : nrun s i = none) : ∀ j, i ≤ j → nrun s j = none := by
  intro j hj
  induction j with
  | zero => have : i = 0 := by omega
            subst this; exact h
  | succ j ih =>
    rcases Nat.lt_or_ge j i with q | q
    · have : i = j + 1 := by omega
      subst this; exact h
    · rw [nrun, ih q]
theorem zeroNumb (w : World) : (zeroValue 99).run Tryz.prog w = .ok (.agg #[.int .i64 0, .bool false]) w := by kernel_rfl
/-- A number that comes back. -/
def NumB (o : Option Nat) (w : World) (e : Ending) (w' : World) : Prop :=
  e = .returned (.agg #[.int .i64 ((o.getD 0 : Nat) : Int), .bool o.isSome]) ∧ Below w.heap.size w w'
theorem loop_len (s : ByteArray) : ∀ (k i : Nat) (r : List UInt8), s.size - i = k → (ByteArray.toList.loop s i r).length = r.length + k
  | 0, i, r, h => by
    rw [ByteArray.toList.loop, if_neg (by omega)]; simp
  | k + 1, i, r, h => by
    rw [ByteArray.toList.loop, if_pos (by omega), loop_len s k (i + 1) _ (by omega)]
    simp only [List.length_cons]; omega
theorem nonempty (s : ByteArray) (h : ¬ s.size = 0) : s.toList.isEmpty = false := by
  have := loop_len s s.size 0 [] (by omega)
  cases e : s.toList with
  | nil =>
    have e2 : (ByteArray.toList.loop s 0 []).length = 0 := by
      show s.toList.length = 0
      rw [e]; rfl
    simp at this; omega
  | cons _ _ => rfl

set_option maxRecDepth 100000 in
set_option maxHeartbeats 4000000 in
theorem rnumber_any (s : ByteArray) (hs : (s.size : Int) ≤ 9223372036854775807) (most : Int) (w : World) : Calls Tryz.prog 49 #[.string s, .int .i64 most] w (NumB (numOf s most) w) := by
  have hz := zeroNumb
  by_cases h0 : s.size = 0
  · have hn : numOf s most = none := by unfold numOf; rw [if_pos (.inl h0)]
    rw [hn]
    have he : s = ⟨#[]⟩ := by
      obtain ⟨d⟩ := s
      have : d.size = 0 := h0
      rw [Array.eq_empty_of_size_eq_zero this]
    subst he
    clear hn h0
    go_enter Tryz.func49, Tryz.ntmps49
    go_wp2_with fail
    exact bodyPost_ret (v := .agg #[.int .i64 0, .bool false]) (by simp [results, Tryz.results49, go_sem]) rfl ⟨rfl, (by repeat (first | exact Below.refl _ _ | (with_reducible assumption) | refine bw_alloc ?_ _ | refine bw_drew ?_ | refine Below.setCell ?_ (by simp) _ | refine Below.setCell ?_ (by simp; omega) _))⟩
  · have hes := nonempty s h0
    have hp : 0 < s.size := by omega
    have h00 := (byteAt_in s hp).2
    by_cases hz0 : 1 < s.size ∧ byteAt s 0 = 48
    · have hn : numOf s most = none := by unfold numOf; rw [if_pos (.inr hz0)]
      rw [hn]
      have h1 : (1 : Int) < (s.size : Int) := by omega
      have h2 : 1 < s.size := hz0.1
      have d1 : ((s[0].toNat : Int) == 48) = true := by rw [beq_iff_eq]; omega
      clear hn hz0 h0 h00
      go_enter Tryz.func49, Tryz.ntmps49
      go_wp2_with fail
      exact bodyPost_ret (v := .agg #[.int .i64 0, .bool false]) (by simp [results, Tryz.results49, go_sem]) rfl ⟨rfl, (by repeat (first | exact Below.refl _ _ | (with_reducible assumption) | refine bw_alloc ?_ _ | refine bw_drew ?_ | refine Below.setCell ?_ (by simp) _ | refine Below.setCell ?_ (by simp; omega) _))⟩
    · have hn : numOf s most = match nrun s s.size with
        | none => none
        | some n => if most < (n : Int) then none else some n := by unfold numOf; rw [if_neg (by rintro (q | q); exact h0 q; exact hz0 q)]
      have HN := Lib.hid hn
      clear hn
      have hor : (1 < s.size ∧ ¬ s[0].toNat = 48) ∨ ¬ 1 < s.size := by omega
      rcases hor with ⟨h2, h3⟩ | h2
      all_goals
        first
          | (have d1 : ((s[0].toNat : Int) == 48) = false := by rw [beq_eq_false_iff_ne]; omega)
          | skip
        clear hz0 h0 h00
        go_enter Tryz.func49, Tryz.ntmps49
        go_upto_region 3 with fail
        clear hes
        refine gen_world (fun v => Below w.heap.size w v ∧ v.heap[w.heap.size]? = some (.cells #[.int .i64 0, .bool false] 99 (0, 0))) ⟨(by repeat (first | exact Below.refl _ _ | (with_reducible assumption) | refine bw_alloc ?_ _ | refine bw_drew ?_)), heap_alloc_new w _⟩ ?_
        intro W1 ⟨hl1, hb1⟩
        have HL := Lib.hid hl1
        have r0 : W1.cell? ⟨w.heap.size, 0, none⟩ = some (.int .i64 0) := by rw [blk_cell hb1]; rfl
        have r1 : W1.cell? ⟨w.heap.size, 1, none⟩ = some (.bool false) := by rw [blk_cell hb1]; rfl
        have f0 := blk_free hb1 0
        have f1 := blk_free hb1 1
        have hr := lt_of_block hb1
        have HD : Hid (∀ (x0 x1 : Value), Below w.heap.size w ((W1.setCell ⟨w.heap.size, 0, none⟩ x0).setCell ⟨w.heap.size, 1, none⟩ x1)) := fun x0 x1 => (hl1.setCell (p := ⟨w.heap.size, 0, none⟩) (Nat.le_refl _) _).setCell (p := ⟨w.heap.size, 1, none⟩) (Nat.le_refl _) _
        clear hl1 hb1
        go_wp2_with fail
        go_loop [5, 6] (fun v u => ∃ (i n : Nat), i ≤ s.size ∧ u = .int .i64 i ∧ v = .int .i64 n ∧ n ≤ 9223372036854775807 ∧ Hid (nrun s i = some n)) (fun _ u => (s.size - intOf u).toNat)
        case atStart => exact ⟨0, 0, by omega, rfl, rfl, by omega, rfl⟩
        case round =>
          obtain ⟨i, n, hi, rfl, rfl, hn9, HS⟩ := hrel
          by_cases hlt : i < s.size
          · have hk1 : (i : Int) < (s.size : Int) := by omega
            have hk0 : (0 : Int) ≤ (i : Int) := by omega
            obtain ⟨c, hc⟩ : ∃ c, s[i].toNat = c := ⟨_, rfl⟩
            have hbc : byteAt s i = c := by rw [(byteAt_in s hlt).2]; exact hc
            have HC := Lib.hid hc
            by_cases hbad : c < 48 ∨ 57 < c
            · have HNO : Hid (numOf s most = none) := by
                have h1 : nrun s (i + 1) = none := by
                  rw [nrun, HS.out]; simp only []
                  rw [if_pos (by rw [hbc]; omega)]
                show _ = _
                rw [HN.out, nrun_none s h1 s.size (by omega)]
              rcases (show c < 48 ∨ (¬ c < 48 ∧ 57 < c) by omega) with q1 | ⟨q1, q2⟩
              · have e1 : (s[i].toNat : Int) < 48 := by rw [hc]; omega
                have e2 : s[i].toNat < 48 := by omega
                clear hc hbc hbad HS
                go_wp2_with fail
                exact bodyPost_ret (v := .agg #[.int .i64 0, .bool false]) (by simp [results, Tryz.results49, go_sem, r0, r1]) rfl ⟨by rw [HNO.out]; rfl, HD.out _ _⟩
              · have e1 : ¬ (s[i].toNat : Int) < 48 := by rw [hc]; omega
                have e2 : ¬ s[i].toNat < 48 := by omega
                have e3 : (57 : Int) < (s[i].toNat : Int) := by rw [hc]; omega
                have e4 : 57 < s[i].toNat := by omega
                clear hc hbc hbad HS
                go_wp2_with fail
                exact bodyPost_ret (v := .agg #[.int .i64 0, .bool false]) (by simp [results, Tryz.results49, go_sem, r0, r1]) rfl ⟨by rw [HNO.out]; rfl, HD.out _ _⟩
            · have e1 : ¬ (s[i].toNat : Int) < 48 := by rw [hc]; omega
              have e2 : ¬ s[i].toNat < 48 := by omega
              have e3 : ¬ (57 : Int) < (s[i].toNat : Int) := by rw [hc]; omega
              have e4 : ¬ 57 < s[i].toNat := by omega
              obtain ⟨d, hd⟩ : ∃ d : Nat, c - 48 = d := ⟨_, rfl⟩
              have w1 : IntKind.u8.wrap ((s[i].toNat : Int) - 48) = (d : Int) := by rw [hc, IntKind.wrap_u8]; omega
              have w2 : IntKind.i64.wrap (d : Int) = (d : Int) := IntWalk.i64_in _ (by omega)
              have w3 : IntKind.i64.wrap (9223372036854775807 - (d : Int)) = 9223372036854775807 - (d : Int) := IntWalk.i64_in _ (by omega)
              obtain ⟨k, hk⟩ : ∃ k : Nat, (9223372036854775807 - d) / 10 = k := ⟨_, rfl⟩
              have w4 : (9223372036854775807 - (d : Int)).tdiv 10 = (k : Int) := by rw [Int.tdiv_eq_ediv_of_nonneg (by omega)]; omega
              have w5 : IntKind.i64.wrap (k : Int) = (k : Int) := IntWalk.i64_in _ (by omega)
              by_cases hbig : k < n
              · have HNO : Hid (numOf s most = none) := by
                  have h1 : nrun s (i + 1) = none := by
                    rw [nrun, HS.out]; simp only []
                    rw [if_pos (by rw [hbc, hd, hk]; omega)]
                  show _ = _
                  rw [HN.out, nrun_none s h1 s.size (by omega)]
                have e5 : (k : Int) < (n : Int) := by omega
                clear hc hbc hbad HS hd hk
                go_wp2_with fail
                exact bodyPost_ret (v := .agg #[.int .i64 0, .bool false]) (by simp [results, Tryz.results49, go_sem, r0, r1]) rfl ⟨by rw [HNO.out]; rfl, HD.out _ _⟩
              · have e5 : ¬ (k : Int) < (n : Int) := by omega
                have HS2 : Hid (nrun s (i + 1) = some (10 * n + d)) := by
                  show _ = _
                  rw [nrun, HS.out]; simp only []
                  rw [if_neg (by rw [hbc, hd, hk]; omega), hbc, hd]
                have hb9 : 10 * n + d ≤ 9223372036854775807 := by omega
                have w6 : IntKind.i64.wrap (10 * (n : Int)) = 10 * (n : Int) := IntWalk.i64_in _ (by omega)
                have w7 : IntKind.i64.wrap (10 * (n : Int) + (d : Int)) = ((10 * n + d : Nat) : Int) := (IntWalk.i64_in _ (by omega)).trans (by omega)
                clear hc hbc hbad HS hd hk
                go_wp2_with fail
                go_round
                case rel => exact ⟨i + 1, 10 * n + d, by omega, by go_num, by go_num, hb9, HS2⟩
                case measure => simp [intOf]; omega
          · have hiz : i = s.size := by omega
            have hk1 : ¬ (i : Int) < (s.size : Int) := by omega
            have hns : nrun s s.size = some n := by rw [← hiz]; exact HS.out
            by_cases hm : most < (n : Int)
            · have HNO : Hid (numOf s most = none) := by
                show _ = _
                rw [HN.out, hns]; simp only []; rw [if_pos hm]
              clear hiz hns HS
              go_wp2_with fail
              exact bodyPost_ret (v := .agg #[.int .i64 0, .bool false]) (by simp [results, Tryz.results49, go_sem, r0, r1]) rfl ⟨by rw [HNO.out]; rfl, HD.out _ _⟩
            · have HNO : Hid (numOf s most = some n) := by
                show _ = _
                rw [HN.out, hns]; simp only []; rw [if_neg hm]
              clear hiz hns HS
              go_wp2_with fail
              exact bodyPost_ret (v := .agg #[.int .i64 n, .bool true]) (by simp [results, Tryz.results49, go_sem, r0, r1]) rfl ⟨by rw [HNO.out]; rfl, HD.out _ _⟩
end Go.Proofs.YtlpffgmfgkleiaaGreatDoor

/-
  The walk over rows of numbers of a text.
-/
namespace Go.Proofs.YtlpffgmfgkleiaaGreatDoor
open Go.RowKit Go.Maps

/-- The numbers up to a place, and where the next one begins, if all were. -/
def nsrun (s : ByteArray) (most : Int) : Nat → Option (List Int × Nat)
  | 0 => some ([], 0)
  | i + 1 => match nsrun s most i with
    | none => none
    | some (l, f) => if i < s.size ∧ byteAt s i ≠ 44 then some (l, f) else match numOf (s.extract f i) most with
      | none => none
      | some n => some (l ++ [(n : Int)], i + 1)
def numsOf (s : ByteArray) (most : Int) : Option (List Int) := (nsrun s most (s.size + 1)).map (·.1)
theorem nsrun_none (s : ByteArray) (most : Int) {i : Nat} (h : nsrun s most i = none) : ∀ j, i ≤ j → nsrun s most j = none := by
  intro j hj
  induction j with
  | zero => have : i = 0 := by omega
            subst this; exact h
  | succ j ih =>
    rcases Nat.lt_or_ge j i with q | q
    · have : i = j + 1 := by omega
      subst this; exact h
    · rw [nsrun, ih q]
/-- A row of numbers that comes back, if it is one. -/
def NumsB (o : Option (List Int)) (w : World) (e : Ending) (w' : World) : Prop :=
  Below w.heap.size w w' ∧ ((o = none ∧ e = .returned (.tuple #[.slice none 0 0, .bool false])) ∨ ∃ (l : List Int) (a : Option Addr) (c : Nat), o = some l ∧ e = .returned (.tuple #[.slice a l.length c, .bool true]) ∧ Ints w' a l ∧ (l.length : Int) ≤ 9223372036854775807)
/-- As it comes back from the document's own: a row of its own. -/
def NumsO (o : Option (List Int)) (w : World) (e : Ending) (w' : World) : Prop :=
  Below w.heap.size w w' ∧ ((o = none ∧ e = .returned (.tuple #[.slice none 0 0, .bool false])) ∨ ∃ (l : List Int) (a : Option Addr) (c : Nat), o = some l ∧ e = .returned (.tuple #[.slice a l.length c, .bool true]) ∧ OwnI w' 2 w.heap.size (.slice a l.length c) l ∧ (l.length : Int) ≤ 9223372036854775807)
theorem growni_new {W w3 w4 : World} {B : Nat} {t : TypeId} {v : Value} {l : List Int} (hb : Below B W w3) (ho : OwnI w3 t B v l) (hB : B ≤ w3.heap.size) (hg : w3.grownBy w4 v.ownBlock) : Below B W w4 :=
  hb.grown hg hB (fun k hk => (ho.new hk).1)

set_option maxRecDepth 100000 in
set_option maxHeartbeats 4000000 in
theorem rnumbers_own (s : ByteArray) (hs : s.size ≤ 1050000) (most : Int) (w : World) : Calls Tryz.prog 52 #[.string s, .int .i64 most] w (NumsO (numsOf s most) w) := by
  have hz := zeroNumb
  go_enter Tryz.func52, Tryz.ntmps52
  go_wp2_with fail
  go_loopw [6, 7, 8] (fun v f u wr => ∃ (i m g : Nat) (a' : Option Addr) (cp' : Nat) (l : List Int), i ≤ s.size + 1 ∧ m ≤ i ∧ g ≤ i ∧ u = .int .i64 i ∧ f = .int .i64 g ∧ v = .slice a' m cp' ∧ Hid (l.length = m) ∧ Hid (nsrun s most i = some (l, g)) ∧ Hid (Below w.heap.size w wr) ∧ Hid (OwnI wr 2 w.heap.size (.slice a' m cp') l)) (fun _ _ u _ => (s.size + 1 - intOf u).toNat)
  case atStart => exact ⟨0, 0, 0, _, _, [], by omega, by omega, by omega, rfl, rfl, rfl, rfl, rfl, Below.refl _ _, OwnI.nil _ _ _⟩
  case round =>
    obtain ⟨i, m, g, a', cp', l, hi, hm, hg, rfl, rfl, rfl, HL, HS, HB, HP⟩ := hrel
    by_cases hlt : i ≤ s.size
    · have hk1 : (i : Int) ≤ (s.size : Int) := by omega
      have hk0 : (0 : Int) ≤ (i : Int) := by omega
      have hg0 : (0 : Int) ≤ (g : Int) := by omega
      have hgi : (g : Int) ≤ (i : Int) := by omega
      by_cases hskip : i < s.size ∧ byteAt s i ≠ 44
      · have hin := hskip.1
        have hb := (byteAt_in s hin).2
        have h2 : (i : Int) < (s.size : Int) := by omega
        have d0 : ((s[i].toNat : Int) == 44) = false := by rw [beq_eq_false_iff_ne]; have := hskip.2; omega
        have d1 : ((s[i].toNat : Int) != 44) = true := by rw [bne, d0]; rfl
        have HS2 : Hid (nsrun s most (i + 1) = some (l, g)) := by
          show _ = _; rw [nsrun, HS.out]; simp only []; rw [if_pos hskip]
        clear hb hskip HS
        go_wp2_with fail
        go_roundw
        case rel => exact ⟨i + 1, m, g, a', cp', l, by omega, by omega, by omega, by go_num, rfl, rfl, HL, HS2, HB, HP⟩
        case measure => simp [intOf]; omega
      · have HSK : Hid (nsrun s most (i + 1) = match numOf (s.extract g i) most with
            | none => none
            | some n => some (l ++ [(n : Int)], i + 1)) := by
          show _ = _; rw [nsrun, HS.out]; simp only []; rw [if_neg hskip]
        have hxs : (s.extract g i).size ≤ s.size := by rw [ByteArray.size_extract]; omega
        have CN : Hid (∀ v, Calls Tryz.prog 49 #[.string (s.extract g i), .int .i64 most] v (NumB (numOf (s.extract g i) most) v)) := fun v => rnumber_any _ (by omega) most v
        obtain ⟨o, ho⟩ : ∃ o, numOf (s.extract g i) most = o := ⟨_, rfl⟩
        have HSK2 := Lib.hid (ho ▸ HSK.out)
        rw [ho] at CN
        go_upto_region 6 with fail
        go_cut [25] from 16 to 25 (fun u wx => u = .bool false ∧ Hid (Below w.heap.size w wx) ∧ Hid (OwnI wx 2 w.heap.size (.slice a' m cp') l))
        case first =>
          by_cases hin : i < s.size
          · have hb := (byteAt_in s hin).2
            have h2 : (i : Int) < (s.size : Int) := by omega
            have h44 : byteAt s i = 44 := Decidable.byContradiction fun q => hskip ⟨hin, q⟩
            have d0 : ((s[i].toNat : Int) == 44) = true := by rw [beq_iff_eq]; omega
            have d1 : ((s[i].toNat : Int) != 44) = false := by rw [bne, d0]; rfl
            clear hb h44 hskip
            go_wp2_with fail
            go_meet
            exact ⟨rfl, HB, HP⟩
          · have h2 : ¬ (i : Int) < (s.size : Int) := by omega
            clear hskip
            go_wp2_with fail
            go_meet
            exact ⟨rfl, HB, HP⟩
        case rest =>
          clear HB HP hskip
          obtain ⟨rfl, HB, HP⟩ := hcut
          cases o with
          | none =>
            have HNO : Hid (numsOf s most = none) := by
              show _ = _; unfold numsOf
              rw [nsrun_none s most (i := i + 1) HSK2.out (s.size + 1) (by omega)]; rfl
            clear ho
            go_wp2_with (go_at_call 49; (with_reducible refine (CN.out _).mono ?_); rintro e w5 ⟨rfl, b5⟩; have B5 := Lib.hid (below_up HB.out b5); clear b5)
            go_ret2
            exact ⟨below_up B5.out (by repeat (first | exact Below.refl _ _ | (with_reducible assumption) | refine bw_alloc ?_ _ | refine bw_drew ?_)), .inl ⟨HNO.out, rfl⟩⟩
          | some x =>
            have HSM : Hid (((l.length : Int) + ((1 : Nat) : Int)) ≤ 17592186044416) := by show _ ≤ _; rw [HL.out]; omega
            have HNN : Hid (l.length + 1 = m + 1) := by show _ = _; rw [HL.out]
            have HL2 : Hid ((l ++ [(x : Int)]).length = m + 1) := by show _ = _; rw [List.length_append, HL.out]; rfl
            have hwi : IntKind.i64.wrap ((i : Int) + 1) = (i : Int) + 1 := IntWalk.i64_in _ (by omega)
            clear ho
            go_upto_region 8 with (go_at_call 49; (with_reducible refine (CN.out _).mono ?_); rintro e w5 ⟨rfl, b5⟩; have B5 := Lib.hid b5; clear b5)
            refine gen_world (fun v => Below wc.heap.size wc v ∧ v.cell? ⟨w5.heap.size, 0, none⟩ = some (.int .i64 ((x : Nat) : Int)) ∧ v.cell? ⟨w5.heap.size, 1, none⟩ = some (.bool true)) ⟨below_up B5.out (by repeat (first | exact Below.refl _ _ | (with_reducible assumption) | refine bw_alloc ?_ _ | refine bw_drew ?_)), by rw [World.cell?_alloc_new]; rfl, by rw [World.cell?_alloc_new]; rfl⟩ ?_
            intro V ⟨hv, c0, c1⟩
            have HBV := Lib.hid (below_up HB.out hv)
            have HPV := Lib.hid (HP.out.below hv)
            clear hv HB HP B5
            generalize w5.heap.size = gb at *
            go_wp2_with (at_builtin; refine wp_ints (m := 1) (l := [(x : Int)]) numL rfl _ _ rfl rfl rfl (HPV.out.below (by repeat (first | exact Below.refl _ _ | (with_reducible assumption) | refine bw_alloc ?_ _ | refine bw_drew ?_))) (Nat.le_trans HBV.out.size ((by repeat (first | exact Below.refl _ _ | (with_reducible assumption) | refine bw_alloc ?_ _ | refine bw_drew ?_)) : Below V.heap.size V _).size) (ints_new _ _ _) rfl HSM.out (fun z => by cases z) (m + 1) HNN.out ?_; intro a3 k3 w3 o3 g3 l3; have HN3 := Lib.hid o3; have HB3 := Lib.hid (growni_new (below_up HBV.out ((by repeat (first | exact Below.refl _ _ | (with_reducible assumption) | refine bw_alloc ?_ _ | refine bw_drew ?_)) : Below V.heap.size V _)) (HPV.out.below ((by repeat (first | exact Below.refl _ _ | (with_reducible assumption) | refine bw_alloc ?_ _ | refine bw_drew ?_)) : Below V.heap.size V _)) (Nat.le_trans HBV.out.size ((by repeat (first | exact Below.refl _ _ | (with_reducible assumption) | refine bw_alloc ?_ _ | refine bw_drew ?_)) : Below V.heap.size V _).size) g3); clear o3 g3 l3)
            go_roundw
            case rel => exact ⟨i + 1, m + 1, i + 1, a3, k3, l ++ [(x : Int)], by omega, by omega, by omega, by go_num, by go_num, rfl, HL2, HSK2, HB3, HN3⟩
            case measure => simp [intOf]; omega
    · have hiz : i = s.size + 1 := by omega
      have HNO : Hid (numsOf s most = some l) := by
        show _ = _; unfold numsOf
        rw [← hiz, HS.out]; rfl
      have hk1 : ¬ (i : Int) ≤ (s.size : Int) := by omega
      clear hiz
      go_wp2_with fail
      go_ret2
      exact ⟨HB.out, .inr ⟨l, a', cp', HNO.out, by rw [HL.out]; rfl, by rw [HL.out]; exact HP.out, by rw [HL.out]; omega⟩⟩
theorem rnumbers_any (s : ByteArray) (hs : s.size ≤ 1050000) (most : Int) (w : World) : Calls Tryz.prog 52 #[.string s, .int .i64 most] w (NumsB (numsOf s most) w) :=
  (rnumbers_own s hs most w).mono fun _ _ ⟨h1, h2⟩ => ⟨h1, h2.imp id fun ⟨l, a, c, q1, q2, q3, q4⟩ => by
    obtain ⟨a5, c5, e5, i5, -, -⟩ := q3.slice
    cases e5
    exact ⟨l, a, c, q1, q2, i5, q4⟩⟩
end Go.Proofs.YtlpffgmfgkleiaaGreatDoor

/-
  The walks over bounds, and over sums that fill.
-/
namespace Go.Proofs.YtlpffgmfgkleiaaGreatDoor
open Go.RowKit Go.Maps

set_option maxHeartbeats 400000 in
theorem within_yes (n l m : Int) (h1 : l ≤ n) (h2 : n ≤ m) (w : World) : Calls Tryz.prog 34 #[.int .i64 n, .int .i64 l, .int .i64 m] w fun e w' => e = .returned (.bool true) ∧ w = w' := by
  have d1 : decide (l ≤ n) = true := decide_eq_true h1
  have d2 : decide (n ≤ m) = true := decide_eq_true h2
  go_enter Tryz.func34, Tryz.ntmps34
  go_wp2
  go_ret
  exact ⟨rfl, rfl⟩
set_option maxHeartbeats 400000 in
theorem within_no (n l m : Int) (h : ¬ (l ≤ n ∧ n ≤ m)) (w : World) : Calls Tryz.prog 34 #[.int .i64 n, .int .i64 l, .int .i64 m] w fun e w' => e = .returned (.bool false) ∧ w = w' := by
  by_cases h1 : l ≤ n
  · have d1 : decide (l ≤ n) = true := decide_eq_true h1
    have h2 : ¬ n ≤ m := fun z => h ⟨h1, z⟩
    have d2 : decide (n ≤ m) = false := decide_eq_false h2
    clear h
    go_enter Tryz.func34, Tryz.ntmps34
    go_wp2
    go_ret
    exact ⟨rfl, rfl⟩
  · have d1 : decide (l ≤ n) = false := decide_eq_false h1
    clear h
    go_enter Tryz.func34, Tryz.ntmps34
    go_wp2
    go_ret
    exact ⟨rfl, rfl⟩
set_option maxHeartbeats 400000 in
theorem within64_yes (n l m : Int) (h1 : l ≤ n) (h2 : n ≤ m) (w : World) : Calls Tryz.prog 54 #[.int .i64 n, .int .i64 l, .int .i64 m] w fun e w' => e = .returned (.bool true) ∧ w = w' := by
  have d1 : decide (l ≤ n) = true := decide_eq_true h1
  have d2 : decide (n ≤ m) = true := decide_eq_true h2
  go_enter Tryz.func54, Tryz.ntmps54
  go_wp2
  go_ret
  exact ⟨rfl, rfl⟩
set_option maxHeartbeats 400000 in
theorem within64_no (n l m : Int) (h : ¬ (l ≤ n ∧ n ≤ m)) (w : World) : Calls Tryz.prog 54 #[.int .i64 n, .int .i64 l, .int .i64 m] w fun e w' => e = .returned (.bool false) ∧ w = w' := by
  by_cases h1 : l ≤ n
  · have d1 : decide (l ≤ n) = true := decide_eq_true h1
    have h2 : ¬ n ≤ m := fun z => h ⟨h1, z⟩
    have d2 : decide (n ≤ m) = false := decide_eq_false h2
    clear h
    go_enter Tryz.func54, Tryz.ntmps54
    go_wp2
    go_ret
    exact ⟨rfl, rfl⟩
  · have d1 : decide (l ≤ n) = false := decide_eq_false h1
    clear h
    go_enter Tryz.func54, Tryz.ntmps54
    go_wp2
    go_ret
    exact ⟨rfl, rfl⟩

/-- Whether numbers from 1 on fill c. -/
def fillB : List Int → Int → Bool
  | [], c => c == 0
  | x :: l, c => if 1 ≤ x ∧ x ≤ c then fillB l (c - x) else false

set_option maxRecDepth 100000 in
set_option maxHeartbeats 1000000 in
theorem fill_any (a : Option Addr) (n cap : Nat) (l : List Int) (hl : l.length = n) (hn : (n : Int) ≤ 9223372036854775807) (c : Int) (hc : c ≤ 9223372036854775807) (w : World) (h : Ints w a l) :
    Calls Tryz.prog 35 #[.slice a n cap, .int .i64 c] w fun e w' => e = .returned (.bool (fillB l c)) ∧ w = w' := by
  have H := Lib.hid h
  have HL := Lib.hid hl
  clear h hl
  go_enter Tryz.func35, Tryz.ntmps35
  go_wp2_with fail
  go_loop [1, 9] (fun u v => ∃ (k : Nat) (c' : Int), k ≤ n ∧ v = .int .i64 k ∧ u = .int .i64 c' ∧ c' ≤ 9223372036854775807 ∧ Hid (fillB (l.drop k) c' = fillB l c)) (fun _ v => (n - intOf v).toNat)
  case atStart => exact ⟨0, c, by omega, rfl, rfl, hc, by show _ = _; rw [List.drop_zero]⟩
  case round =>
    obtain ⟨k, c', hk, rfl, rfl, hc', HF⟩ := hrel
    by_cases hlt : k < n
    · obtain ⟨x, hx⟩ := nth_of HL.out hlt
      obtain ⟨g, o, rfl, c0⟩ := H.out.at_ hx
      have hd : Hid (l.drop k = x :: l.drop (k + 1)) := by
        obtain ⟨h2, h3⟩ := List.getElem?_eq_some_iff.1 hx
        show _ = _
        rw [List.drop_eq_getElem_cons h2, h3]
      clear hx
      have hk1 : (k : Int) < (n : Int) := by omega
      have hk0 : (0 : Int) ≤ (k : Int) := by omega
      by_cases hb : 1 ≤ x ∧ x ≤ c'
      · have CY := Lib.hid (fun w => within64_yes x 1 c' hb.1 hb.2 w)
        have HF2 : Hid (fillB (l.drop (k + 1)) (c' - x) = fillB l c) := by
          have := HF.out
          rw [hd.out, fillB, if_pos hb] at this
          exact this
        have hw : IntKind.i64.wrap (c' - x) = c' - x := IntWalk.i64_in _ (by omega)
        have hx2 : c' - x ≤ 9223372036854775807 := by omega
        clear HF hb
        go_wp2_with (go_at_call 54; (with_reducible refine (CY.out _).mono ?_); rintro e w3 ⟨rfl, rfl⟩)
        go_round
        case rel => exact ⟨k + 1, c' - x, by omega, by go_num, by first | rfl | (rw [hw]), hx2, HF2⟩
        case measure => simp [intOf]; omega
      · have CN := Lib.hid (fun w => within64_no x 1 c' hb w)
        have HF2 : Hid (false = fillB l c) := by
          have := HF.out
          rw [hd.out, fillB, if_neg hb] at this
          exact this
        clear HF hb
        go_wp2_with (go_at_call 54; (with_reducible refine (CN.out _).mono ?_); rintro e w3 ⟨rfl, rfl⟩)
        go_ret
        rw [← HF2.out]
        exact ⟨rfl, rfl⟩
    · obtain rfl : k = n := by omega
      have HF2 : Hid ((c' == 0) = fillB l c) := by
        have := HF.out
        rw [List.drop_of_length_le (by rw [HL.out]; exact Nat.le_refl _), fillB] at this
        exact this
      clear HF
      go_wp2_with fail
      go_ret
      rw [← HF2.out]
      exact ⟨rfl, rfl⟩

/-- Which one is less. -/
def cmpI (x y : Int) : Int := if x < y then -1 else if y < x then 1 else 0
/-- A number led into the room from 0 to below m. -/
def restI (n m : Int) : Int := n % m
set_option maxHeartbeats 1000000 in
theorem rest_any (n m : Int) (hm : 0 < m) (hm2 : m ≤ 2000000) (w : World) : Calls Tryz.prog 43 #[.int .i64 n, .int .i64 m] w fun e w' => e = .returned (.int .i64 (restI n m)) ∧ w = w' := by
  have a := Int.tmod_lt_of_pos n hm
  have b := Int.lt_tmod_of_pos n hm
  have e : restI n m = (n.tmod m + m) % m := by
    unfold restI
    rw [Int.add_emod_right]
    rw [Int.tmod_eq_emod]
    split
    · simp
    · simp [Int.sub_emod, Int.emod_emod_of_dvd]
      have : ((m.natAbs : Int)) = m := by omega
      simp [this]
  have d1 : (m == 0) = false := by rw [beq_eq_false_iff_ne]; omega
  rw [e]
  obtain ⟨t, ht⟩ : ∃ t, n.tmod m = t := ⟨_, rfl⟩
  rw [ht] at a b ⊢
  have hw : IntKind.i64.wrap (t + m) = t + m := IntWalk.i64_in _ (by omega)
  have a2 : (t + m) % m < m := Int.emod_lt_of_pos _ hm
  have b2 : 0 ≤ (t + m) % m := Int.emod_nonneg _ (by omega)
  clear e
  have h0 : ¬ m = 0 := by omega
  go_enter Tryz.func43, Tryz.ntmps43
  go_wp2
  go_ret
  exact ⟨rfl, rfl⟩
end Go.Proofs.YtlpffgmfgkleiaaGreatDoor

/-
  The walks over chunks, and over the search for a set that may not be.
-/
namespace Go.Proofs.YtlpffgmfgkleiaaGreatDoor
open Go.RowKit Go.Maps

theorem ints_second (w : World) (o : Obj) (x : Int) (T : TypeId) : Ints ((w.alloc o).alloc (.cells #[.int .i64 x] T)) (some ⟨w.heap.size + 1, 0, none⟩) [x] := by
  have := ints_new (w.alloc o) x T
  rwa [World.size_alloc] at this
/-- The chunks of a task; without any, all of its work is one. -/
def chunksOf (x : TV) : List Int := if x.ch = [] then [x.c] else x.ch
/-- A row of numbers that comes back. -/
def RowBack (l : List Int) (w : World) (e : Ending) (w' : World) : Prop :=
  ∃ a c, e = .returned (.slice a l.length c) ∧ Ints w' a l ∧ Below w.heap.size w w' ∧ (l.length : Int) ≤ 9223372036854775807

/-- The same of chunks: one, or the task's own row. -/
def ChunksBack (x : TV) (w : World) (e : Ending) (w' : World) : Prop :=
  ∃ a c, e = .returned (.slice a (chunksOf x).length c) ∧ Ints w' a (chunksOf x) ∧ Below w.heap.size w w' ∧ ((chunksOf x).length : Int) ≤ 9223372036854775807 ∧ ((chunksOf x).length = 1 ∨ (a = x.a1 ∧ chunksOf x = x.ch))
set_option maxRecDepth 100000 in
set_option maxHeartbeats 1000000 in
theorem chunks_any (x : TV) (w : World) (hx : x.ok w) : Calls Tryz.prog 36 #[x.val] w (ChunksBack x w) := by
  obtain ⟨id, c, d, t, p, a1, ch, c1, a2, us, c2⟩ := x
  obtain ⟨i1, i2, l1, m1, l2, m2⟩ := hx
  simp only at i1 i2 l1 m1 l2 m2
  unfold TV.val
  have hC : chunksOf ⟨id, c, d, t, p, a1, ch, c1, a2, us, c2⟩ = if ch = [] then [c] else ch := rfl
  unfold ChunksBack
  rw [hC]
  clear hC
  simp only []
  by_cases h : ch = []
  · subst h
    rw [if_pos rfl]
    clear i1 i2
    go_enter Tryz.func36, Tryz.ntmps36
    go_wp2
    go_ret
    exact ⟨_, _, rfl, ints_second _ _ _ _, (by repeat (first | exact Below.refl _ _ | (with_reducible assumption) | refine bw_alloc ?_ _ | refine bw_drew ?_)), by simp, by simp⟩
  · rw [if_neg h]
    have hl : 0 < ch.length := List.length_pos_iff.2 h
    have d1 : ((ch.length : Int) == 0) = false := by rw [beq_eq_false_iff_ne]; omega
    have I1 := Lib.hid i1
    clear i1 i2 h
    go_enter Tryz.func36, Tryz.ntmps36
    go_wp2
    go_ret
    exact ⟨_, _, rfl, I1.out.below (by repeat (first | exact Below.refl _ _ | (with_reducible assumption) | refine bw_alloc ?_ _ | refine bw_drew ?_)), (by repeat (first | exact Below.refl _ _ | (with_reducible assumption) | refine bw_alloc ?_ _ | refine bw_drew ?_)), by omega, by simp⟩

/-- The same, over an elder world. -/
def RowUnder (l : List Int) (W : World) (e : Ending) (w' : World) : Prop :=
  ∃ a c, e = .returned (.slice a l.length c) ∧ Ints w' a l ∧ Below W.heap.size W w' ∧ (l.length : Int) ≤ 9223372036854775807
theorem chunks_under (x : TV) (W w : World) (hb : Below W.heap.size W w) (hx : x.ok W) : Calls Tryz.prog 36 #[.agg #[.int .i64 x.id, .int .i64 x.c, .int .i64 x.d, .int .i64 x.t, .int .i64 x.p, .slice x.a1 x.ch.length x.c1, .slice x.a2 x.us.length x.c2]] w (RowUnder (chunksOf x) W) :=
  (chunks_any x w (hx.below hb)).mono fun _ _ ⟨a, c, h1, h2, h3, h4, _⟩ => ⟨a, c, h1, h2, below_up hb h3, h4⟩
/-- A task in a box. -/
structure AtB (w : World) (g : Nat) (x : TV) : Prop where
  c0 : w.cell? ⟨g, 0, none⟩ = some (.int .i64 x.id)
  c1 : w.cell? ⟨g, 1, none⟩ = some (.int .i64 x.c)
  c2 : w.cell? ⟨g, 2, none⟩ = some (.int .i64 x.d)
  c3 : w.cell? ⟨g, 3, none⟩ = some (.int .i64 x.t)
  c4 : w.cell? ⟨g, 4, none⟩ = some (.int .i64 x.p)
  c5 : w.cell? ⟨g, 5, none⟩ = some (.slice x.a1 x.ch.length x.c1)
  c6 : w.cell? ⟨g, 6, none⟩ = some (.slice x.a2 x.us.length x.c2)
theorem AtB.below {w w' : World} {g : Nat} {x : TV} (h : AtB w g x) (hb : Below w.heap.size w w') : AtB w' g x :=
  ⟨kept_cell hb h.c0, kept_cell hb h.c1, kept_cell hb h.c2, kept_cell hb h.c3, kept_cell hb h.c4, kept_cell hb h.c5, kept_cell hb h.c6⟩
theorem atB_new (w : World) (x : TV) (T : TypeId) : AtB (w.alloc (.cells #[.int .i64 x.id, .int .i64 x.c, .int .i64 x.d, .int .i64 x.t, .int .i64 x.p, .slice x.a1 x.ch.length x.c1, .slice x.a2 x.us.length x.c2] T)) w.heap.size x :=
  ⟨by rw [World.cell?_alloc_new]; rfl, by rw [World.cell?_alloc_new]; rfl, by rw [World.cell?_alloc_new]; rfl, by rw [World.cell?_alloc_new]; rfl, by rw [World.cell?_alloc_new]; rfl, by rw [World.cell?_alloc_new]; rfl, by rw [World.cell?_alloc_new]; rfl⟩
theorem AtB.view {w : World} {g : Nat} {x : TV} (h : AtB w g x) : View w (some ⟨g, 0, none⟩) [x] := View.of_at ⟨h.c0, h.c1, h.c2, h.c3, h.c4, h.c5, h.c6⟩

/-- A set that may not be. -/
def badB (s : Int) (u : Int) : Bool := decide (u < 0 ∨ s ≤ u)
set_option maxHeartbeats 1000000 in
theorem bad_any (u s : Int) (b : Nat) (w : World) (h : w.cell? ⟨b, 0, none⟩ = some (.int .i64 s)) : Calls Tryz.prog 38 #[.int .i64 u, .pointer (some ⟨b, 0, none⟩)] w fun e w' => e = .returned (.bool (badB s u)) ∧ w = w' := by
  unfold badB
  by_cases h1 : u < 0
  · rw [decide_eq_true (.inl h1)]
    go_enter Tryz.func38, Tryz.ntmps38
    go_wp2
    go_ret
    exact ⟨rfl, rfl⟩
  · by_cases h2 : s ≤ u
    · rw [decide_eq_true (.inr h2)]
      go_enter Tryz.func38, Tryz.ntmps38
      go_wp2
      go_ret
      exact ⟨rfl, rfl⟩
    · rw [decide_eq_false (fun z => z.elim h1 h2)]
      go_enter Tryz.func38, Tryz.ntmps38
      go_wp2
      go_ret
      exact ⟨rfl, rfl⟩

theorem any_take {l : List Int} {f : Int → Bool} {k : Nat} {x : Int} (h : (l.take k).any f = false) (hx : l[k]? = some x) (hf : f x = false) : (l.take (k + 1)).any f = false := by
  rw [List.take_add_one, hx, List.any_append, h]
  simp [hf]
theorem any_found {l : List Int} {f : Int → Bool} {k : Nat} {x : Int} (hx : l[k]? = some x) (hf : f x = true) : l.any f = true :=
  List.any_eq_true.2 ⟨x, List.mem_of_getElem? hx, hf⟩
theorem any_all {l : List Int} {f : Int → Bool} {k : Nat} (h : (l.take k).any f = false) (hl : l.length = k) : l.any f = false := by
  rwa [List.take_of_length_le (by omega)] at h

/-- Where the first one is, if there is one. -/
def Found (l : List Int) (f : Int → Bool) (w : World) (e : Ending) (w' : World) : Prop :=
  ∃ z : Int, e = .returned (.int .i64 z) ∧ decide (0 ≤ z) = l.any f ∧ w = w'

set_option maxRecDepth 100000 in
set_option maxHeartbeats 2000000 in
theorem indexI_any (a : Option Addr) (n cap : Nat) (l : List Int) (hl : l.length = n) (hn : (n : Int) ≤ 9223372036854775807) (s : Int) (b : Nat) (w : World) (h : Ints w a l) (hb : w.cell? ⟨b, 0, none⟩ = some (.int .i64 s)) :
    Calls Tryz.prog 60 #[.slice a n cap, .func (.func 38) #[] #[.pointer (some ⟨b, 0, none⟩)]] w (Found l (badB s) w) := by
  have H := Lib.hid h
  have HL := Lib.hid hl
  have HB := Lib.hid hb
  clear h hl hb
  go_enter Tryz.func60, Tryz.ntmps60
  go_wp2_with fail
  go_loop [8] (fun u => ∃ k : Nat, k ≤ n ∧ u = .int .i64 k ∧ Hid ((l.take k).any (badB s) = false)) (fun u => (n - intOf u).toNat)
  case atStart => exact ⟨0, by omega, rfl, by show _ = _; simp⟩
  case round =>
    obtain ⟨k, hk, rfl, HS⟩ := hrel
    by_cases hlt : k < n
    · obtain ⟨x, hx⟩ := nth_of HL.out hlt
      obtain ⟨g, o, rfl, c0⟩ := H.out.at_ hx
      have hk1 : (k : Int) < (n : Int) := by omega
      have hk0 : (0 : Int) ≤ (k : Int) := by omega
      have C := Lib.hid (bad_any x s b w HB.out)
      by_cases hf : badB s x = true
      · have HF := Lib.hid (any_found hx hf)
        rw [hf] at C
        clear hx hf HS
        go_wp2_with (go_at_call 38; (with_reducible refine (C.out).mono ?_); rintro e w1 ⟨rfl, rfl⟩)
        go_ret
        exact ⟨_, rfl, by rw [HF.out]; simp, rfl⟩
      · have hf2 : badB s x = false := by simpa using hf
        have HS2 := Lib.hid (any_take HS.out hx hf2)
        rw [hf2] at C
        clear hx hf hf2 HS
        go_wp2_with (go_at_call 38; (with_reducible refine (C.out).mono ?_); rintro e w1 ⟨rfl, rfl⟩)
        go_round
        case rel => exact ⟨k + 1, by omega, by go_num, HS2⟩
        case measure => simp [intOf]; omega
    · obtain rfl : n = k := by omega
      have HF := Lib.hid (any_all HS.out HL.out)
      go_wp2_with fail
      go_ret
      exact ⟨_, rfl, by rw [HF.out]; simp, rfl⟩

set_option maxRecDepth 100000 in
set_option maxHeartbeats 1000000 in
theorem contains_any (a : Option Addr) (n cap : Nat) (l : List Int) (hl : l.length = n) (hn : (n : Int) ≤ 9223372036854775807) (s : Int) (b : Nat) (w : World) (h : Ints w a l) (hb : w.cell? ⟨b, 0, none⟩ = some (.int .i64 s)) :
    Calls Tryz.prog 37 #[.slice a n cap, .func (.func 38) #[] #[.pointer (some ⟨b, 0, none⟩)]] w fun e w' => e = .returned (.bool (l.any (badB s))) ∧ w = w' := by
  have C := Lib.hid (indexI_any a n cap l hl hn s b w h hb)
  clear h hb hl
  go_enter Tryz.func37, Tryz.ntmps37
  go_wp2_with (go_at_call 60; (with_reducible refine (C.out).mono ?_); rintro e w1 ⟨z, rfl, hz, rfl⟩; have HZ := Lib.hid hz; clear hz)
  go_ret
  rw [← HZ.out]
  exact ⟨rfl, rfl⟩
end Go.Proofs.YtlpffgmfgkleiaaGreatDoor

/-
  The walk over what is wrong with a task.
-/
namespace Go.Proofs.YtlpffgmfgkleiaaGreatDoor
open Go.RowKit Go.Maps

/-- What is wrong with a task, beside so many sets. -/
def idBad (x : TV) : Prop := ¬ (1 ≤ x.id ∧ x.id ≤ 99 ∧ 1 ≤ x.p ∧ x.p ≤ 99)
def cdBad (x : TV) : Prop := ¬ (1 ≤ x.c ∧ x.c ≤ x.d ∧ x.d ≤ x.t ∧ x.t ≤ 1073741824)
def chBad (x : TV) : Prop := 64 < x.ch.length ∨ (x.ch ≠ [] ∧ fillB x.ch x.c = false)
def usBad (x : TV) (s : Int) : Prop := 64 < x.us.length ∨ x.us.any (badB s) = true
instance (x : TV) : Decidable (idBad x) := by unfold idBad; infer_instance
instance (x : TV) : Decidable (cdBad x) := by unfold cdBad; infer_instance
instance (x : TV) : Decidable (chBad x) := by unfold chBad; infer_instance
instance (x : TV) (s : Int) : Decidable (usBad x s) := by unfold usBad; infer_instance
def rightOf (x : TV) (s : Int) : Int := if idBad x then 1 else if cdBad x then 10 else if chBad x then 13 else if usBad x s then 12 else 0

theorem fill_chunks (x : TV) (h : 1 ≤ x.c) : fillB (chunksOf x) x.c = true ↔ ¬ (x.ch ≠ [] ∧ fillB x.ch x.c = false) := by
  unfold chunksOf
  split
  · rename_i e
    rw [fillB, if_pos ⟨h, Int.le_refl _⟩, fillB]
    simp [e]
  · rename_i e
    simp [e]

/-- A task in a box, and its bound in another one. -/
structure Boxed (w : World) (x : TV) (s : Int) (v : World) : Prop where
  low : Below w.heap.size w v
  at_ : AtB v w.heap.size x
  cell : v.cell? ⟨w.heap.size + 1, 0, none⟩ = some (.int .i64 s)
theorem Boxed.below {w v v' : World} {x : TV} {s : Int} (h : Boxed w x s v) (hb : Below v.heap.size v v') : Boxed w x s v' :=
  ⟨below_up h.low hb, h.at_.below hb, kept_cell hb h.cell⟩
theorem boxed_new {w : World} {x : TV} {s : Int} {T T' : TypeId} :
    Boxed w x s ((w.alloc (.cells #[.int .i64 x.id, .int .i64 x.c, .int .i64 x.d, .int .i64 x.t, .int .i64 x.p, .slice x.a1 x.ch.length x.c1, .slice x.a2 x.us.length x.c2] T)).alloc (.cells #[.int .i64 s] T')) :=
  ⟨(by repeat (first | exact Below.refl _ _ | (with_reducible assumption) | refine bw_alloc ?_ _ | refine bw_drew ?_)), (atB_new w x T).below ((Below.refl _ _).alloc (Nat.le_refl _) _), (new_second w _ _ _ 0).trans rfl⟩

theorem fillC {w : World} {x : TV} (hx : x.ok w) (hc : x.c ≤ 9223372036854775807) {a : Option Addr} {cap : Nat} {v : World} (hv : Ints v a (chunksOf x)) (hl : ((chunksOf x).length : Int) ≤ 9223372036854775807) {q : Bool} (hq : fillB (chunksOf x) x.c = q) :
    Calls Tryz.prog 35 #[.slice a (chunksOf x).length cap, .int .i64 x.c] v fun e w' => e = .returned (.bool q) ∧ v = w' := by
  rw [← hq]
  exact fill_any a _ cap _ rfl hl _ hc v hv

set_option maxRecDepth 100000 in
set_option maxHeartbeats 8000000 in
theorem right_any (x : TV) (s : Int) (w : World) (hx : x.ok w) : Calls Tryz.prog 15 #[x.val, .int .i64 s] w fun e w' => e = .returned (.int .i64 (rightOf x s)) ∧ Below w.heap.size w w' := by
  have HX := Lib.hid hx
  unfold TV.val
  by_cases h1 : 1 ≤ x.id ∧ x.id ≤ 99
  rotate_left
  · have hr : rightOf x s = 1 := by unfold rightOf; rw [if_pos]; unfold idBad; omega
    rw [hr]
    have C := Lib.hid (fun w => within_no x.id 1 99 h1 w)
    clear hr h1 hx
    go_enter Tryz.func15, Tryz.ntmps15
    go_wp2_with (go_at_call 34; (with_reducible refine (C.out _).mono ?_); rintro e w1 ⟨rfl, rfl⟩)
    go_ret
    exact ⟨rfl, (by repeat (first | exact Below.refl _ _ | (with_reducible assumption) | refine bw_alloc ?_ _ | refine bw_drew ?_))⟩
  by_cases h2 : 1 ≤ x.p ∧ x.p ≤ 99
  rotate_left
  · have hr : rightOf x s = 1 := by unfold rightOf; rw [if_pos]; unfold idBad; omega
    rw [hr]
    have C := Lib.hid (fun w => within_yes x.id 1 99 h1.1 h1.2 w)
    have D := Lib.hid (fun w => within_no x.p 1 99 h2 w)
    clear hr h1 h2 hx
    go_enter Tryz.func15, Tryz.ntmps15
    go_wp2_with (first
      | (go_at_call 34; (with_reducible refine (C.out _).mono ?_); rintro e w1 ⟨rfl, rfl⟩)
      | (go_at_call 34; (with_reducible refine (D.out _).mono ?_); rintro e w1 ⟨rfl, rfl⟩))
    go_ret
    exact ⟨rfl, (by repeat (first | exact Below.refl _ _ | (with_reducible assumption) | refine bw_alloc ?_ _ | refine bw_drew ?_))⟩
  have hid : ¬ idBad x := fun z => z ⟨h1.1, h1.2, h2.1, h2.2⟩
  have C := Lib.hid (fun w => within_yes x.id 1 99 h1.1 h1.2 w)
  have D := Lib.hid (fun w => within_yes x.p 1 99 h2.1 h2.2 w)
  have hr0 : rightOf x s = if cdBad x then 10 else if chBad x then 13 else if usBad x s then 12 else 0 := by unfold rightOf; rw [if_neg hid]
  rw [hr0]
  clear h1 h2 hid hr0
  by_cases h3 : cdBad x
  · rw [if_pos h3]
    clear hx
    unfold cdBad at h3
    have d : decide (x.c < 1) = true ∨ (decide (x.c < 1) = false ∧ decide (x.d < x.c) = true) ∨ (decide (x.c < 1) = false ∧ decide (x.d < x.c) = false ∧ decide (x.t < x.d) = true) ∨ (decide (x.c < 1) = false ∧ decide (x.d < x.c) = false ∧ decide (x.t < x.d) = false ∧ decide (1073741824 < x.t) = true) := by
      simp only [decide_eq_true_eq, decide_eq_false_iff_not]; omega
    clear h3
    rcases d with d1 | ⟨d1, d2⟩ | ⟨d1, d2, d3⟩ | ⟨d1, d2, d3, d4⟩
    all_goals
      go_enter Tryz.func15, Tryz.ntmps15
      go_wp2_with (first
        | (go_at_call 34; (with_reducible refine (C.out _).mono ?_); rintro e w1 ⟨rfl, rfl⟩)
        | (go_at_call 34; (with_reducible refine (D.out _).mono ?_); rintro e w1 ⟨rfl, rfl⟩))
      go_ret
      exact ⟨rfl, (by repeat (first | exact Below.refl _ _ | (with_reducible assumption) | refine bw_alloc ?_ _ | refine bw_drew ?_))⟩
  rw [if_neg h3]
  unfold cdBad at h3
  have hc1 : 1 ≤ x.c := by omega
  have hc2 : x.c ≤ 9223372036854775807 := by omega
  have d1 : decide (x.c < 1) = false := decide_eq_false (by omega)
  have d2 : decide (x.d < x.c) = false := decide_eq_false (by omega)
  have d3 : decide (x.t < x.d) = false := decide_eq_false (by omega)
  have d4 : decide (1073741824 < x.t) = false := decide_eq_false (by omega)
  clear h3
  by_cases h4 : 64 < x.ch.length
  · rw [if_pos (show chBad x from .inl h4)]
    have d5 : decide ((64 : Int) < (x.ch.length : Int)) = true := decide_eq_true (by omega)
    clear hc1 hc2 hx
    have h5 : (64 : Int) < (x.ch.length : Int) := by omega
    go_enter Tryz.func15, Tryz.ntmps15
    go_wp2_with (first
      | (go_at_call 34; (with_reducible refine (C.out _).mono ?_); rintro e w1 ⟨rfl, rfl⟩)
      | (go_at_call 34; (with_reducible refine (D.out _).mono ?_); rintro e w1 ⟨rfl, rfl⟩))
    go_ret
    exact ⟨rfl, (by repeat (first | exact Below.refl _ _ | (with_reducible assumption) | refine bw_alloc ?_ _ | refine bw_drew ?_))⟩
  have d5 : decide ((64 : Int) < (x.ch.length : Int)) = false := decide_eq_false (by omega)
  have h5 : ¬ (64 : Int) < (x.ch.length : Int) := by omega
  by_cases h6 : fillB (chunksOf x) x.c = true
  rotate_left
  · have hb : chBad x := .inr (by have := mt (fill_chunks x hc1).2 h6; simpa using this)
    rw [if_pos hb]
    have F : Hid (∀ (a : Option Addr) (cap : Nat) (v : World), Ints v a (chunksOf x) → ((chunksOf x).length : Int) ≤ 9223372036854775807 → _) := fun a cap v hv hl => fillC (cap := cap) hx hc2 hv hl (q := false) (by simpa using h6)
    clear hb h6 hc1 hc2 hx h4
    go_enter Tryz.func15, Tryz.ntmps15
    go_upto_region 10 with (first
      | (go_at_call 34; (with_reducible refine (C.out _).mono ?_); rintro e w1 ⟨rfl, rfl⟩)
      | (go_at_call 34; (with_reducible refine (D.out _).mono ?_); rintro e w1 ⟨rfl, rfl⟩))
    refine gen_world (Boxed w x s) boxed_new ?_
    intro W1 hw1
    have H1 := Lib.hid hw1
    obtain ⟨_, ⟨c0, c1, c2, c3, c4, c5, c6⟩, e0⟩ := hw1
    have K : Hid (∀ v, Below W1.heap.size W1 v → _) := fun v hb => chunks_under x W1 v hb (HX.out.below H1.out.low)
    have MK : Hid (∀ v, Below W1.heap.size W1 v → (Below W1.heap.size W1 v ∧ v.cell? ⟨w.heap.size, 0, none⟩ = some (.int .i64 x.id) ∧ v.cell? ⟨w.heap.size, 1, none⟩ = some (.int .i64 x.c) ∧ v.cell? ⟨w.heap.size, 2, none⟩ = some (.int .i64 x.d) ∧ v.cell? ⟨w.heap.size, 3, none⟩ = some (.int .i64 x.t) ∧ v.cell? ⟨w.heap.size, 4, none⟩ = some (.int .i64 x.p) ∧ v.cell? ⟨w.heap.size, 5, none⟩ = some (.slice x.a1 x.ch.length x.c1) ∧ v.cell? ⟨w.heap.size, 6, none⟩ = some (.slice x.a2 x.us.length x.c2))) :=
      fun v hb => ⟨hb, (H1.out.below hb).at_.c0, (H1.out.below hb).at_.c1, (H1.out.below hb).at_.c2, (H1.out.below hb).at_.c3, (H1.out.below hb).at_.c4, (H1.out.below hb).at_.c5, (H1.out.below hb).at_.c6⟩
    clear e0
    go_region_held3 (fun v => Below W1.heap.size W1 v ∧ v.cell? ⟨w.heap.size, 0, none⟩ = some (.int .i64 x.id) ∧ v.cell? ⟨w.heap.size, 1, none⟩ = some (.int .i64 x.c) ∧ v.cell? ⟨w.heap.size, 2, none⟩ = some (.int .i64 x.d) ∧ v.cell? ⟨w.heap.size, 3, none⟩ = some (.int .i64 x.t) ∧ v.cell? ⟨w.heap.size, 4, none⟩ = some (.int .i64 x.p) ∧ v.cell? ⟨w.heap.size, 5, none⟩ = some (.slice x.a1 x.ch.length x.c1) ∧ v.cell? ⟨w.heap.size, 6, none⟩ = some (.slice x.a2 x.us.length x.c2)) (exact MK.out _ (by repeat (first | exact Below.refl _ _ | (with_reducible assumption) | refine bw_alloc ?_ _ | refine bw_drew ?_)))
      (first
        | (go_at_call 36; (with_reducible refine (K.out _ (by repeat (first | exact Below.refl _ _ | (with_reducible assumption) | refine bw_alloc ?_ _ | refine bw_drew ?_))).mono ?_); rintro e wx ⟨a, cp, rfl, hI, bx, hl⟩)
        | (go_at_call 35; (with_reducible refine (F.out _ _ _ hI hl).mono ?_); rintro e wy ⟨rfl, rfl⟩))
    all_goals
      have BX := Lib.hid bx
      clear bx hI hl
      go_wp2
      go_ret
      exact ⟨rfl, below_up H1.out.low BX.out⟩
  have hnc : ¬ chBad x := by
    rintro (z | z)
    · exact h4 z
    · exact (fill_chunks x hc1).1 h6 z
  rw [if_neg hnc]
  have F : Hid (∀ (a : Option Addr) (cap : Nat) (v : World), Ints v a (chunksOf x) → ((chunksOf x).length : Int) ≤ 9223372036854775807 → _) := fun a cap v hv hl => fillC (cap := cap) hx hc2 hv hl (q := true) h6
  have hul : (x.us.length : Int) ≤ 9223372036854775807 := by have := hx.l2; have := hx.m2; omega
  clear hnc h6 hc1 hc2 hx h4
  by_cases h7 : 64 < x.us.length
  · rw [if_pos (show usBad x s from .inl h7)]
    have d6 : decide ((64 : Int) < (x.us.length : Int)) = true := decide_eq_true (by omega)
    have h8 : (64 : Int) < (x.us.length : Int) := by omega
    clear h7 hul
    go_enter Tryz.func15, Tryz.ntmps15
    go_upto_region 10 with (first
      | (go_at_call 34; (with_reducible refine (C.out _).mono ?_); rintro e w1 ⟨rfl, rfl⟩)
      | (go_at_call 34; (with_reducible refine (D.out _).mono ?_); rintro e w1 ⟨rfl, rfl⟩))
    refine gen_world (Boxed w x s) boxed_new ?_
    intro W1 hw1
    have H1 := Lib.hid hw1
    obtain ⟨_, ⟨c0, c1, c2, c3, c4, c5, c6⟩, e0⟩ := hw1
    have K : Hid (∀ v, Below W1.heap.size W1 v → _) := fun v hb => chunks_under x W1 v hb (HX.out.below H1.out.low)
    have MK : Hid (∀ v, Below W1.heap.size W1 v → (Below W1.heap.size W1 v ∧ v.cell? ⟨w.heap.size, 0, none⟩ = some (.int .i64 x.id) ∧ v.cell? ⟨w.heap.size, 1, none⟩ = some (.int .i64 x.c) ∧ v.cell? ⟨w.heap.size, 2, none⟩ = some (.int .i64 x.d) ∧ v.cell? ⟨w.heap.size, 3, none⟩ = some (.int .i64 x.t) ∧ v.cell? ⟨w.heap.size, 4, none⟩ = some (.int .i64 x.p) ∧ v.cell? ⟨w.heap.size, 5, none⟩ = some (.slice x.a1 x.ch.length x.c1) ∧ v.cell? ⟨w.heap.size, 6, none⟩ = some (.slice x.a2 x.us.length x.c2))) :=
      fun v hb => ⟨hb, (H1.out.below hb).at_.c0, (H1.out.below hb).at_.c1, (H1.out.below hb).at_.c2, (H1.out.below hb).at_.c3, (H1.out.below hb).at_.c4, (H1.out.below hb).at_.c5, (H1.out.below hb).at_.c6⟩
    clear e0
    go_region_held3 (fun v => Below W1.heap.size W1 v ∧ v.cell? ⟨w.heap.size, 0, none⟩ = some (.int .i64 x.id) ∧ v.cell? ⟨w.heap.size, 1, none⟩ = some (.int .i64 x.c) ∧ v.cell? ⟨w.heap.size, 2, none⟩ = some (.int .i64 x.d) ∧ v.cell? ⟨w.heap.size, 3, none⟩ = some (.int .i64 x.t) ∧ v.cell? ⟨w.heap.size, 4, none⟩ = some (.int .i64 x.p) ∧ v.cell? ⟨w.heap.size, 5, none⟩ = some (.slice x.a1 x.ch.length x.c1) ∧ v.cell? ⟨w.heap.size, 6, none⟩ = some (.slice x.a2 x.us.length x.c2)) (exact MK.out _ (by repeat (first | exact Below.refl _ _ | (with_reducible assumption) | refine bw_alloc ?_ _ | refine bw_drew ?_)))
      (first
        | (go_at_call 36; (with_reducible refine (K.out _ (by repeat (first | exact Below.refl _ _ | (with_reducible assumption) | refine bw_alloc ?_ _ | refine bw_drew ?_))).mono ?_); rintro e wx ⟨a, cp, rfl, hI, bx, hl⟩)
        | (go_at_call 35; (with_reducible refine (F.out _ _ _ hI hl).mono ?_); rintro e wy ⟨rfl, rfl⟩))
    all_goals
      have H2 := Lib.hid (H1.out.below bx)
      obtain ⟨_, ⟨f0, f1, f2, f3, f4, f5, f6⟩, g0⟩ := H2.out
      clear bx hI hl c0 c1 c2 c3 c4 c5 c6
      go_wp2
      go_ret
      exact ⟨rfl, H2.out.low⟩
  have d6 : decide ((64 : Int) < (x.us.length : Int)) = false := decide_eq_false (by omega)
  have h8 : ¬ (64 : Int) < (x.us.length : Int) := by omega
  by_cases h9 : x.us.any (badB s) = true
  · rw [if_pos (show usBad x s from .inr h9)]
    have HN := Lib.hid h9
    clear h7 h9
    go_enter Tryz.func15, Tryz.ntmps15
    go_upto_region 10 with (first
      | (go_at_call 34; (with_reducible refine (C.out _).mono ?_); rintro e w1 ⟨rfl, rfl⟩)
      | (go_at_call 34; (with_reducible refine (D.out _).mono ?_); rintro e w1 ⟨rfl, rfl⟩))
    refine gen_world (Boxed w x s) boxed_new ?_
    intro W1 hw1
    have H1 := Lib.hid hw1
    obtain ⟨_, ⟨c0, c1, c2, c3, c4, c5, c6⟩, e0⟩ := hw1
    have K : Hid (∀ v, Below W1.heap.size W1 v → _) := fun v hb => chunks_under x W1 v hb (HX.out.below H1.out.low)
    have MK : Hid (∀ v, Below W1.heap.size W1 v → (Below W1.heap.size W1 v ∧ v.cell? ⟨w.heap.size, 0, none⟩ = some (.int .i64 x.id) ∧ v.cell? ⟨w.heap.size, 1, none⟩ = some (.int .i64 x.c) ∧ v.cell? ⟨w.heap.size, 2, none⟩ = some (.int .i64 x.d) ∧ v.cell? ⟨w.heap.size, 3, none⟩ = some (.int .i64 x.t) ∧ v.cell? ⟨w.heap.size, 4, none⟩ = some (.int .i64 x.p) ∧ v.cell? ⟨w.heap.size, 5, none⟩ = some (.slice x.a1 x.ch.length x.c1) ∧ v.cell? ⟨w.heap.size, 6, none⟩ = some (.slice x.a2 x.us.length x.c2))) :=
      fun v hb => ⟨hb, (H1.out.below hb).at_.c0, (H1.out.below hb).at_.c1, (H1.out.below hb).at_.c2, (H1.out.below hb).at_.c3, (H1.out.below hb).at_.c4, (H1.out.below hb).at_.c5, (H1.out.below hb).at_.c6⟩
    clear e0
    go_region_held3 (fun v => Below W1.heap.size W1 v ∧ v.cell? ⟨w.heap.size, 0, none⟩ = some (.int .i64 x.id) ∧ v.cell? ⟨w.heap.size, 1, none⟩ = some (.int .i64 x.c) ∧ v.cell? ⟨w.heap.size, 2, none⟩ = some (.int .i64 x.d) ∧ v.cell? ⟨w.heap.size, 3, none⟩ = some (.int .i64 x.t) ∧ v.cell? ⟨w.heap.size, 4, none⟩ = some (.int .i64 x.p) ∧ v.cell? ⟨w.heap.size, 5, none⟩ = some (.slice x.a1 x.ch.length x.c1) ∧ v.cell? ⟨w.heap.size, 6, none⟩ = some (.slice x.a2 x.us.length x.c2)) (exact MK.out _ (by repeat (first | exact Below.refl _ _ | (with_reducible assumption) | refine bw_alloc ?_ _ | refine bw_drew ?_)))
      (first
        | (go_at_call 36; (with_reducible refine (K.out _ (by repeat (first | exact Below.refl _ _ | (with_reducible assumption) | refine bw_alloc ?_ _ | refine bw_drew ?_))).mono ?_); rintro e wx ⟨a, cp, rfl, hI, bx, hl⟩)
        | (go_at_call 35; (with_reducible refine (F.out _ _ _ hI hl).mono ?_); rintro e wy ⟨rfl, rfl⟩))
    all_goals
      have H2 := Lib.hid (H1.out.below bx)
      obtain ⟨_, ⟨f0, f1, f2, f3, f4, f5, f6⟩, g0⟩ := H2.out
      have G := Lib.hid (contains_any x.a2 x.us.length x.c2 x.us rfl hul s (w.heap.size + 1) _ (HX.out.below H2.out.low).two g0)
      rw [HN.out] at G
      clear bx hI hl c0 c1 c2 c3 c4 c5 c6
      go_wp2_with (go_at_call 37; (with_reducible refine (G.out).mono ?_); rintro e w1 ⟨rfl, rfl⟩)
      go_ret
      exact ⟨rfl, H2.out.low⟩
  · have hnu : ¬ usBad x s := fun z => z.elim h7 h9
    rw [if_neg hnu]
    have HN : Hid (x.us.any (badB s) = false) := by show _ = _; simpa using h9
    clear h7 h9 hnu
    go_enter Tryz.func15, Tryz.ntmps15
    go_upto_region 10 with (first
      | (go_at_call 34; (with_reducible refine (C.out _).mono ?_); rintro e w1 ⟨rfl, rfl⟩)
      | (go_at_call 34; (with_reducible refine (D.out _).mono ?_); rintro e w1 ⟨rfl, rfl⟩))
    refine gen_world (Boxed w x s) boxed_new ?_
    intro W1 hw1
    have H1 := Lib.hid hw1
    obtain ⟨_, ⟨c0, c1, c2, c3, c4, c5, c6⟩, e0⟩ := hw1
    have K : Hid (∀ v, Below W1.heap.size W1 v → _) := fun v hb => chunks_under x W1 v hb (HX.out.below H1.out.low)
    have MK : Hid (∀ v, Below W1.heap.size W1 v → (Below W1.heap.size W1 v ∧ v.cell? ⟨w.heap.size, 0, none⟩ = some (.int .i64 x.id) ∧ v.cell? ⟨w.heap.size, 1, none⟩ = some (.int .i64 x.c) ∧ v.cell? ⟨w.heap.size, 2, none⟩ = some (.int .i64 x.d) ∧ v.cell? ⟨w.heap.size, 3, none⟩ = some (.int .i64 x.t) ∧ v.cell? ⟨w.heap.size, 4, none⟩ = some (.int .i64 x.p) ∧ v.cell? ⟨w.heap.size, 5, none⟩ = some (.slice x.a1 x.ch.length x.c1) ∧ v.cell? ⟨w.heap.size, 6, none⟩ = some (.slice x.a2 x.us.length x.c2))) :=
      fun v hb => ⟨hb, (H1.out.below hb).at_.c0, (H1.out.below hb).at_.c1, (H1.out.below hb).at_.c2, (H1.out.below hb).at_.c3, (H1.out.below hb).at_.c4, (H1.out.below hb).at_.c5, (H1.out.below hb).at_.c6⟩
    clear e0
    go_region_held3 (fun v => Below W1.heap.size W1 v ∧ v.cell? ⟨w.heap.size, 0, none⟩ = some (.int .i64 x.id) ∧ v.cell? ⟨w.heap.size, 1, none⟩ = some (.int .i64 x.c) ∧ v.cell? ⟨w.heap.size, 2, none⟩ = some (.int .i64 x.d) ∧ v.cell? ⟨w.heap.size, 3, none⟩ = some (.int .i64 x.t) ∧ v.cell? ⟨w.heap.size, 4, none⟩ = some (.int .i64 x.p) ∧ v.cell? ⟨w.heap.size, 5, none⟩ = some (.slice x.a1 x.ch.length x.c1) ∧ v.cell? ⟨w.heap.size, 6, none⟩ = some (.slice x.a2 x.us.length x.c2)) (exact MK.out _ (by repeat (first | exact Below.refl _ _ | (with_reducible assumption) | refine bw_alloc ?_ _ | refine bw_drew ?_)))
      (first
        | (go_at_call 36; (with_reducible refine (K.out _ (by repeat (first | exact Below.refl _ _ | (with_reducible assumption) | refine bw_alloc ?_ _ | refine bw_drew ?_))).mono ?_); rintro e wx ⟨a, cp, rfl, hI, bx, hl⟩)
        | (go_at_call 35; (with_reducible refine (F.out _ _ _ hI hl).mono ?_); rintro e wy ⟨rfl, rfl⟩))
    all_goals
      have H2 := Lib.hid (H1.out.below bx)
      obtain ⟨_, ⟨f0, f1, f2, f3, f4, f5, f6⟩, g0⟩ := H2.out
      have G := Lib.hid (contains_any x.a2 x.us.length x.c2 x.us rfl hul s (w.heap.size + 1) _ (HX.out.below H2.out.low).two g0)
      rw [HN.out] at G
      clear bx hI hl c0 c1 c2 c3 c4 c5 c6
      go_wp2_with (go_at_call 37; (with_reducible refine (G.out).mono ?_); rintro e w1 ⟨rfl, rfl⟩)
      go_ret
      exact ⟨rfl, H2.out.low⟩
end Go.Proofs.YtlpffgmfgkleiaaGreatDoor

/-
  The walks over how much work is done at the end of each chunk; what is asked of all tasks at the beginning.
-/
namespace Go.Proofs.YtlpffgmfgkleiaaGreatDoor
open Go.RowKit Go.Maps

theorem infoLong : (Tryz.prog.info? 2).map (fun i => (i.zero, i.size, i.bytes)) = some (some (.int .i64 0), 1, 8) := by kernel_rfl
theorem make_long (c : Nat) (hc : c ≤ 2000000000) (w : World) : (Instr.makeSlice 23 (.int .i64 0) (.int .i64 (c : Int))).run Tryz.prog w = .ok (.slice (some ⟨w.heap.size, 0, none⟩) 0 c) (w.alloc (.cells (madeCells #[.int .i64 0] c) 2)) := by
  obtain ⟨i0, hi, hz0, hz1, hz2⟩ := info_parts infoLong
  have h := run_make w 23 2 i0 (.int .i64 0) Tryz.underlying23 hi hz0 .i64 .i64 0 c (by omega) (by omega) (by rw [hz2]; omega) (by omega)
  rw [hz1] at h
  simpa [Value.cells] using h

/-- The sums of a row, from d on. -/
def sumsFrom : Int → List Int → List Int
  | _, [] => []
  | d, x :: l => (d + x) :: sumsFrom (d + x) l
def endsOf (x : TV) : List Int := sumsFrom 0 (chunksOf x)
theorem sums_len : ∀ (l : List Int) (d : Int), (sumsFrom d l).length = l.length
  | [], _ => rfl
  | x :: l, d => by simp [sumsFrom, sums_len l]
theorem fill_len : ∀ (l : List Int) (c : Int), 0 ≤ c → fillB l c = true → (l.length : Int) ≤ c
  | [], c, h, _ => by simpa using h
  | x :: l, c, h, hf => by
    rw [fillB] at hf
    by_cases g : 1 ≤ x ∧ x ≤ c
    · rw [if_pos g] at hf
      have := fill_len l (c - x) (by omega) hf
      simp only [List.length_cons]; omega
    · rw [if_neg g] at hf; cases hf
theorem fill_drop {l : List Int} {k : Nat} {x c : Int} (hx : l[k]? = some x) : fillB (l.drop k) c = if 1 ≤ x ∧ x ≤ c then fillB (l.drop (k + 1)) (c - x) else false := by
  obtain ⟨h2, h3⟩ := List.getElem?_eq_some_iff.1 hx
  rw [List.drop_eq_getElem_cons h2, h3, fillB]
theorem sums_step {l R : List Int} {k : Nat} {x d : Int} (hx : l[k]? = some x) (h : R ++ sumsFrom d (l.drop k) = sumsFrom 0 l) : (R ++ [d + x]) ++ sumsFrom (d + x) (l.drop (k + 1)) = sumsFrom 0 l := by
  obtain ⟨h2, h3⟩ := List.getElem?_eq_some_iff.1 hx
  rw [List.drop_eq_getElem_cons h2, h3, sumsFrom] at h
  rw [← h]; simp

/-- A row of one's own that was made with room. -/
theorem own_made (w : World) (o : Obj) (cap : Nat) (hc : cap ≤ 2000000000) (T : TypeId) : OwnI ((w.alloc o).alloc (.cells (madeCells #[.int .i64 0] cap) T)) T (w.heap.size + 1) (.slice (some ⟨w.heap.size + 1, 0, none⟩) 0 cap) [] := by
  have := World.ownsRow_made (e := T) (size := 1) (base := w.heap.size + 1) (w := w.alloc o) (madeCells #[.int .i64 0] cap) cap (by simp) (by unfold maxLen; omega) (by rw [size_madeCells]; omega)
  rwa [World.size_alloc] at this
/-- A task in a box, and a row of one's own. -/
structure EndsAt (w : World) (x : TV) (v : Value) (l : List Int) (W : World) : Prop where
  low : Below w.heap.size w W
  box : AtB W w.heap.size x
  own : OwnI W 2 (w.heap.size + 1) v l
theorem EndsAt.below {w W W' : World} {x : TV} {v : Value} {l : List Int} (h : EndsAt w x v l W) (hb : Below W.heap.size W W') : EndsAt w x v l W' := ⟨below_up h.low hb, h.box.below hb, h.own.below hb⟩
theorem endsAt_new {w : World} {x : TV} {T : TypeId} {cap : Nat} (hc : cap ≤ 2000000000) : EndsAt w x (.slice (some ⟨w.heap.size + 1, 0, none⟩) 0 cap) [] ((w.alloc (.cells #[.int .i64 x.id, .int .i64 x.c, .int .i64 x.d, .int .i64 x.t, .int .i64 x.p, .slice x.a1 x.ch.length x.c1, .slice x.a2 x.us.length x.c2] T)).alloc (.cells (madeCells #[.int .i64 0] cap) 2)) :=
  ⟨(by repeat (first | exact Below.refl _ _ | (with_reducible assumption) | refine bw_alloc ?_ _ | refine bw_drew ?_)), (atB_new w x T).below ((Below.refl _ _).alloc (Nat.le_refl _) _), own_made w _ cap hc _⟩
theorem kept_objB {B : Nat} {w w' : World} (hb : Below B w w') {b : Nat} {o : Obj} (hl : b < B) (h : w.heap[b]? = some o) : w'.heap[b]? = some o := (hb.block b hl).trans h
theorem kept_cellB {B : Nat} {w w' : World} (hb : Below B w w') {b o : Nat} {v : Value} (hl : b < B) (h : w.cell? ⟨b, o, none⟩ = some v) : w'.cell? ⟨b, o, none⟩ = some v := by
  rw [hb.cell (p := ⟨b, o, none⟩) hl]; exact h
theorem AtB.belowB {B : Nat} {w w' : World} {g : Nat} {x : TV} (h : AtB w g x) (hb : Below B w w') (hg : g < B) : AtB w' g x :=
  ⟨kept_cellB hb hg h.c0, kept_cellB hb hg h.c1, kept_cellB hb hg h.c2, kept_cellB hb hg h.c3, kept_cellB hb hg h.c4, kept_cellB hb hg h.c5, kept_cellB hb hg h.c6⟩
theorem EndsAt.grown {w W W' : World} {x : TV} {v v' : Value} {l l' : List Int} (h : EndsAt w x v l W) (hg : W.grownBy W' v.ownBlock) (ho : OwnI W' 2 (w.heap.size + 1) v' l') : EndsAt w x v' l' W' := by
  have hs := block_of_cell h.box.c0
  have hb : Below (w.heap.size + 1) W W' := (Below.refl _ W).grown hg hs (fun k hk => (h.own.new hk).1)
  exact ⟨h.low.trans (hb.mono (by omega)), h.box.belowB hb (by omega), ho⟩
theorem chunks_pos (x : TV) : 0 < (chunksOf x).length := by
  unfold chunksOf
  split
  · simp
  · rename_i e; exact List.length_pos_iff.2 e

end Go.Proofs.YtlpffgmfgkleiaaGreatDoor
