/- Texts of this claim, put together: KMem, KW2, KW3, KW1, KW6, KW11, BNum, BPop, BMem, BWalk1, BWalk2, BWalk3, BEq, BWalk4. -/
import Derived.Test.YtflemmmaakhahaaChecked
import Derived.WalkKit
import Derived.WalkSpells
import Derived.WalkLawsBesides
import Derived.Lib.Hide
import Derived.Lib.SmallJoins
import Derived.Below
import Derived.IntWalk
import Derived.WalkMore
import Derived.Deep.QuietTactic
import Derived.Deep.RegionLaw
import Derived.BigQuiet
import Derived.BigRegion
import Derived.RegionTactic
import Derived.Maps.AppendAt
import Derived.Deep.AppendSrc
import Derived.Deep.DeepCutAuto
import Derived.Deep.LoopGhost
import Derived.Deep.CutRange
import Derived.Deep.CutBlock
import Derived.Deep.Cut
import Derived.Tactics2
import Derived.OwnWalk
import Derived.Maps.OwnSet
import Derived.Laws.EntriesVeiled
import Derived.Deep.RegionWith
import Derived.Deep.RegionHeld3
import Derived.StillTailTactics
import Derived.Laws.Bits64b
import Derived.Laws.BitsAllLaws
import Derived.Laws.Externs
import Derived.Laws.Bits128
set_option linter.unusedVariables false
set_option linter.unusedSimpArgs false

/-
  What rows of numbers, tasks and rows of tasks hold, in a world and in later ones.
-/
namespace Go.Proofs.Ytflemmmaakhahaa
open Go.RowKit Go.Maps

theorem block_of_cell {w : World} {a : Addr} {v : Value} (h : w.cell? a = some v) : a.block < w.heap.size := by
  rcases Nat.lt_or_ge a.block w.heap.size with g | g
  · exact g
  · simp [World.cell?, Array.getElem?_eq_none g] at h
theorem lt_of_block {w : World} {b : Nat} {o : Obj} (h : w.heap[b]? = some o) : b < w.heap.size := (Array.getElem?_eq_some_iff.1 h).1
theorem addr_at (g o t : Nat) : (⟨g, o, none⟩ : Addr).add t = ⟨g, o + t, none⟩ := by
  unfold Addr.add; split <;> simp_all
theorem kept_cell {w w' : World} (hb : Below w.heap.size w w') {b o : Nat} {v : Value} (h : w.cell? ⟨b, o, none⟩ = some v) : w'.cell? ⟨b, o, none⟩ = some v := by
  rw [hb.cell (p := ⟨b, o, none⟩) (block_of_cell h)]; exact h
theorem kept_obj {w w' : World} (hb : Below w.heap.size w w') {b : Nat} {o : Obj} (h : w.heap[b]? = some o) : w'.heap[b]? = some o := (hb.block b (lt_of_block h)).trans h
/-- The walk goes on in a world of which only so much is known. -/
theorem gen_world {P : Program} {c : Code} {Q : Exit → Act → World → Prop} {a : Act} {w : World} (S : World → Prop) (h : S w) (k : ∀ w', S w' → c.wp P Q a w') : c.wp P Q a w := k w h
theorem blk_set {w : World} {b o : Nat} {cs : Array Value} {T : TypeId} {fr : Nat × Nat} (h : w.heap[b]? = some (.cells cs T fr)) (v : Value) : (w.setCell ⟨b, o, none⟩ v).heap[b]? = some (.cells (cs.setIfInBounds o v) T fr) := by
  simp [World.setCell, Array.getElem?_modify, h]
theorem blk_far {w : World} {b : Nat} {a : Addr} (hne : b ≠ a.block) (v : Value) : (w.setCell a v).heap[b]? = w.heap[b]? := Below.heap_setCell w a v b hne
theorem blk_cell {w : World} {b : Nat} {cs : Array Value} {T : TypeId} {fr : Nat × Nat} (h : w.heap[b]? = some (.cells cs T fr)) (o : Nat) : w.cell? ⟨b, o, none⟩ = cs[o]? := cell_of_row w b o cs T fr h
theorem blk_free {w : World} {b : Nat} {cs : Array Value} {T : TypeId} (h : w.heap[b]? = some (.cells cs T (0, 0))) (o : Nat) : w.frozen? ⟨b, o, none⟩ = false := by
  simp [World.frozen?, h]
theorem below_same {B : Nat} {W w w' : World} (h : Below B W w) (e : w'.heap = w.heap) (e1 : w'.os = w.os) (e2 : w'.tape = w.tape) (e3 : w'.output = w.output) : Below B W w' :=
  ⟨e1.trans h.os, e2.trans h.tape, e3.trans h.output, by rw [e]; exact h.size, fun k hk => by rw [e]; exact h.block k hk⟩
theorem below_up {W w w' : World} (h : Below W.heap.size W w) (k : Below w.heap.size w w') : Below W.heap.size W w' := h.trans (k.mono h.size)

/-! ### rows of numbers -/
/-- A row of numbers that can be read. -/
def Ints (w : World) (a : Option Addr) (l : List Int) : Prop :=
  l = [] ∨ ∃ g o, a = some ⟨g, o, none⟩ ∧ ∀ (j : Nat) (u : Int), l[j]? = some u → w.cell? ⟨g, o + j, none⟩ = some (.int .i64 u)
theorem Ints.nil {w : World} {a : Option Addr} : Ints w a [] := .inl rfl
theorem Ints.at_ {w : World} {a : Option Addr} {l : List Int} (h : Ints w a l) {k : Nat} {x : Int} (hx : l[k]? = some x) : ∃ g o, a = some ⟨g, o, none⟩ ∧ w.cell? ⟨g, o + k, none⟩ = some (.int .i64 x) := by
  rcases h with rfl | ⟨g, o, rfl, hc⟩
  · simp at hx
  · exact ⟨g, o, rfl, hc _ _ hx⟩
theorem Ints.below {w w' : World} {a : Option Addr} {l : List Int} (h : Ints w a l) (hb : Below w.heap.size w w') : Ints w' a l := by
  rcases h with rfl | ⟨g, o, rfl, hc⟩
  · exact .inl rfl
  · exact .inr ⟨g, o, rfl, fun j u hj => kept_cell hb (hc j u hj)⟩
theorem Ints.take {w : World} {a : Option Addr} {l : List Int} (h : Ints w a l) (k : Nat) : Ints w a (l.take k) := by
  rcases h with rfl | ⟨g, o, rfl, hc⟩
  · left; simp
  · refine .inr ⟨g, o, rfl, fun j u hj => ?_⟩
    rw [List.getElem?_take] at hj
    split at hj
    · exact hc j u hj
    · cases hj
theorem Ints.nothing {w : World} {l : List Int} (h : Ints w none l) : l = [] := by
  rcases h with rfl | ⟨g, o, e, _⟩
  · rfl
  · cases e
theorem Ints.of_block {w : World} {g : Nat} {l : List Int} {cs : Array Value} {T : TypeId} {fr : Nat × Nat} (h : w.heap[g]? = some (.cells cs T fr)) (hl : ∀ (j : Nat) (u : Int), l[j]? = some u → cs[j]? = some (.int .i64 u)) : Ints w (some ⟨g, 0, none⟩) l :=
  .inr ⟨g, 0, rfl, fun j u hj => by rw [Nat.zero_add, blk_cell h]; exact hl j u hj⟩
def I64 (x : Int) : Prop := -9223372036854775808 ≤ x ∧ x ≤ 9223372036854775807
theorem i64_of_wf {x : Int} (h : (Lit.int .i64 x).wf = true) : I64 x := by
  simp [Lit.wf, IntKind.min, IntKind.max, IntKind.signed, IntKind.bits] at h
  unfold I64; omega

/-! ### tasks -/
/-- A task as it stands in memory: its numbers, and its two rows. -/
structure TV where
  id : Int
  c : Int
  d : Int
  t : Int
  p : Int
  a1 : Option Addr
  ch : List Int
  c1 : Nat
  a2 : Option Addr
  us : List Int
  c2 : Nat
/-- A task as it is meant. -/
structure Tk where
  id : Int
  c : Int
  d : Int
  t : Int
  p : Int
  ch : List Int
  us : List Int
deriving DecidableEq
def TV.tk (x : TV) : Tk := ⟨x.id, x.c, x.d, x.t, x.p, x.ch, x.us⟩
def TV.cells (x : TV) : List Value := [.int .i64 x.id, .int .i64 x.c, .int .i64 x.d, .int .i64 x.t, .int .i64 x.p, .slice x.a1 x.ch.length x.c1, .slice x.a2 x.us.length x.c2]
def TV.val (x : TV) : Value := .agg #[.int .i64 x.id, .int .i64 x.c, .int .i64 x.d, .int .i64 x.t, .int .i64 x.p, .slice x.a1 x.ch.length x.c1, .slice x.a2 x.us.length x.c2]
/-- Its rows can be read. -/
structure TV.ok (w : World) (x : TV) : Prop where
  one : Ints w x.a1 x.ch
  two : Ints w x.a2 x.us
  l1 : x.ch.length ≤ x.c1
  m1 : (x.c1 : Int) ≤ 9223372036854775807
  l2 : x.us.length ≤ x.c2
  m2 : (x.c2 : Int) ≤ 9223372036854775807
theorem TV.ok.below {w w' : World} {x : TV} (h : x.ok w) (hb : Below w.heap.size w w') : x.ok w' := ⟨h.one.below hb, h.two.below hb, h.l1, h.m1, h.l2, h.m2⟩
def AllOk (w : World) (L : List TV) : Prop := ∀ x ∈ L, x.ok w
theorem AllOk.below {w w' : World} {L : List TV} (h : AllOk w L) (hb : Below w.heap.size w w') : AllOk w' L := fun x hx => (h x hx).below hb
theorem AllOk.at_ {w : World} {L : List TV} (h : AllOk w L) {k : Nat} {x : TV} (hx : L[k]? = some x) : x.ok w := h x (List.mem_of_getElem? hx)
theorem AllOk.append {w : World} {L M : List TV} (h : AllOk w L) (k : AllOk w M) : AllOk w (L ++ M) := fun x hx => (List.mem_append.1 hx).elim (h x) (k x)
theorem AllOk.one {w : World} {x : TV} (h : x.ok w) : AllOk w [x] := fun y hy => by simp at hy; subst hy; exact h
theorem AllOk.take {w : World} {L : List TV} (h : AllOk w L) (k : Nat) : AllOk w (L.take k) := fun x hx => h x (List.mem_of_mem_take hx)

/-- The cells of a row of tasks. -/
def flat : List TV → List Value
  | [] => []
  | x :: l => x.cells ++ flat l
theorem cells_len (x : TV) : x.cells.length = 7 := rfl
theorem flat_len : ∀ l : List TV, (flat l).length = l.length * 7
  | [] => rfl
  | x :: l => by simp [flat, flat_len l, cells_len]; omega
theorem flat_append : ∀ l m : List TV, flat (l ++ m) = flat l ++ flat m
  | [], _ => rfl
  | x :: l, m => by simp [flat, flat_append l m]
theorem flat_at : ∀ (l : List TV) (k : Nat) (x : TV), l[k]? = some x → ∀ i, i < 7 → (flat l)[k * 7 + i]? = x.cells[i]?
  | [], k, x, h => by simp at h
  | y :: l, 0, x, h => by
    simp at h; subst h
    intro i hi
    rw [Nat.zero_mul, Nat.zero_add, flat, List.getElem?_append_left (by rw [cells_len]; exact hi)]
  | y :: l, k + 1, x, h => by
    intro i hi
    have := flat_at l k x (by simpa using h) i hi
    rw [show (k + 1) * 7 + i = 7 + (k * 7 + i) by omega, flat, List.getElem?_append_right (by rw [cells_len]; omega), cells_len, ← this]
    congr 1; omega
theorem flat_one : ∀ (l : List TV), ∀ u ∈ flat l, u.oneCell' = true
  | [], u, h => by simp [flat] at h
  | x :: l, u, h => by
    rcases List.mem_append.1 h with h | h
    · simp [TV.cells] at h
      rcases h with rfl | rfl | rfl | rfl | rfl | rfl | rfl <;> rfl
    · exact flat_one l u h
theorem flat_drop : ∀ (k : Nat) (l : List TV), flat (l.drop k) = (flat l).drop (k * 7)
  | 0, l => by simp
  | k + 1, [] => by simp [flat]
  | k + 1, x :: l => by
    rw [List.drop_succ_cons, flat_drop k l, flat, List.drop_append, show (k + 1) * 7 = 7 + k * 7 by omega]
    simp [cells_len]
theorem flat_take : ∀ (k : Nat) (l : List TV), flat (l.take k) = (flat l).take (k * 7)
  | 0, l => by simp [flat]
  | k + 1, [] => by simp [flat]
  | k + 1, x :: l => by
    rw [List.take_succ_cons, flat, flat, flat_take k l, List.take_append, show (k + 1) * 7 = 7 + k * 7 by omega]
    simp [cells_len]
    rw [List.take_of_length_le (by rw [cells_len]; omega)]

/-- The cells of one task, from a place on. -/
structure At (w : World) (g o : Nat) (x : TV) : Prop where
  c0 : w.cell? ⟨g, o, none⟩ = some (.int .i64 x.id)
  c1 : w.cell? ⟨g, o + 1, none⟩ = some (.int .i64 x.c)
  c2 : w.cell? ⟨g, o + 2, none⟩ = some (.int .i64 x.d)
  c3 : w.cell? ⟨g, o + 3, none⟩ = some (.int .i64 x.t)
  c4 : w.cell? ⟨g, o + 4, none⟩ = some (.int .i64 x.p)
  c5 : w.cell? ⟨g, o + 5, none⟩ = some (.slice x.a1 x.ch.length x.c1)
  c6 : w.cell? ⟨g, o + 6, none⟩ = some (.slice x.a2 x.us.length x.c2)
theorem At.below {w w' : World} {g o : Nat} {x : TV} (h : At w g o x) (hb : Below w.heap.size w w') : At w' g o x :=
  ⟨kept_cell hb h.c0, kept_cell hb h.c1, kept_cell hb h.c2, kept_cell hb h.c3, kept_cell hb h.c4, kept_cell hb h.c5, kept_cell hb h.c6⟩
/-- A row of tasks that can be read. -/
def View (w : World) (a : Option Addr) (l : List TV) : Prop :=
  l = [] ∨ ∃ g o, a = some ⟨g, o, none⟩ ∧ ∀ j u, (flat l)[j]? = some u → w.cell? ⟨g, o + j, none⟩ = some u
theorem View.nil {w : World} {a : Option Addr} : View w a [] := .inl rfl
theorem View.at_ {w : World} {a : Option Addr} {l : List TV} (h : View w a l) {k : Nat} {x : TV} (hx : l[k]? = some x) : ∃ g o, a = some ⟨g, o, none⟩ ∧ At w g (o + k * 7) x := by
  rcases h with rfl | ⟨g, o, rfl, hc⟩
  · simp at hx
  · have f := flat_at l k x hx
    refine ⟨g, o, rfl, ⟨?_, ?_, ?_, ?_, ?_, ?_, ?_⟩⟩
    · exact hc _ _ (f 0 (by omega))
    · exact hc _ _ (f 1 (by omega))
    · exact hc _ _ (f 2 (by omega))
    · exact hc _ _ (f 3 (by omega))
    · exact hc _ _ (f 4 (by omega))
    · exact hc _ _ (f 5 (by omega))
    · exact hc _ _ (f 6 (by omega))
theorem View.below {w w' : World} {a : Option Addr} {l : List TV} (h : View w a l) (hb : Below w.heap.size w w') : View w' a l := by
  rcases h with rfl | ⟨g, o, rfl, hc⟩
  · exact .inl rfl
  · exact .inr ⟨g, o, rfl, fun j u hj => kept_cell hb (hc j u hj)⟩
theorem View.drop {w : World} {g o : Nat} {l : List TV} (h : View w (some ⟨g, o, none⟩) l) (k : Nat) : View w (some ⟨g, o + k * 7, none⟩) (l.drop k) := by
  rcases h with rfl | ⟨g', o', e, hc⟩
  · left; simp
  · cases e
    refine .inr ⟨_, _, rfl, fun j u hj => ?_⟩
    rw [flat_drop, List.getElem?_drop] at hj
    rw [Nat.add_assoc]
    exact hc _ u hj
theorem View.take {w : World} {a : Option Addr} {l : List TV} (h : View w a l) (k : Nat) : View w a (l.take k) := by
  rcases h with rfl | ⟨g, o, rfl, hc⟩
  · left; simp
  · refine .inr ⟨g, o, rfl, fun j u hj => ?_⟩
    rw [flat_take, List.getElem?_take] at hj
    split at hj
    · exact hc j u hj
    · cases hj
theorem View.of_at {w : World} {g o : Nat} {x : TV} (h : At w g o x) : View w (some ⟨g, o, none⟩) [x] := by
  refine .inr ⟨g, o, rfl, fun j u hj => ?_⟩
  simp only [flat, List.append_nil, TV.cells] at hj
  match j, hj with
  | 0, hj => simp at hj; subst hj; exact h.c0
  | 1, hj => simp at hj; subst hj; exact h.c1
  | 2, hj => simp at hj; subst hj; exact h.c2
  | 3, hj => simp at hj; subst hj; exact h.c3
  | 4, hj => simp at hj; subst hj; exact h.c4
  | 5, hj => simp at hj; subst hj; exact h.c5
  | 6, hj => simp at hj; subst hj; exact h.c6
  | j + 7, hj => simp at hj
/-- A slice of tasks that can be read, with all that they hold. -/
structure Tasks (w : World) (a : Option Addr) (n cap : Nat) (L : List TV) : Prop where
  len : L.length = n
  view : View w a L
  ok : AllOk w L
  le : n ≤ cap
  small : (cap : Int) ≤ 9223372036854775807
theorem Tasks.below {w w' : World} {a : Option Addr} {n cap : Nat} {L : List TV} (h : Tasks w a n cap L) (hb : Below w.heap.size w w') : Tasks w' a n cap L := ⟨h.len, h.view.below hb, h.ok.below hb, h.le, h.small⟩
theorem nth_of {α : Type} {l : List α} {i m : Nat} (h : l.length = m) (hi : i < m) : ∃ x, l[i]? = some x := ⟨l[i]'(by rw [h]; exact hi), by simp [h, hi]⟩

/-! ### rows of one's own -/
abbrev TT : TypeId := 47
def OwnT (w : World) (B : Nat) (v : Value) (l : List TV) : Prop := w.ownsRow B TT 7 v l.length (flat l)
theorem OwnT.nil (w : World) (B : Nat) : OwnT w B (.slice none 0 0) [] := World.ownsRow_nil _ _ _ _
theorem OwnT.made (w : World) : OwnT (w.alloc (.cells #[] TT)) w.heap.size (.slice (some ⟨w.heap.size, 0, none⟩) 0 0) [] :=
  World.ownsRow_made (w := w) #[] 0 (Nat.le_refl _) (by decide) rfl
theorem OwnT.low {w : World} {B B' : Nat} {v : Value} {l : List TV} (h : OwnT w B v l) (hB : B' ≤ B) : OwnT w B' v l := by
  rcases h with ⟨h0, h | ⟨g, cap, cur, rfl, hb, r⟩⟩
  · exact ⟨h0, .inl h⟩
  · exact ⟨h0, .inr ⟨g, cap, cur, rfl, by omega, r⟩⟩
theorem OwnT.slice {w : World} {B : Nat} {v : Value} {l : List TV} (h : OwnT w B v l) : ∃ a cap, v = .slice a l.length cap ∧ View w a l ∧ l.length ≤ cap ∧ (cap : Int) ≤ 9223372036854775807 := by
  rcases h.2 with ⟨rfl, h0⟩ | ⟨g, cap, cur, rfl, _, h3, h1, h2, h4, h5⟩
  · exact ⟨none, 0, by rw [h0], .inl (List.length_eq_zero_iff.1 h0), by omega, by omega⟩
  · refine ⟨_, cap, rfl, .inr ⟨g, 0, rfl, fun j u hj => ?_⟩, h1, by unfold maxLen at h2; omega⟩
    rw [Nat.zero_add, blk_cell h3]
    rw [← h5] at hj
    rw [List.getElem?_take] at hj
    split at hj
    · simpa using hj
    · cases hj
theorem OwnT.tasks {w : World} {B : Nat} {a : Option Addr} {n cap : Nat} {l : List TV} (h : OwnT w B (.slice a n cap) l) (hok : AllOk w l) : Tasks w a n cap l := by
  obtain ⟨a', cap', e, hv, hl, hm⟩ := h.slice
  cases e
  exact ⟨rfl, hv, hok, hl, hm⟩
theorem OwnT.new {w : World} {B : Nat} {v : Value} {l : List TV} (h : OwnT w B v l) {k : Nat} (hk : v.ownBlock = some k) : B ≤ k ∧ k < w.heap.size := World.ownsRow.lt h k hk
theorem OwnT.below {w w' : World} {B : Nat} {v : Value} {l : List TV} (h : OwnT w B v l) (hb : Below w.heap.size w w') : OwnT w' B v l := by
  rcases h with ⟨h0, h | ⟨g, cap, cur, rfl, hB, h3, r⟩⟩
  · exact ⟨h0, .inl h⟩
  · exact ⟨h0, .inr ⟨g, cap, cur, rfl, hB, kept_obj hb h3, r⟩⟩
theorem OwnT.none_len {w : World} {B n c : Nat} {l : List TV} (h : OwnT w B (.slice none n c) l) : n = 0 := by
  rcases h.2 with ⟨h1, h0⟩ | ⟨g, cap, cur, h1, _⟩
  · cases h1; rfl
  · cases h1

theorem infoTask : (Try.prog.info? TT).map (fun i => (i.zero, i.size, i.bytes)) = some (some (.agg #[.int .i64 0, .int .i64 0, .int .i64 0, .int .i64 0, .int .i64 0, .slice none 0 0, .slice none 0 0]), 7, 88) := by kernel_rfl
theorem zeroTask (w : World) : (zeroValue TT).run Try.prog w = .ok (.agg #[.int .i64 0, .int .i64 0, .int .i64 0, .int .i64 0, .int .i64 0, .slice none 0 0, .slice none 0 0]) w := by kernel_rfl
theorem infoParts : ∃ i, Try.prog.info? TT = some i ∧ i.zero = some (.agg #[.int .i64 0, .int .i64 0, .int .i64 0, .int .i64 0, .int .i64 0, .slice none 0 0, .slice none 0 0]) ∧ i.size = 7 ∧ i.bytes = 88 := by
  obtain ⟨i, h1, h2⟩ := Option.map_eq_some_iff.1 infoTask
  simp only [Prod.mk.injEq] at h2
  exact ⟨i, h1, h2.1, h2.2.1, h2.2.2⟩

/-- A row that was appended to: what it holds, where it lies. -/
theorem append_view {w : World} {B m c : Nat} {v : Value} {q l : List TV} {ad : Option Addr} (h : OwnT w B v q) (hB : B ≤ w.heap.size) (hv : View w ad l) (hl : l.length = m) (hs : q.length + m ≤ 1000000) (hn : ad = none → m = 0) (ty : TypeId) :
    ∃ v' w', (Builtin.append_ #[27, 27] ty #[v, .slice ad m c]).run Try.prog w = .ok v' w' ∧ OwnT w' B v' (q ++ l) ∧ w.grownBy w' v.ownBlock ∧ ∀ k, v'.ownBlock = some k → v.ownBlock = some k ∨ w.heap.size ≤ k := by
  obtain ⟨i0, hi, hz0, hz1, hz2⟩ := infoParts
  cases ad with
  | none =>
    obtain rfl := hn rfl
    obtain rfl : l = [] := List.length_eq_zero_iff.1 hl
    refine ⟨v, w, ?_, by rw [List.append_nil]; exact h, ⟨rfl, rfl, rfl, Nat.le_refl _, fun _ _ _ => rfl⟩, fun k hk => .inl hk⟩
    rcases h.2 with ⟨rfl, h0⟩ | ⟨g, cap, cur, rfl, _, h3, h1, h2, h4, h5⟩
    · have hs := Src.ofNil (w := w) (size := i0.size) Try.underlying27 c
      simp [Builtin.append_, run_underlying Try.underlying27, sizeOf, typeInfo, hi, hs.len, hs.cells]
    · have := run_append_room_src (P := Try.prog) (w := w) 27 27 ty TT i0 Try.underlying27 hi g 0 q.length cap (.slice none 0 c) 0 [] (Src.ofNil w Try.underlying27 c) (by omega) (fun j hj => absurd hj (Nat.not_lt_zero _)) (fun j hj => absurd hj (Nat.not_lt_zero _))
      simpa [World.setCells] using this
  | some x =>
    have hnews : ∀ j u, (flat l)[j]? = some u → w.cell? (x.add j) = some u := by
      intro j u hj
      rcases hv with rfl | ⟨g, o, e, hc⟩
      · simp [flat] at hj
      · cases e
        rw [addr_at]; exact hc j u hj
    obtain ⟨v', w', h1, h2, h3, _, h5⟩ := run_append_own_at (P := Try.prog) w B 27 ty TT i0 _ 7 88 Try.underlying27 hi hz0 hz1 hz2 rfl (by decide) v q.length (flat q) h x m c (flat l) (by rw [flat_len, hl]) hnews (flat_one l) (by unfold maxLen; omega) (by omega) hB
    refine ⟨v', w', h1, ?_, h3, fun k hk => ?_⟩
    · unfold OwnT
      rw [List.length_append, flat_append, hl]
      exact h2
    · rcases h5 with z | z
      · left; rw [← z]; exact hk
      · right; rw [z] at hk; cases hk; exact Nat.le_refl _

theorem step_append {w : World} {ops : Array Oper} {o : Oper} {a : Act} {K : Act → World → Prop} {Q : Exit → Act → World → Prop} {E : Prop} (hgd : o.guard = none) (s x : Operand)
    (ho : o.op = .call { callee := .builtin .append, args := #[s, x], argTypes := #[27, 27] }) {B m c : Nat} {v : Value} {q l : List TV} {ad : Option Addr} (hs : a.eval s = v) (hx : a.eval x = .slice ad m c)
    (hown : OwnT w B v q) (hB : B ≤ w.heap.size) (hv : View w ad l) (hl : l.length = m) (hsm : q.length + m ≤ 1000000) (hn : ad = none → m = 0) (N : Nat) (hN : q.length + m = N)
    (h : ∀ a' cp' w', OwnT w' B (.slice a' N cp') (q ++ l) → w.grownBy w' v.ownBlock → (∀ k, (Value.slice a' N cp').ownBlock = some k → v.ownBlock = some k ∨ w.heap.size ≤ k) → K (a.put o.dst (.slice a' N cp')) w') :
    if Region.wanted o (yielded ops a.tmps) = true then Oper.wp Try.prog o a w K Q else E := by
  have hw : Region.wanted o (yielded ops a.tmps) = true := by simp [Region.wanted, hgd]
  rw [if_pos hw]
  obtain ⟨v', w', hr, h2, h3, h4⟩ := append_view (c := c) hown hB hv hl hsm hn o.type
  obtain ⟨a', cp', hv', _⟩ := h2.slice
  rw [List.length_append, hl, hN] at hv'
  subst hv'
  unfold Oper.wp execOp
  simp only [ho, resolve, invoke, builtin, Sem.run_bind, Sem.run_pure, Result.andThen_ok, List.map_toArray, List.map_cons, List.map_nil, hs, hx, hr]
  exact h a' cp' w' h2 h3 h4
theorem wp_append {ops : Array Oper} {rest : List Oper} {o : Oper} {a : Act} {Q : Exit → Act → World → Prop} {w : World} (hgd : o.guard = none) (s x : Operand)
    (ho : o.op = .call { callee := .builtin .append, args := #[s, x], argTypes := #[27, 27] }) {B m c : Nat} {v : Value} {q l : List TV} {ad : Option Addr} (hs : a.eval s = v) (hx : a.eval x = .slice ad m c)
    (hown : OwnT w B v q) (hB : B ≤ w.heap.size) (hv : View w ad l) (hl : l.length = m) (hsm : q.length + m ≤ 1000000) (hn : ad = none → m = 0) (N : Nat) (hN : q.length + m = N)
    (h : ∀ a' cp' w', OwnT w' B (.slice a' N cp') (q ++ l) → w.grownBy w' v.ownBlock → (∀ k, (Value.slice a' N cp').ownBlock = some k → v.ownBlock = some k ∨ w.heap.size ≤ k) → wpList Try.prog ops Q rest (a.put o.dst (.slice a' N cp')) w') : wpList Try.prog ops Q (o :: rest) a w :=
  wpList_step fun _ hK => step_append hgd s x ho hs hx hown hB hv hl hsm hn N hN (fun a' cp' w' o' g' l' => hK _ _ (h a' cp' w' o' g' l'))

/-! ### rows of numbers of one's own -/
def vi (l : List Int) : List Value := l.map (Value.int .i64)
theorem vi_one (l : List Int) : ∀ u ∈ vi l, u.oneCell' = true := by
  intro u hu
  obtain ⟨_, _, rfl⟩ := List.mem_map.1 hu
  rfl
theorem vi_at {l : List Int} {j : Nat} {u : Int} (h : l[j]? = some u) : (vi l)[j]? = some (.int .i64 u) := by simp [vi, h]
def OwnI (w : World) (e : TypeId) (B : Nat) (v : Value) (l : List Int) : Prop := w.ownsRow B e 1 v l.length (vi l)
theorem OwnI.nil (w : World) (e : TypeId) (B : Nat) : OwnI w e B (.slice none 0 0) [] := World.ownsRow_nil _ _ _ _
theorem OwnI.made (w : World) (e : TypeId) : OwnI (w.alloc (.cells #[] e)) e w.heap.size (.slice (some ⟨w.heap.size, 0, none⟩) 0 0) [] :=
  World.ownsRow_made (w := w) #[] 0 (Nat.le_refl _) (by decide) rfl
theorem OwnI.slice {w : World} {e : TypeId} {B : Nat} {v : Value} {l : List Int} (h : OwnI w e B v l) : ∃ a cap, v = .slice a l.length cap ∧ Ints w a l ∧ l.length ≤ cap ∧ (cap : Int) ≤ 9223372036854775807 := by
  rcases h.2 with ⟨rfl, h0⟩ | ⟨g, cap, cur, rfl, _, h3, h1, h2, h4, h5⟩
  · exact ⟨none, 0, by rw [h0], .inl (List.length_eq_zero_iff.1 h0), by omega, by omega⟩
  · refine ⟨_, cap, rfl, .inr ⟨g, 0, rfl, fun j u hj => ?_⟩, h1, by unfold maxLen at h2; omega⟩
    rw [Nat.zero_add, blk_cell h3]
    have := vi_at hj
    rw [← h5, List.getElem?_take] at this
    split at this
    · simpa using this
    · cases this
theorem OwnI.new {w : World} {e : TypeId} {B : Nat} {v : Value} {l : List Int} (h : OwnI w e B v l) {k : Nat} (hk : v.ownBlock = some k) : B ≤ k ∧ k < w.heap.size := World.ownsRow.lt h k hk
theorem OwnI.below {w w' : World} {e : TypeId} {B : Nat} {v : Value} {l : List Int} (h : OwnI w e B v l) (hb : Below w.heap.size w w') : OwnI w' e B v l := by
  rcases h with ⟨h0, h | ⟨g, cap, cur, rfl, hB, h3, r⟩⟩
  · exact ⟨h0, .inl h⟩
  · exact ⟨h0, .inr ⟨g, cap, cur, rfl, hB, kept_obj hb h3, r⟩⟩
theorem OwnI.low {w : World} {e : TypeId} {B B' : Nat} {v : Value} {l : List Int} (h : OwnI w e B v l) (hB : B' ≤ B) : OwnI w e B' v l := by
  rcases h with ⟨h0, h | ⟨g, cap, cur, rfl, hb, r⟩⟩
  · exact ⟨h0, .inl h⟩
  · exact ⟨h0, .inr ⟨g, cap, cur, rfl, by omega, r⟩⟩

/-- A slice type of numbers. -/
structure IsNum (t e : TypeId) : Prop where
  und : Try.prog.underlying t = some (.slice e)
  info : ∃ i, Try.prog.info? e = some i ∧ i.zero = some (.int .i64 0) ∧ i.size = 1 ∧ i.bytes = 8
theorem num_of {t e : TypeId} (h : Try.prog.underlying t = some (.slice e)) (h2 : (Try.prog.info? e).map (fun i => (i.zero, i.size, i.bytes)) = some (some (.int .i64 0), 1, 8)) : IsNum t e := by
  obtain ⟨i, h1, h2⟩ := Option.map_eq_some_iff.1 h2
  simp only [Prod.mk.injEq] at h2
  exact ⟨h, i, h1, h2.1, h2.2.1, h2.2.2⟩
theorem numL : IsNum 44 2 := num_of Try.underlying44 (by kernel_rfl)
theorem numI : IsNum 45 3 := num_of Try.underlying45 (by kernel_rfl)

theorem append_ints {w : World} {t e : TypeId} (ht : IsNum t e) {B m c : Nat} {v : Value} {q l : List Int} {ad : Option Addr} (h : OwnI w e B v q) (hB : B ≤ w.heap.size) (hv : Ints w ad l) (hl : l.length = m) (hs : (q.length + m : Int) ≤ 17592186044416) (hn : ad = none → m = 0) (ty : TypeId) :
    ∃ v' w', (Builtin.append_ #[t, t] ty #[v, .slice ad m c]).run Try.prog w = .ok v' w' ∧ OwnI w' e B v' (q ++ l) ∧ w.grownBy w' v.ownBlock ∧ ∀ k, v'.ownBlock = some k → v.ownBlock = some k ∨ w.heap.size ≤ k := by
  obtain ⟨i0, hi, hz0, hz1, hz2⟩ := ht.info
  cases ad with
  | none =>
    obtain rfl := hn rfl
    obtain rfl : l = [] := List.length_eq_zero_iff.1 hl
    refine ⟨v, w, ?_, by rw [List.append_nil]; exact h, ⟨rfl, rfl, rfl, Nat.le_refl _, fun _ _ _ => rfl⟩, fun k hk => .inl hk⟩
    rcases h.2 with ⟨rfl, h0⟩ | ⟨g, cap, cur, rfl, _, h3, h1, h2, h4, h5⟩
    · have hs := Src.ofNil (w := w) (size := i0.size) ht.und c
      simp [Builtin.append_, run_underlying ht.und, sizeOf, typeInfo, hi, hs.len, hs.cells]
    · have := run_append_room_src (P := Try.prog) (w := w) t t ty e i0 ht.und hi g 0 q.length cap (.slice none 0 c) 0 [] (Src.ofNil w ht.und c) (by omega) (fun j hj => absurd hj (Nat.not_lt_zero _)) (fun j hj => absurd hj (Nat.not_lt_zero _))
      simpa [World.setCells] using this
  | some x =>
    have hnews : ∀ j u, (vi l)[j]? = some u → w.cell? (x.add j) = some u := by
      intro j u hj
      rcases hv with rfl | ⟨g, o, e, hc⟩
      · simp [vi] at hj
      · cases e
        simp only [vi, List.getElem?_map, Option.map_eq_some_iff] at hj
        obtain ⟨y, hy, rfl⟩ := hj
        rw [addr_at]; exact hc j y hy
    obtain ⟨v', w', h1, h2, h3, _, h5⟩ := run_append_own_at (P := Try.prog) w B t ty e i0 _ 1 8 ht.und hi hz0 hz1 hz2 rfl (by decide) v q.length (vi q) h x m c (vi l) (by simp [vi, hl]) hnews (vi_one l) (by unfold maxLen; omega) (by omega) hB
    refine ⟨v', w', h1, ?_, h3, fun k hk => ?_⟩
    · unfold OwnI
      rw [List.length_append, hl]
      unfold vi at h2 ⊢
      rw [List.map_append]
      exact h2
    · rcases h5 with z | z
      · left; rw [← z]; exact hk
      · right; rw [z] at hk; cases hk; exact Nat.le_refl _

theorem step_ints {w : World} {t e : TypeId} (ht : IsNum t e) {ops : Array Oper} {o : Oper} {a : Act} {K : Act → World → Prop} {Q : Exit → Act → World → Prop} {E : Prop} (hgd : o.guard = none) (s x : Operand)
    (ho : o.op = .call { callee := .builtin .append, args := #[s, x], argTypes := #[t, t] }) {B m c : Nat} {v : Value} {q l : List Int} {ad : Option Addr} (hs : a.eval s = v) (hx : a.eval x = .slice ad m c)
    (hown : OwnI w e B v q) (hB : B ≤ w.heap.size) (hv : Ints w ad l) (hl : l.length = m) (hsm : (q.length + m : Int) ≤ 17592186044416) (hn : ad = none → m = 0) (N : Nat) (hN : q.length + m = N)
    (h : ∀ a' cp' w', OwnI w' e B (.slice a' N cp') (q ++ l) → w.grownBy w' v.ownBlock → (∀ k, (Value.slice a' N cp').ownBlock = some k → v.ownBlock = some k ∨ w.heap.size ≤ k) → K (a.put o.dst (.slice a' N cp')) w') :
    if Region.wanted o (yielded ops a.tmps) = true then Oper.wp Try.prog o a w K Q else E := by
  have hw : Region.wanted o (yielded ops a.tmps) = true := by simp [Region.wanted, hgd]
  rw [if_pos hw]
  obtain ⟨v', w', hr, h2, h3, h4⟩ := append_ints ht (c := c) hown hB hv hl hsm hn o.type
  obtain ⟨a', cp', hv', _⟩ := h2.slice
  rw [List.length_append, hl, hN] at hv'
  subst hv'
  unfold Oper.wp execOp
  simp only [ho, resolve, invoke, builtin, Sem.run_bind, Sem.run_pure, Result.andThen_ok, List.map_toArray, List.map_cons, List.map_nil, hs, hx, hr]
  exact h a' cp' w' h2 h3 h4
theorem wp_ints {t e : TypeId} (ht : IsNum t e) {ops : Array Oper} {rest : List Oper} {o : Oper} {a : Act} {Q : Exit → Act → World → Prop} {w : World} (hgd : o.guard = none) (s x : Operand)
    (ho : o.op = .call { callee := .builtin .append, args := #[s, x], argTypes := #[t, t] }) {B m c : Nat} {v : Value} {q l : List Int} {ad : Option Addr} (hs : a.eval s = v) (hx : a.eval x = .slice ad m c)
    (hown : OwnI w e B v q) (hB : B ≤ w.heap.size) (hv : Ints w ad l) (hl : l.length = m) (hsm : (q.length + m : Int) ≤ 17592186044416) (hn : ad = none → m = 0) (N : Nat) (hN : q.length + m = N)
    (h : ∀ a' cp' w', OwnI w' e B (.slice a' N cp') (q ++ l) → w.grownBy w' v.ownBlock → (∀ k, (Value.slice a' N cp').ownBlock = some k → v.ownBlock = some k ∨ w.heap.size ≤ k) → wpList Try.prog ops Q rest (a.put o.dst (.slice a' N cp')) w') : wpList Try.prog ops Q (o :: rest) a w :=
  wpList_step fun _ hK => step_ints ht hgd s x ho hs hx hown hB hv hl hsm hn N hN (fun a' cp' w' o' g' l' => hK _ _ (h a' cp' w' o' g' l'))
theorem ints_new (w : World) (x : Int) (T : TypeId) : Ints (w.alloc (.cells #[.int .i64 x] T)) (some ⟨w.heap.size, 0, none⟩) [x] :=
  .inr ⟨_, 0, rfl, fun j u hj => by
    match j, hj with
    | 0, hj => simp at hj; subst hj; rw [World.cell?_alloc_new]; rfl
    | j + 1, hj => simp at hj⟩
theorem at_new (w : World) (x : TV) (T : TypeId) : At (w.alloc (.cells #[.int .i64 x.id, .int .i64 x.c, .int .i64 x.d, .int .i64 x.t, .int .i64 x.p, .slice x.a1 x.ch.length x.c1, .slice x.a2 x.us.length x.c2] T)) w.heap.size 0 x :=
  ⟨by rw [World.cell?_alloc_new]; rfl, by rw [World.cell?_alloc_new]; rfl, by rw [World.cell?_alloc_new]; rfl, by rw [World.cell?_alloc_new]; rfl, by rw [World.cell?_alloc_new]; rfl, by rw [World.cell?_alloc_new]; rfl, by rw [World.cell?_alloc_new]; rfl⟩
end Go.Proofs.Ytflemmmaakhahaa

/-
  The walks over whether rows of numbers, and tasks, are the same.
-/
namespace Go.Proofs.Ytflemmmaakhahaa
open Go.RowKit Go.Maps

theorem bw_alloc {W w : World} (h : Below W.heap.size W w) (o : Obj) : Below W.heap.size W (w.alloc o) := h.alloc h.size o
theorem bw_drew {W w : World} (h : Below W.heap.size W w) : Below W.heap.size W w.drew := h.drew

theorem same_step {l m : List Int} {k : Nat} {x y : Int} (h : l.take k = m.take k) (hx : l[k]? = some x) (hy : m[k]? = some y) (e : x = y) : l.take (k + 1) = m.take (k + 1) := by
  rw [List.take_add_one, List.take_add_one, h, hx, hy, e]
theorem same_end {l m : List Int} {k : Nat} (h : l.take k = m.take k) (hl : l.length = k) (hm : m.length = k) : l = m := by
  rwa [List.take_of_length_le (by omega), List.take_of_length_le (by omega)] at h
theorem same_not {l m : List Int} {k : Nat} {x y : Int} (hx : l[k]? = some x) (hy : m[k]? = some y) (e : ¬ x = y) : ¬ l = m := by
  rintro rfl; rw [hx] at hy; cases hy; exact e rfl

end Go.Proofs.Ytflemmmaakhahaa

/-
  The walks over whether two tasks are the same.
-/
namespace Go.Proofs.Ytflemmmaakhahaa
open Go.RowKit Go.Maps

theorem new_first (w : World) (cs : Array Value) (T : TypeId) (o : Obj) (i : Nat) : ((w.alloc (.cells cs T)).alloc o).cell? ⟨w.heap.size, i, none⟩ = cs[i]? := by
  rw [World.cell?_alloc_lt _ _ _ (by simp), World.cell?_alloc_new]
theorem new_second (w : World) (cs : Array Value) (T : TypeId) (o : Obj) (i : Nat) : ((w.alloc o).alloc (.cells cs T)).cell? ⟨w.heap.size + 1, i, none⟩ = cs[i]? := by
  have := World.cell?_alloc_new (w.alloc o) cs T i
  rwa [World.size_alloc] at this
theorem tk_eq (x y : TV) : x.tk = y.tk ↔ x.id = y.id ∧ x.c = y.c ∧ x.d = y.d ∧ x.t = y.t ∧ x.p = y.p ∧ x.ch = y.ch ∧ x.us = y.us := by
  simp [TV.tk]

end Go.Proofs.Ytflemmmaakhahaa

/-
  The walks over bounds, and over sums that fill.
-/
namespace Go.Proofs.Ytflemmmaakhahaa
open Go.RowKit Go.Maps

/-- Whether numbers from 1 on fill c. -/
def fillB : List Int → Int → Bool
  | [], c => c == 0
  | x :: l, c => if 1 ≤ x ∧ x ≤ c then fillB l (c - x) else false

/-- Which one is less. -/
def cmpI (x y : Int) : Int := if x < y then -1 else if y < x then 1 else 0
/-- A number led into the room from 0 to below m. -/
def restI (n m : Int) : Int := n % m
set_option maxHeartbeats 1000000 in
theorem rest_any (n m : Int) (hm : 0 < m) (hm2 : m ≤ 1000000) (w : World) : Calls Try.prog 58 #[.int .i64 n, .int .i64 m] w fun e w' => e = .returned (.int .i64 (restI n m)) ∧ w = w' := by
  have a := Int.tmod_lt_of_pos n hm
  have b := Int.lt_tmod_of_pos n hm
  have e : restI n m = (n.tmod m + m) % m := by
    unfold restI
    rw [Int.add_emod_right]
    rw [Int.tmod_eq_emod]
    split
    · simp
    · simp [Int.sub_emod, Int.emod_emod_of_dvd]
      have : ((m.natAbs : Int)) = m := by omega
      simp [this]
  have d1 : (m == 0) = false := by rw [beq_eq_false_iff_ne]; omega
  rw [e]
  obtain ⟨t, ht⟩ : ∃ t, n.tmod m = t := ⟨_, rfl⟩
  rw [ht] at a b ⊢
  have hw : IntKind.i64.wrap (t + m) = t + m := IntWalk.i64_in _ (by omega)
  have a2 : (t + m) % m < m := Int.emod_lt_of_pos _ hm
  have b2 : 0 ≤ (t + m) % m := Int.emod_nonneg _ (by omega)
  clear e
  have h0 : ¬ m = 0 := by omega
  go_enter Try.func58, Try.ntmps58
  go_wp2
  go_ret
  exact ⟨rfl, rfl⟩
end Go.Proofs.Ytflemmmaakhahaa

/-
  The walks over chunks, and over the search for a set that may not be.
-/
namespace Go.Proofs.Ytflemmmaakhahaa
open Go.RowKit Go.Maps

theorem ints_second (w : World) (o : Obj) (x : Int) (T : TypeId) : Ints ((w.alloc o).alloc (.cells #[.int .i64 x] T)) (some ⟨w.heap.size + 1, 0, none⟩) [x] := by
  have := ints_new (w.alloc o) x T
  rwa [World.size_alloc] at this
/-- The chunks of a task; without any, all of its work is one. -/
def chunksOf (x : TV) : List Int := if x.ch = [] then [x.c] else x.ch
/-- A row of numbers that comes back. -/
def RowBack (l : List Int) (w : World) (e : Ending) (w' : World) : Prop :=
  ∃ a c, e = .returned (.slice a l.length c) ∧ Ints w' a l ∧ Below w.heap.size w w' ∧ (l.length : Int) ≤ 9223372036854775807

/-- The same of chunks: one, or the task's own row. -/
def ChunksBack (x : TV) (w : World) (e : Ending) (w' : World) : Prop :=
  ∃ a c, e = .returned (.slice a (chunksOf x).length c) ∧ Ints w' a (chunksOf x) ∧ Below w.heap.size w w' ∧ ((chunksOf x).length : Int) ≤ 9223372036854775807 ∧ ((chunksOf x).length = 1 ∨ (a = x.a1 ∧ chunksOf x = x.ch))
/-- The same, over an elder world. -/
def RowUnder (l : List Int) (W : World) (e : Ending) (w' : World) : Prop :=
  ∃ a c, e = .returned (.slice a l.length c) ∧ Ints w' a l ∧ Below W.heap.size W w' ∧ (l.length : Int) ≤ 9223372036854775807
/-- A task in a box. -/
structure AtB (w : World) (g : Nat) (x : TV) : Prop where
  c0 : w.cell? ⟨g, 0, none⟩ = some (.int .i64 x.id)
  c1 : w.cell? ⟨g, 1, none⟩ = some (.int .i64 x.c)
  c2 : w.cell? ⟨g, 2, none⟩ = some (.int .i64 x.d)
  c3 : w.cell? ⟨g, 3, none⟩ = some (.int .i64 x.t)
  c4 : w.cell? ⟨g, 4, none⟩ = some (.int .i64 x.p)
  c5 : w.cell? ⟨g, 5, none⟩ = some (.slice x.a1 x.ch.length x.c1)
  c6 : w.cell? ⟨g, 6, none⟩ = some (.slice x.a2 x.us.length x.c2)
theorem AtB.below {w w' : World} {g : Nat} {x : TV} (h : AtB w g x) (hb : Below w.heap.size w w') : AtB w' g x :=
  ⟨kept_cell hb h.c0, kept_cell hb h.c1, kept_cell hb h.c2, kept_cell hb h.c3, kept_cell hb h.c4, kept_cell hb h.c5, kept_cell hb h.c6⟩
theorem atB_new (w : World) (x : TV) (T : TypeId) : AtB (w.alloc (.cells #[.int .i64 x.id, .int .i64 x.c, .int .i64 x.d, .int .i64 x.t, .int .i64 x.p, .slice x.a1 x.ch.length x.c1, .slice x.a2 x.us.length x.c2] T)) w.heap.size x :=
  ⟨by rw [World.cell?_alloc_new]; rfl, by rw [World.cell?_alloc_new]; rfl, by rw [World.cell?_alloc_new]; rfl, by rw [World.cell?_alloc_new]; rfl, by rw [World.cell?_alloc_new]; rfl, by rw [World.cell?_alloc_new]; rfl, by rw [World.cell?_alloc_new]; rfl⟩
theorem AtB.view {w : World} {g : Nat} {x : TV} (h : AtB w g x) : View w (some ⟨g, 0, none⟩) [x] := View.of_at ⟨h.c0, h.c1, h.c2, h.c3, h.c4, h.c5, h.c6⟩

/-- A set that may not be. -/
def badB (s : Int) (u : Int) : Bool := decide (u < 0 ∨ s ≤ u)
theorem any_take {l : List Int} {f : Int → Bool} {k : Nat} {x : Int} (h : (l.take k).any f = false) (hx : l[k]? = some x) (hf : f x = false) : (l.take (k + 1)).any f = false := by
  rw [List.take_add_one, hx, List.any_append, h]
  simp [hf]
theorem any_found {l : List Int} {f : Int → Bool} {k : Nat} {x : Int} (hx : l[k]? = some x) (hf : f x = true) : l.any f = true :=
  List.any_eq_true.2 ⟨x, List.mem_of_getElem? hx, hf⟩
theorem any_all {l : List Int} {f : Int → Bool} {k : Nat} (h : (l.take k).any f = false) (hl : l.length = k) : l.any f = false := by
  rwa [List.take_of_length_le (by omega)] at h

/-- Where the first one is, if there is one. -/
def Found (l : List Int) (f : Int → Bool) (w : World) (e : Ending) (w' : World) : Prop :=
  ∃ z : Int, e = .returned (.int .i64 z) ∧ decide (0 ≤ z) = l.any f ∧ w = w'

end Go.Proofs.Ytflemmmaakhahaa

/-
  The walks over how much work is done at the end of each chunk; what is asked of all tasks at the beginning.
-/
namespace Go.Proofs.Ytflemmmaakhahaa
open Go.RowKit Go.Maps

theorem infoLong : (Try.prog.info? 2).map (fun i => (i.zero, i.size, i.bytes)) = some (some (.int .i64 0), 1, 8) := by kernel_rfl
theorem make_long (c : Nat) (hc : c ≤ 2000000000) (w : World) : (Instr.makeSlice 44 (.int .i64 0) (.int .i64 (c : Int))).run Try.prog w = .ok (.slice (some ⟨w.heap.size, 0, none⟩) 0 c) (w.alloc (.cells (madeCells #[.int .i64 0] c) 2)) := by
  obtain ⟨i0, hi, hz0, hz1, hz2⟩ := info_parts infoLong
  have h := run_make w 44 2 i0 (.int .i64 0) Try.underlying44 hi hz0 .i64 .i64 0 c (by omega) (by omega) (by rw [hz2]; omega) (by omega)
  rw [hz1] at h
  simpa [Value.cells] using h

/-- The sums of a row, from d on. -/
def sumsFrom : Int → List Int → List Int
  | _, [] => []
  | d, x :: l => (d + x) :: sumsFrom (d + x) l
def endsOf (x : TV) : List Int := sumsFrom 0 (chunksOf x)
theorem sums_len : ∀ (l : List Int) (d : Int), (sumsFrom d l).length = l.length
  | [], _ => rfl
  | x :: l, d => by simp [sumsFrom, sums_len l]
theorem fill_len : ∀ (l : List Int) (c : Int), 0 ≤ c → fillB l c = true → (l.length : Int) ≤ c
  | [], c, h, _ => by simpa using h
  | x :: l, c, h, hf => by
    rw [fillB] at hf
    by_cases g : 1 ≤ x ∧ x ≤ c
    · rw [if_pos g] at hf
      have := fill_len l (c - x) (by omega) hf
      simp only [List.length_cons]; omega
    · rw [if_neg g] at hf; cases hf
theorem fill_drop {l : List Int} {k : Nat} {x c : Int} (hx : l[k]? = some x) : fillB (l.drop k) c = if 1 ≤ x ∧ x ≤ c then fillB (l.drop (k + 1)) (c - x) else false := by
  obtain ⟨h2, h3⟩ := List.getElem?_eq_some_iff.1 hx
  rw [List.drop_eq_getElem_cons h2, h3, fillB]
theorem sums_step {l R : List Int} {k : Nat} {x d : Int} (hx : l[k]? = some x) (h : R ++ sumsFrom d (l.drop k) = sumsFrom 0 l) : (R ++ [d + x]) ++ sumsFrom (d + x) (l.drop (k + 1)) = sumsFrom 0 l := by
  obtain ⟨h2, h3⟩ := List.getElem?_eq_some_iff.1 hx
  rw [List.drop_eq_getElem_cons h2, h3, sumsFrom] at h
  rw [← h]; simp

/-- A row of one's own that was made with room. -/
theorem own_made (w : World) (o : Obj) (cap : Nat) (hc : cap ≤ 2000000000) (T : TypeId) : OwnI ((w.alloc o).alloc (.cells (madeCells #[.int .i64 0] cap) T)) T (w.heap.size + 1) (.slice (some ⟨w.heap.size + 1, 0, none⟩) 0 cap) [] := by
  have := World.ownsRow_made (e := T) (size := 1) (base := w.heap.size + 1) (w := w.alloc o) (madeCells #[.int .i64 0] cap) cap (by simp) (by unfold maxLen; omega) (by rw [size_madeCells]; omega)
  rwa [World.size_alloc] at this
/-- A task in a box, and a row of one's own. -/
structure EndsAt (w : World) (x : TV) (v : Value) (l : List Int) (W : World) : Prop where
  low : Below w.heap.size w W
  box : AtB W w.heap.size x
  own : OwnI W 2 (w.heap.size + 1) v l
theorem EndsAt.below {w W W' : World} {x : TV} {v : Value} {l : List Int} (h : EndsAt w x v l W) (hb : Below W.heap.size W W') : EndsAt w x v l W' := ⟨below_up h.low hb, h.box.below hb, h.own.below hb⟩
theorem endsAt_new {w : World} {x : TV} {T : TypeId} {cap : Nat} (hc : cap ≤ 2000000000) : EndsAt w x (.slice (some ⟨w.heap.size + 1, 0, none⟩) 0 cap) [] ((w.alloc (.cells #[.int .i64 x.id, .int .i64 x.c, .int .i64 x.d, .int .i64 x.t, .int .i64 x.p, .slice x.a1 x.ch.length x.c1, .slice x.a2 x.us.length x.c2] T)).alloc (.cells (madeCells #[.int .i64 0] cap) 2)) :=
  ⟨(by repeat (first | exact Below.refl _ _ | (with_reducible assumption) | refine bw_alloc ?_ _ | refine bw_drew ?_)), (atB_new w x T).below ((Below.refl _ _).alloc (Nat.le_refl _) _), own_made w _ cap hc _⟩
theorem kept_objB {B : Nat} {w w' : World} (hb : Below B w w') {b : Nat} {o : Obj} (hl : b < B) (h : w.heap[b]? = some o) : w'.heap[b]? = some o := (hb.block b hl).trans h
theorem kept_cellB {B : Nat} {w w' : World} (hb : Below B w w') {b o : Nat} {v : Value} (hl : b < B) (h : w.cell? ⟨b, o, none⟩ = some v) : w'.cell? ⟨b, o, none⟩ = some v := by
  rw [hb.cell (p := ⟨b, o, none⟩) hl]; exact h
theorem AtB.belowB {B : Nat} {w w' : World} {g : Nat} {x : TV} (h : AtB w g x) (hb : Below B w w') (hg : g < B) : AtB w' g x :=
  ⟨kept_cellB hb hg h.c0, kept_cellB hb hg h.c1, kept_cellB hb hg h.c2, kept_cellB hb hg h.c3, kept_cellB hb hg h.c4, kept_cellB hb hg h.c5, kept_cellB hb hg h.c6⟩
theorem EndsAt.grown {w W W' : World} {x : TV} {v v' : Value} {l l' : List Int} (h : EndsAt w x v l W) (hg : W.grownBy W' v.ownBlock) (ho : OwnI W' 2 (w.heap.size + 1) v' l') : EndsAt w x v' l' W' := by
  have hs := block_of_cell h.box.c0
  have hb : Below (w.heap.size + 1) W W' := (Below.refl _ W).grown hg hs (fun k hk => (h.own.new hk).1)
  exact ⟨h.low.trans (hb.mono (by omega)), h.box.belowB hb (by omega), ho⟩
theorem chunks_pos (x : TV) : 0 < (chunksOf x).length := by
  unfold chunksOf
  split
  · simp
  · rename_i e; exact List.length_pos_iff.2 e

end Go.Proofs.Ytflemmmaakhahaa

/-
  Sets of numbers below 256 as four words of 64 bits: plain numbers, no program in this text.
-/
namespace Go.Proofs.Ytflemmmaakhahaa
open Go.RowKit

/-- The number whose n lowest bits are p's. -/
def natOf (p : Nat → Bool) : Nat → Nat
  | 0 => 0
  | n + 1 => natOf p n + if p n then 2 ^ n else 0

theorem natOf_lt (p : Nat → Bool) : ∀ n, natOf p n < 2 ^ n
  | 0 => by simp [natOf]
  | n + 1 => by have := natOf_lt p n; simp only [natOf, Nat.pow_succ]; split <;> omega

theorem natOf_bit (p : Nat → Bool) (j : Nat) : ∀ n, (natOf p n).testBit j = (decide (j < n) && p j)
  | 0 => by simp [natOf]
  | n + 1 => by
    have ih := natOf_bit p j n
    have hl := natOf_lt p n
    simp only [natOf]
    by_cases hp : p n = true
    · rw [if_pos hp, Nat.add_comm]
      rcases Nat.lt_trichotomy j n with h | h | h
      · rw [Nat.testBit_two_pow_add_gt h, ih]; simp [h, show j < n + 1 by omega]
      · subst h
        rw [Nat.testBit_two_pow_add_eq, ih]; simp [hp]
      · rw [Nat.testBit_lt_two_pow (i := j) (by
          have : 2 ^ (n + 1) ≤ 2 ^ j := Nat.pow_le_pow_right (by omega) h
          rw [Nat.pow_succ] at this; omega)]
        simp [show ¬ j < n + 1 by omega]
    · rw [if_neg hp, Nat.add_zero, ih]
      by_cases h : j = n
      · subst h; simp [hp]
      · simp [show (j < n + 1) = (j < n) by apply propext; omega]

theorem natOf_congr {p q : Nat → Bool} : ∀ {n}, (∀ j, j < n → p j = q j) → natOf p n = natOf q n
  | 0, _ => rfl
  | n + 1, h => by simp only [natOf]; rw [natOf_congr (fun j hj => h j (by omega)), h n (by omega)]

theorem natOf_self {x n : Nat} (h : x < 2 ^ n) : natOf x.testBit n = x := by
  apply Nat.eq_of_testBit_eq
  intro j
  rw [natOf_bit]
  by_cases hj : j < n
  · simp [hj]
  · have : 2 ^ n ≤ 2 ^ j := Nat.pow_le_pow_right (by omega) (by omega)
    simp [hj, Nat.testBit_lt_two_pow (x := x) (i := j) (by omega)]

/-- Word k of the set p. -/
def wd (p : Nat → Bool) (k : Nat) : Nat := natOf (fun j => p (64 * k + j)) 64

theorem wd_lt (p : Nat → Bool) (k : Nat) : wd p k < 18446744073709551616 := natOf_lt _ 64
theorem wd_lt' (p : Nat → Bool) (k : Nat) : wd p k < 2 ^ 64 := natOf_lt _ 64
theorem wd_bit (p : Nat → Bool) (k : Nat) {j : Nat} (h : j < 64) : (wd p k).testBit j = p (64 * k + j) := by
  unfold wd; rw [natOf_bit]; simp [h]
theorem wd_congr {p q : Nat → Bool} (h : ∀ i, i < 256 → p i = q i) {k : Nat} (hk : k < 4) : wd p k = wd q k :=
  natOf_congr fun j hj => h _ (by omega)

/-- The set that four words make. -/
def setOf (x0 x1 x2 x3 : Nat) (i : Nat) : Bool := if i < 64 then x0.testBit i else if i < 128 then x1.testBit (i - 64) else if i < 192 then x2.testBit (i - 128) else x3.testBit (i - 192)
theorem wd_setOf (x0 x1 x2 x3 : Nat) (h0 : x0 < 18446744073709551616) (h1 : x1 < 18446744073709551616) (h2 : x2 < 18446744073709551616) (h3 : x3 < 18446744073709551616) :
    wd (setOf x0 x1 x2 x3) 0 = x0 ∧ wd (setOf x0 x1 x2 x3) 1 = x1 ∧ wd (setOf x0 x1 x2 x3) 2 = x2 ∧ wd (setOf x0 x1 x2 x3) 3 = x3 := by
  refine ⟨?_, ?_, ?_, ?_⟩ <;> unfold wd
  · refine Eq.trans (natOf_congr fun j hj => ?_) (natOf_self (n := 64) h0)
    unfold setOf; rw [if_pos (by omega)]; simp
  · refine Eq.trans (natOf_congr fun j hj => ?_) (natOf_self (n := 64) h1)
    unfold setOf; rw [if_neg (by omega), if_pos (by omega)]; rw [show 64 * 1 + j - 64 = j by omega]
  · refine Eq.trans (natOf_congr fun j hj => ?_) (natOf_self (n := 64) h2)
    unfold setOf; rw [if_neg (by omega), if_neg (by omega), if_pos (by omega)]; rw [show 64 * 2 + j - 128 = j by omega]
  · refine Eq.trans (natOf_congr fun j hj => ?_) (natOf_self (n := 64) h3)
    unfold setOf; rw [if_neg (by omega), if_neg (by omega), if_neg (by omega)]; rw [show 64 * 3 + j - 192 = j by omega]

def orP (p q : Nat → Bool) (i : Nat) : Bool := p i || q i
def andP (p q : Nat → Bool) (i : Nat) : Bool := p i && q i
def minusP (p q : Nat → Bool) (i : Nat) : Bool := p i && !q i
def oneP (v : Int) (i : Nat) : Bool := decide ((i : Int) = v)
def noneP (_ : Nat) : Bool := false
def hasP (p : Nat → Bool) (v : Int) : Bool := decide (0 ≤ v ∧ v ≤ 255) && p v.toNat

theorem two64 : (18446744073709551616 : Nat) = 2 ^ 64 := by decide

theorem wd_ext {x : Nat} {p : Nat → Bool} {k : Nat} (hx : x < 18446744073709551616) (h : ∀ j, j < 64 → x.testBit j = p (64 * k + j)) : x = wd p k := by
  rw [← natOf_self (n := 64) hx]
  exact natOf_congr fun j hj => h j hj

theorem wd_or (p q : Nat → Bool) (k : Nat) : wd p k ||| wd q k = wd (orP p q) k :=
  wd_ext (Nat.or_lt_two_pow (n := 64) (wd_lt' p k) (wd_lt' q k)) fun j hj => by rw [Nat.testBit_or, wd_bit p k hj, wd_bit q k hj]; rfl
theorem wd_and (p q : Nat → Bool) (k : Nat) : wd p k &&& wd q k = wd (andP p q) k :=
  wd_ext (Nat.lt_of_le_of_lt Nat.and_le_left (wd_lt p k)) fun j hj => by rw [Nat.testBit_and, wd_bit p k hj, wd_bit q k hj]; rfl
theorem wd_minus (p q : Nat → Bool) (k : Nat) : wd p k &&& (18446744073709551615 - wd q k) = wd (minusP p q) k :=
  wd_ext (Nat.lt_of_le_of_lt Nat.and_le_left (wd_lt p k)) fun j hj => by
    have hq := wd_lt q k
    have e : 18446744073709551615 - wd q k = 2 ^ 64 - (wd q k + 1) := by rw [show (2 : Nat) ^ 64 = 18446744073709551616 by decide]; omega
    rw [Nat.testBit_and, wd_bit p k hj, e, Nat.testBit_two_pow_sub_succ (wd_lt' q k), wd_bit q k hj]
    simp [hj, minusP]

theorem wd_none (k : Nat) : wd noneP k = 0 := (wd_ext (p := noneP) (k := k) (by omega) (fun j _ => by simp [noneP])).symm

/-- One number alone. -/
theorem wd_one_at {k j : Nat} (hj : j < 64) : wd (oneP ((64 * k + j : Nat) : Int)) k = 2 ^ j :=
  (wd_ext (Nat.pow_lt_pow_right (a := 2) (by omega) hj) fun i hi => by
    rw [Nat.testBit_two_pow]; unfold oneP
    by_cases h : j = i
    · subst h; simp
    · rw [decide_eq_false h, eq_comm, decide_eq_false_iff_not]; omega).symm
theorem wd_one_far {v : Int} {k : Nat} (h : ∀ j : Nat, j < 64 → ((64 * k + j : Nat) : Int) ≠ v) : wd (oneP v) k = 0 :=
  (wd_ext (by omega) fun j hj => by unfold oneP; rw [decide_eq_false (h j hj)]; simp).symm

theorem natOf_put (p : Nat → Bool) (j : Nat) : ∀ n, natOf (fun i => p i || decide (i = j)) n = natOf p n + if j < n ∧ p j = false then 2 ^ j else 0
  | 0 => by simp [natOf]
  | n + 1 => by
    simp only [natOf]; rw [natOf_put p j n]
    by_cases h : n = j
    · subst h
      by_cases hp : p n = true
      · simp [hp]
      · simp [hp]
    · by_cases hl : j < n
      · have hl' : j < n + 1 := by omega
        simp only [hl, hl', true_and, decide_eq_false h, Bool.or_false]; omega
      · have hl' : ¬ j < n + 1 := by omega
        simp only [hl, hl', false_and, if_false, decide_eq_false h, Bool.or_false]; omega
theorem natOf_del (p : Nat → Bool) (j : Nat) : ∀ n, natOf (fun i => p i && !decide (i = j)) n + (if j < n ∧ p j = true then 2 ^ j else 0) = natOf p n
  | 0 => by simp [natOf]
  | n + 1 => by
    simp only [natOf]
    have ih := natOf_del p j n
    by_cases h : n = j
    · subst h
      by_cases hp : p n = true
      · simp [hp] at ih ⊢; omega
      · simp [hp] at ih ⊢; omega
    · by_cases hl : j < n
      · have hl' : j < n + 1 := by omega
        simp only [hl, hl', true_and, decide_eq_false h, Bool.not_false, Bool.and_true] at ih ⊢; omega
      · have hl' : ¬ j < n + 1 := by omega
        simp only [hl, hl', false_and, if_false, decide_eq_false h, Bool.not_false, Bool.and_true] at ih ⊢; omega

theorem wd_put {p : Nat → Bool} {k j : Nat} (hj : j < 64) (hp : p (64 * k + j) = false) : wd p k + 2 ^ j = wd (orP p (oneP ((64 * k + j : Nat) : Int))) k := by
  have h := natOf_put (fun i => p (64 * k + i)) j 64
  rw [if_pos ⟨hj, hp⟩] at h
  unfold wd; rw [← h]
  exact natOf_congr fun i _ => by
    unfold orP oneP
    rw [show decide (((64 * k + i : Nat) : Int) = ((64 * k + j : Nat) : Int)) = decide (i = j) from decide_eq_decide.2 (by omega)]
theorem wd_del {p : Nat → Bool} {k j : Nat} (hj : j < 64) (hp : p (64 * k + j) = true) : wd p k = wd (minusP p (oneP ((64 * k + j : Nat) : Int))) k + 2 ^ j := by
  have h := natOf_del (fun i => p (64 * k + i)) j 64
  rw [if_pos ⟨hj, hp⟩] at h
  unfold wd; rw [← h]
  congr 1
  exact natOf_congr fun i _ => by
    unfold minusP oneP
    rw [show decide (((64 * k + i : Nat) : Int) = ((64 * k + j : Nat) : Int)) = decide (i = j) from decide_eq_decide.2 (by omega)]

theorem wd_or_far {p : Nat → Bool} {v : Int} {k : Nat} (h : ∀ j : Nat, j < 64 → ((64 * k + j : Nat) : Int) ≠ v) : wd (orP p (oneP v)) k = wd p k :=
  natOf_congr fun j hj => by unfold orP oneP; rw [decide_eq_false (h j hj), Bool.or_false]
theorem wd_minus_far {p : Nat → Bool} {v : Int} {k : Nat} (h : ∀ j : Nat, j < 64 → ((64 * k + j : Nat) : Int) ≠ v) : wd (minusP p (oneP v)) k = wd p k :=
  natOf_congr fun j hj => by unfold minusP oneP; rw [decide_eq_false (h j hj), Bool.not_false, Bool.and_true]

theorem wd_ne {p q : Nat → Bool} {k j : Nat} (hj : j < 64) (h : p (64 * k + j) ≠ q (64 * k + j)) : wd p k ≠ wd q k := fun e => h (by rw [← wd_bit p k hj, ← wd_bit q k hj, e])

/-- One bit, read by shifting and masking. -/
theorem bit_read (x j : Nat) : x / 2 ^ j % 2 = if x.testBit j then 1 else 0 := by
  rw [Nat.testBit_eq_decide_div_mod_eq]
  have : x / 2 ^ j % 2 < 2 := Nat.mod_lt _ (by omega)
  by_cases h : x / 2 ^ j % 2 = 1 <;> simp [h]
  omega

end Go.Proofs.Ytflemmmaakhahaa

/-
  How many bits of a word are 1, as the masks and shifts of the library's text reckon it: plain numbers, no program in this text.
-/
namespace Go.Proofs.Ytflemmmaakhahaa

/-- How many of p's first n are true. -/
def cntN (p : Nat → Bool) : Nat → Nat
  | 0 => 0
  | n + 1 => cntN p n + if p n then 1 else 0
theorem cntN_le (p : Nat → Bool) : ∀ n, cntN p n ≤ n
  | 0 => Nat.le_refl _
  | n + 1 => by have := cntN_le p n; simp only [cntN]; split <;> omega
theorem cntN_congr {p q : Nat → Bool} : ∀ {n}, (∀ j, j < n → p j = q j) → cntN p n = cntN q n
  | 0, _ => rfl
  | n + 1, h => by simp only [cntN]; rw [cntN_congr (fun j hj => h j (by omega)), h n (by omega)]
theorem cntN_add (p : Nat → Bool) (m : Nat) : ∀ n, cntN p (m + n) = cntN p m + cntN (fun j => p (m + j)) n
  | 0 => rfl
  | n + 1 => by
    have := cntN_add p m n
    rw [← Nat.add_assoc]
    simp only [cntN]; omega

def M (d : Nat) : Nat → Nat
  | 0 => 0
  | n + 1 => 256 * M d n + d
theorem M_succ (d n : Nat) : M d (n + 1) = 256 * M d n + d := rfl
def sA (x n : Nat) : Nat := (x / 2 &&& M 0x55 n) + (x &&& M 0x55 n)
def sB (x n : Nat) : Nat := (x / 4 &&& M 0x33 n) + (x &&& M 0x33 n)
def sC (x n : Nat) : Nat := (x / 16 + x) &&& M 0x0f n
def pops (x : Nat) : Nat → Nat
  | 0 => 0
  | n + 1 => 256 * pops (x / 256) n + cntN x.testBit 8

theorem and_parts (a b c d : Nat) (hb : b < 256) (hd : d < 256) : (256 * a + b) &&& (256 * c + d) = 256 * (a &&& c) + (b &&& d) := by
  have h1 := Nat.and_div_two_pow (a := 256 * a + b) (b := 256 * c + d) (n := 8)
  have h2 := Nat.and_mod_two_pow (a := 256 * a + b) (b := 256 * c + d) (n := 8)
  have e1 : (256 * a + b) / 2 ^ 8 = a := by rw [show (2 : Nat) ^ 8 = 256 by decide]; omega
  have e2 : (256 * c + d) / 2 ^ 8 = c := by rw [show (2 : Nat) ^ 8 = 256 by decide]; omega
  have e3 : (256 * a + b) % 2 ^ 8 = b := by rw [show (2 : Nat) ^ 8 = 256 by decide]; omega
  have e4 : (256 * c + d) % 2 ^ 8 = d := by rw [show (2 : Nat) ^ 8 = 256 by decide]; omega
  rw [e1, e2] at h1
  rw [e3, e4] at h2
  rw [show (2 : Nat) ^ 8 = 256 by decide] at h1 h2
  generalize a &&& c = u at *
  generalize b &&& d = v at *
  generalize (256 * a + b) &&& (256 * c + d) = z at *
  omega

def bA (d : Nat) : Nat := (d / 2 &&& 0x55) + (d &&& 0x55)
def bB (d : Nat) : Nat := (d / 4 &&& 0x33) + (d &&& 0x33)
theorem bA_far : ∀ r, r < 2 → ∀ d, d < 256 → (128 * r + d / 2) &&& 0x55 = (d / 2 &&& 0x55) := by decide +kernel
theorem bB_far : ∀ r, r < 4 → ∀ d, d < 256 → (64 * r + d / 4) &&& 0x33 = (d / 4 &&& 0x33) := by decide +kernel
theorem bA_lt : ∀ d, d < 256 → bA d < 256 := by decide +kernel
theorem bB_lt : ∀ d, d < 256 → bB (bA d) < 256 ∧ bB (bA d) % 16 ≤ 4 := by decide +kernel
theorem bC_all : ∀ d, d < 256 → ∀ r, r < 5 → (16 * r + bB (bA d) / 16 + bB (bA d)) < 256 ∧ (16 * r + bB (bA d) / 16 + bB (bA d)) &&& 0x0f = cntN d.testBit 8 := by decide +kernel

theorem sA_step (y d n : Nat) (hd : d < 256) : sA (256 * y + d) (n + 1) = 256 * sA y n + bA d := by
  have e : (256 * y + d) / 2 = 256 * (y / 2) + (128 * (y % 2) + d / 2) := by omega
  have f := bA_far (y % 2) (by omega) d hd
  unfold sA bA
  rw [M_succ, e, and_parts _ _ _ _ (by omega) (by omega), and_parts _ _ _ _ hd (by omega), f]
  omega
theorem sB_step (y d n : Nat) (hd : d < 256) : sB (256 * y + d) (n + 1) = 256 * sB y n + bB d := by
  have e : (256 * y + d) / 4 = 256 * (y / 4) + (64 * (y % 4) + d / 4) := by omega
  have f := bB_far (y % 4) (by omega) d hd
  unfold sB bB
  rw [M_succ, e, and_parts _ _ _ _ (by omega) (by omega), and_parts _ _ _ _ hd (by omega), f]
  omega
theorem sC_step (y d n : Nat) (h : 16 * (y % 16) + d / 16 + d < 256) : sC (256 * y + d) (n + 1) = 256 * sC y n + ((16 * (y % 16) + d / 16 + d) &&& 0x0f) := by
  have e : (256 * y + d) / 16 + (256 * y + d) = 256 * (y / 16 + y) + (16 * (y % 16) + d / 16 + d) := by omega
  unfold sC
  rw [M_succ, e, and_parts _ _ _ _ h (by omega)]

theorem low_bits (x : Nat) : cntN x.testBit 8 = cntN (x % 256).testBit 8 :=
  cntN_congr fun j hj => by rw [show (256 : Nat) = 2 ^ 8 by decide, Nat.testBit_mod_two_pow]; simp [hj]

theorem steps : ∀ n x, sC (sB (sA x n) n) n = pops x n ∧ sB (sA x n) n % 16 ≤ 4
  | 0, x => by simp [sC, sB, M, pops]
  | n + 1, x => by
    obtain ⟨h1, h2⟩ := steps n (x / 256)
    have hx : x = 256 * (x / 256) + x % 256 := by omega
    have hd : x % 256 < 256 := Nat.mod_lt _ (by omega)
    have a := bA_lt _ hd
    obtain ⟨b1, b2⟩ := bB_lt _ hd
    obtain ⟨c1, c2⟩ := bC_all _ hd _ (show sB (sA (x / 256) n) n % 16 < 5 by omega)
    have eA : sA x (n + 1) = 256 * sA (x / 256) n + bA (x % 256) := by
      rw [← sA_step _ _ _ hd, ← hx]
    rw [eA, sB_step _ _ _ a, sC_step _ _ _ c1, h1, c2]
    refine ⟨?_, by omega⟩
    show _ = 256 * pops (x / 256) n + cntN x.testBit 8
    rw [low_bits x]

theorem high_bits (x n : Nat) : cntN x.testBit (8 + n) = cntN x.testBit 8 + cntN (x / 256).testBit n := by
  rw [cntN_add]
  congr 1
  exact cntN_congr fun j _ => by rw [show (256 : Nat) = 2 ^ 8 by decide, Nat.testBit_div_two_pow, Nat.add_comm]

theorem fold64 (x : Nat) : cntN x.testBit 64 < 128 ∧ ∃ b0 b1 b2 b3 b4 b5 b6 b7 : Nat, pops x 8 = b0 + 256 * (b1 + 256 * (b2 + 256 * (b3 + 256 * (b4 + 256 * (b5 + 256 * (b6 + 256 * b7)))))) ∧ b0 ≤ 8 ∧ b1 ≤ 8 ∧ b2 ≤ 8 ∧ b3 ≤ 8 ∧ b4 ≤ 8 ∧ b5 ≤ 8 ∧ b6 ≤ 8 ∧ b7 ≤ 8 ∧ cntN x.testBit 64 = b0 + b1 + b2 + b3 + b4 + b5 + b6 + b7 := by
  have l := fun y : Nat => cntN_le y.testBit 8
  refine ⟨by have := cntN_le x.testBit 64; omega, _, _, _, _, _, _, _, _, ?_, l x, l (x / 256), l (x / 256 / 256), l (x / 256 / 256 / 256), l (x / 256 / 256 / 256 / 256), l (x / 256 / 256 / 256 / 256 / 256), l (x / 256 / 256 / 256 / 256 / 256 / 256), l (x / 256 / 256 / 256 / 256 / 256 / 256 / 256), ?_⟩
  · simp only [pops]; omega
  · rw [high_bits x 56, high_bits _ 48, high_bits _ 40, high_bits _ 32, high_bits _ 24, high_bits _ 16, high_bits _ 8]; omega

theorem div_part {A B c : Nat} (h : A < c) : (A + c * B) / c = B := by
  rw [Nat.add_mul_div_left _ _ (by omega), Nat.div_eq_of_lt h, Nat.zero_add]

theorem lin1 (b0 b1 b2 b3 b4 b5 b6 b7 : Nat) : (b0 + 256 * (b1 + 256 * (b2 + 256 * (b3 + 256 * (b4 + 256 * (b5 + 256 * (b6 + 256 * b7))))))) + (b1 + 256 * (b2 + 256 * (b3 + 256 * (b4 + 256 * (b5 + 256 * (b6 + 256 * b7)))))) = ((b0 + b1) + 256 * (b1 + b2)) + 65536 * ((b2 + b3) + 256 * (b3 + b4) + 65536 * ((b4 + b5) + 256 * (b5 + b6) + 65536 * ((b6 + b7) + 256 * b7))) := by omega
theorem lin2 (b0 b1 b2 b3 b4 b5 b6 b7 : Nat) : ((b0 + b1) + 256 * (b1 + b2)) + 65536 * ((b2 + b3) + 256 * (b3 + b4) + 65536 * ((b4 + b5) + 256 * (b5 + b6) + 65536 * ((b6 + b7) + 256 * b7))) + ((b2 + b3) + 256 * (b3 + b4) + 65536 * ((b4 + b5) + 256 * (b5 + b6) + 65536 * ((b6 + b7) + 256 * b7))) = ((b0 + b1 + b2 + b3) + 256 * (b1 + b2 + b3 + b4) + 65536 * ((b2 + b3 + b4 + b5) + 256 * (b3 + b4 + b5 + b6))) + 4294967296 * ((b4 + b5 + b6 + b7) + 256 * (b5 + b6 + b7) + 65536 * ((b6 + b7) + 256 * b7)) := by omega
theorem lin3 (b0 b1 b2 b3 b4 b5 b6 b7 : Nat) : ((b0 + b1 + b2 + b3) + 256 * (b1 + b2 + b3 + b4) + 65536 * ((b2 + b3 + b4 + b5) + 256 * (b3 + b4 + b5 + b6))) + 4294967296 * ((b4 + b5 + b6 + b7) + 256 * (b5 + b6 + b7) + 65536 * ((b6 + b7) + 256 * b7)) + ((b4 + b5 + b6 + b7) + 256 * (b5 + b6 + b7) + 65536 * ((b6 + b7) + 256 * b7)) = (b0 + b1 + b2 + b3 + b4 + b5 + b6 + b7) + 128 * (2 * ((b1 + b2 + b3 + b4 + b5 + b6 + b7) + 256 * (b2 + b3 + b4 + b5 + b6 + b7) + 65536 * (b3 + b4 + b5 + b6 + b7) + 16777216 * ((b4 + b5 + b6 + b7) + 256 * (b5 + b6 + b7) + 65536 * ((b6 + b7) + 256 * b7)))) := by omega

/-- The last steps: the eight bytes are added up. -/
theorem sum_bytes (y b0 b1 b2 b3 b4 b5 b6 b7 : Nat) (e : y = b0 + 256 * (b1 + 256 * (b2 + 256 * (b3 + 256 * (b4 + 256 * (b5 + 256 * (b6 + 256 * b7)))))))
    (h0 : b0 ≤ 8) (h1 : b1 ≤ 8) (h2 : b2 ≤ 8) (h3 : b3 ≤ 8) (h4 : b4 ≤ 8) (h5 : b5 ≤ 8) (h6 : b6 ≤ 8) (h7 : b7 ≤ 8) :
    ∃ y1 y2 y3, y1 = y + y / 256 ∧ y2 = y1 + y1 / 65536 ∧ y3 = y2 + y2 / 4294967296 ∧ y < 18446744073709551616 ∧ y1 < 18446744073709551616 ∧ y2 < 18446744073709551616 ∧ y3 < 9223372036854775808 ∧ y3 % 128 = b0 + b1 + b2 + b3 + b4 + b5 + b6 + b7 := by
  have e1 : y / 256 = b1 + 256 * (b2 + 256 * (b3 + 256 * (b4 + 256 * (b5 + 256 * (b6 + 256 * b7))))) := by rw [e]; exact div_part (by omega)
  obtain ⟨y1, hy1⟩ : ∃ y1, y1 = y + y / 256 := ⟨_, rfl⟩
  have f1 : y1 = ((b0 + b1) + 256 * (b1 + b2)) + 65536 * ((b2 + b3) + 256 * (b3 + b4) + 65536 * ((b4 + b5) + 256 * (b5 + b6) + 65536 * ((b6 + b7) + 256 * b7))) := by rw [hy1, e1, e]; exact lin1 ..
  have g1 : y1 / 65536 = (b2 + b3) + 256 * (b3 + b4) + 65536 * ((b4 + b5) + 256 * (b5 + b6) + 65536 * ((b6 + b7) + 256 * b7)) := by rw [f1]; exact div_part (by omega)
  obtain ⟨y2, hy2⟩ : ∃ y2, y2 = y1 + y1 / 65536 := ⟨_, rfl⟩
  have f2 : y2 = ((b0 + b1 + b2 + b3) + 256 * (b1 + b2 + b3 + b4) + 65536 * ((b2 + b3 + b4 + b5) + 256 * (b3 + b4 + b5 + b6))) + 4294967296 * ((b4 + b5 + b6 + b7) + 256 * (b5 + b6 + b7) + 65536 * ((b6 + b7) + 256 * b7)) := by rw [hy2, g1, f1]; exact lin2 ..
  have g2 : y2 / 4294967296 = (b4 + b5 + b6 + b7) + 256 * (b5 + b6 + b7) + 65536 * ((b6 + b7) + 256 * b7) := by rw [f2]; exact div_part (by omega)
  obtain ⟨y3, hy3⟩ : ∃ y3, y3 = y2 + y2 / 4294967296 := ⟨_, rfl⟩
  have f3 : y3 = (b0 + b1 + b2 + b3 + b4 + b5 + b6 + b7) + 128 * (2 * ((b1 + b2 + b3 + b4 + b5 + b6 + b7) + 256 * (b2 + b3 + b4 + b5 + b6 + b7) + 65536 * (b3 + b4 + b5 + b6 + b7) + 16777216 * ((b4 + b5 + b6 + b7) + 256 * (b5 + b6 + b7) + 65536 * ((b6 + b7) + 256 * b7)))) := by rw [hy3, g2, f2]; exact lin3 ..
  have k0 : y < 18446744073709551616 := by rw [e]; clear e e1 hy1 f1 g1 hy2 f2 g2 hy3 f3; omega
  have k1 : y1 < 18446744073709551616 := by rw [f1]; clear e e1 hy1 f1 g1 hy2 f2 g2 hy3 f3; omega
  have k2 : y2 < 18446744073709551616 := by rw [f2]; clear e e1 hy1 f1 g1 hy2 f2 g2 hy3 f3; omega
  have k3 : y3 < 9223372036854775808 := by rw [f3]; clear e e1 hy1 f1 g1 hy2 f2 g2 hy3 f3; omega
  have km : y3 % 128 = b0 + b1 + b2 + b3 + b4 + b5 + b6 + b7 := by rw [f3, Nat.add_mul_mod_self_left, Nat.mod_eq_of_lt (by clear e e1 hy1 f1 g1 hy2 f2 g2 hy3 f3 k0 k1 k2 k3; omega)]
  exact ⟨y1, y2, y3, hy1, hy2, hy3, k0, k1, k2, k3, km⟩

theorem M55 : M 0x55 8 = 6148914691236517205 := by decide +kernel
theorem M33 : M 0x33 8 = 3689348814741910323 := by decide +kernel
theorem M0f : M 0x0f 8 = 1085102592571150095 := by decide +kernel

/-- All the steps, with what they need to be: none of them passes 64 bits. -/
theorem pop_steps (x : Nat) : ∃ a b c d e f : Nat,
    (x / 2 &&& 6148914691236517205) + (x &&& 6148914691236517205) = a ∧ a < 18446744073709551616 ∧
    (a / 4 &&& 3689348814741910323) + (a &&& 3689348814741910323) = b ∧ b < 18446744073709551616 ∧ b / 16 + b < 18446744073709551616 ∧
    (b / 16 + b) &&& 1085102592571150095 = c ∧ c + c / 256 = d ∧ d + d / 65536 = e ∧ e + e / 4294967296 = f ∧
    c < 18446744073709551616 ∧ d < 18446744073709551616 ∧ e < 18446744073709551616 ∧ f < 9223372036854775808 ∧ f % 128 = cntN x.testBit 64 := by
  obtain ⟨h1, _⟩ := steps 8 x
  obtain ⟨_, b0, b1, b2, b3, b4, b5, b6, b7, hp, l0, l1, l2, l3, l4, l5, l6, l7, hs⟩ := fold64 x
  obtain ⟨y1, y2, y3, e1, e2, e3, k0, k1, k2, k3, hm⟩ := sum_bytes _ b0 b1 b2 b3 b4 b5 b6 b7 hp l0 l1 l2 l3 l4 l5 l6 l7
  have q1 : ∀ z : Nat, (z &&& 6148914691236517205) ≤ 6148914691236517205 := fun z => Nat.and_le_right
  have q2 : ∀ z : Nat, (z &&& 3689348814741910323) ≤ 3689348814741910323 := fun z => Nat.and_le_right
  have r1 := q1 (x / 2); have r2 := q1 x
  refine ⟨sA x 8, sB (sA x 8) 8, pops x 8, y1, y2, y3, by unfold sA; rw [M55], ?_, by unfold sB; rw [M33], ?_, ?_, by rw [← h1]; unfold sC; rw [M0f], e1.symm, e2.symm, e3.symm, k0, k1, k2, k3, by rw [hm, hs]⟩
  · unfold sA; rw [M55]; generalize x / 2 &&& 6148914691236517205 = u at *; generalize x &&& 6148914691236517205 = v at *; omega
  · have r3 := q2 (sA x 8 / 4); have r4 := q2 (sA x 8)
    unfold sB; rw [M33]; generalize sA x 8 / 4 &&& 3689348814741910323 = u at *; generalize sA x 8 &&& 3689348814741910323 = v at *; omega
  · have r3 := q2 (sA x 8 / 4); have r4 := q2 (sA x 8)
    unfold sB; rw [M33]; generalize sA x 8 / 4 &&& 3689348814741910323 = u at *; generalize sA x 8 &&& 3689348814741910323 = v at *; omega

end Go.Proofs.Ytflemmmaakhahaa

/-
  What stands in memory, carried through calls, new blocks and stores; blocks of four words.
-/
namespace Go.Proofs.Ytflemmmaakhahaa
open Go.RowKit

theorem bcell {W w1 : World} (hb : Below W.heap.size W w1) : (∀ b o, b < W.heap.size → w1.cell? ⟨b, o, none⟩ = W.cell? ⟨b, o, none⟩) ∧ (∀ b o, b < W.heap.size → w1.frozen? ⟨b, o, none⟩ = W.frozen? ⟨b, o, none⟩) :=
  ⟨fun b o h => hb.cell (p := ⟨b, o, none⟩) h, fun b o h => hb.frozen (p := ⟨b, o, none⟩) h⟩

/-- A cell that was there reads as it did. -/
theorem l_kept_cell {w w' : World} (hb : Below w.heap.size w w') {b o : Nat} {v : Value} (h : w.cell? ⟨b, o, none⟩ = some v) : w'.cell? ⟨b, o, none⟩ = some v := by
  rw [hb.cell (p := ⟨b, o, none⟩) (block_of_cell h)]; exact h
theorem kept_frozen {w w' : World} (hb : Below w.heap.size w w') {b o : Nat} {v : Value} (h : w.cell? ⟨b, o, none⟩ = some v) (hf : w.frozen? ⟨b, o, none⟩ = false) : w'.frozen? ⟨b, o, none⟩ = false := by
  rw [hb.frozen (p := ⟨b, o, none⟩) (block_of_cell h)]; exact hf

/-- A block of four words, none of them frozen. -/
structure Four (w : World) (b : Nat) (x0 x1 x2 x3 : Nat) : Prop where
  c0 : w.cell? ⟨b, 0, none⟩ = some (.int .u64 x0)
  c1 : w.cell? ⟨b, 1, none⟩ = some (.int .u64 x1)
  c2 : w.cell? ⟨b, 2, none⟩ = some (.int .u64 x2)
  c3 : w.cell? ⟨b, 3, none⟩ = some (.int .u64 x3)
  f0 : w.frozen? ⟨b, 0, none⟩ = false
  f1 : w.frozen? ⟨b, 1, none⟩ = false
  f2 : w.frozen? ⟨b, 2, none⟩ = false
  f3 : w.frozen? ⟨b, 3, none⟩ = false

theorem Four.kept {w w' : World} {b x0 x1 x2 x3 : Nat} (h : Four w b x0 x1 x2 x3) (hb : Below w.heap.size w w') : Four w' b x0 x1 x2 x3 :=
  ⟨l_kept_cell hb h.c0, l_kept_cell hb h.c1, l_kept_cell hb h.c2, l_kept_cell hb h.c3, kept_frozen hb h.c0 h.f0, kept_frozen hb h.c1 h.f1, kept_frozen hb h.c2 h.f2, kept_frozen hb h.c3 h.f3⟩
theorem Four.lt {w : World} {b x0 x1 x2 x3 : Nat} (h : Four w b x0 x1 x2 x3) : b < w.heap.size := block_of_cell h.c0
theorem Four.alloc {w : World} {b x0 x1 x2 x3 : Nat} (h : Four w b x0 x1 x2 x3) (o : Obj) : Four (w.alloc o) b x0 x1 x2 x3 := h.kept ((Below.refl _ _).alloc (Nat.le_refl _) o)
theorem Four.new (w : World) (x0 x1 x2 x3 : Nat) (T : TypeId) : Four (w.alloc (.cells #[.int .u64 x0, .int .u64 x1, .int .u64 x2, .int .u64 x3] T)) w.heap.size x0 x1 x2 x3 :=
  ⟨by simp, by simp, by simp, by simp, by simp, by simp, by simp, by simp⟩
theorem Four.far {w : World} {b x0 x1 x2 x3 : Nat} (h : Four w b x0 x1 x2 x3) {p : Addr} (hp : b ≠ p.block) (v : Value) : Four (w.setCell p v) b x0 x1 x2 x3 := by
  have e : ∀ o, (⟨b, o, none⟩ : Addr) ≠ p := fun o e => hp (by rw [← e])
  refine ⟨?_, ?_, ?_, ?_, ?_, ?_, ?_, ?_⟩
  · rw [World.cell?_setCell_other _ _ _ _ (fun e2 => e 0 e2.symm)]; exact h.c0
  · rw [World.cell?_setCell_other _ _ _ _ (fun e2 => e 1 e2.symm)]; exact h.c1
  · rw [World.cell?_setCell_other _ _ _ _ (fun e2 => e 2 e2.symm)]; exact h.c2
  · rw [World.cell?_setCell_other _ _ _ _ (fun e2 => e 3 e2.symm)]; exact h.c3
  · simp; exact h.f0
  · simp; exact h.f1
  · simp; exact h.f2
  · simp; exact h.f3
theorem Four.set0 {w : World} {b x0 x1 x2 x3 : Nat} (h : Four w b x0 x1 x2 x3) (v : Nat) : Four (w.setCell ⟨b, 0, none⟩ (.int .u64 v)) b v x1 x2 x3 := by
  refine ⟨World.cell?_setCell_same _ _ _ h.c0, ?_, ?_, ?_, ?_, ?_, ?_, ?_⟩
  · rw [World.cell?_setCell_other _ _ _ _ (by simp)]; exact h.c1
  · rw [World.cell?_setCell_other _ _ _ _ (by simp)]; exact h.c2
  · rw [World.cell?_setCell_other _ _ _ _ (by simp)]; exact h.c3
  · simp; exact h.f0
  · simp; exact h.f1
  · simp; exact h.f2
  · simp; exact h.f3
theorem Four.set1 {w : World} {b x0 x1 x2 x3 : Nat} (h : Four w b x0 x1 x2 x3) (v : Nat) : Four (w.setCell ⟨b, 1, none⟩ (.int .u64 v)) b x0 v x2 x3 := by
  refine ⟨?_, World.cell?_setCell_same _ _ _ h.c1, ?_, ?_, ?_, ?_, ?_, ?_⟩
  · rw [World.cell?_setCell_other _ _ _ _ (by simp)]; exact h.c0
  · rw [World.cell?_setCell_other _ _ _ _ (by simp)]; exact h.c2
  · rw [World.cell?_setCell_other _ _ _ _ (by simp)]; exact h.c3
  · simp; exact h.f0
  · simp; exact h.f1
  · simp; exact h.f2
  · simp; exact h.f3
theorem Four.set2 {w : World} {b x0 x1 x2 x3 : Nat} (h : Four w b x0 x1 x2 x3) (v : Nat) : Four (w.setCell ⟨b, 2, none⟩ (.int .u64 v)) b x0 x1 v x3 := by
  refine ⟨?_, ?_, World.cell?_setCell_same _ _ _ h.c2, ?_, ?_, ?_, ?_, ?_⟩
  · rw [World.cell?_setCell_other _ _ _ _ (by simp)]; exact h.c0
  · rw [World.cell?_setCell_other _ _ _ _ (by simp)]; exact h.c1
  · rw [World.cell?_setCell_other _ _ _ _ (by simp)]; exact h.c3
  · simp; exact h.f0
  · simp; exact h.f1
  · simp; exact h.f2
  · simp; exact h.f3
theorem Four.set3 {w : World} {b x0 x1 x2 x3 : Nat} (h : Four w b x0 x1 x2 x3) (v : Nat) : Four (w.setCell ⟨b, 3, none⟩ (.int .u64 v)) b x0 x1 x2 v := by
  refine ⟨?_, ?_, ?_, World.cell?_setCell_same _ _ _ h.c3, ?_, ?_, ?_, ?_⟩
  · rw [World.cell?_setCell_other _ _ _ _ (by simp)]; exact h.c0
  · rw [World.cell?_setCell_other _ _ _ _ (by simp)]; exact h.c1
  · rw [World.cell?_setCell_other _ _ _ _ (by simp)]; exact h.c2
  · simp; exact h.f0
  · simp; exact h.f1
  · simp; exact h.f2
  · simp; exact h.f3

/-- A set is stored whole. -/
def set4 (w : World) (b x0 x1 x2 x3 : Nat) : World := (((w.setCell ⟨b, 0, none⟩ (.int .u64 x0)).setCell ⟨b, 1, none⟩ (.int .u64 x1)).setCell ⟨b, 2, none⟩ (.int .u64 x2)).setCell ⟨b, 3, none⟩ (.int .u64 x3)
theorem Four.set4 {w : World} {b y0 y1 y2 y3 : Nat} (h : Four w b y0 y1 y2 y3) (x0 x1 x2 x3 : Nat) : Four (set4 w b x0 x1 x2 x3) b x0 x1 x2 x3 := (((h.set0 x0).set1 x1).set2 x2).set3 x3
theorem Four.far4 {w : World} {b d y0 y1 y2 y3 : Nat} (h : Four w b y0 y1 y2 y3) (hne : b ≠ d) (x0 x1 x2 x3 : Nat) : Four (Go.Proofs.Ytflemmmaakhahaa.set4 w d x0 x1 x2 x3) b y0 y1 y2 y3 :=
  (((h.far (p := ⟨d, 0, none⟩) hne _).far (p := ⟨d, 1, none⟩) hne _).far (p := ⟨d, 2, none⟩) hne _).far (p := ⟨d, 3, none⟩) hne _
theorem below_set4 {B : Nat} {W w : World} {d : Nat} (h : Below B W w) (hd : B ≤ d) (x0 x1 x2 x3 : Nat) : Below B W (set4 w d x0 x1 x2 x3) :=
  (((h.setCell (p := ⟨d, 0, none⟩) hd _).setCell (p := ⟨d, 1, none⟩) hd _).setCell (p := ⟨d, 2, none⟩) hd _).setCell (p := ⟨d, 3, none⟩) hd _
theorem set4_size (w : World) (b x0 x1 x2 x3 : Nat) : (set4 w b x0 x1 x2 x3).heap.size = w.heap.size := by simp [set4]

theorem cell_same {w w1 : World} (e : w1.heap = w.heap) (a : Addr) : w1.cell? a = w.cell? a := by unfold World.cell?; rw [e]
theorem frozen_same {w w1 : World} (e : w1.heap = w.heap) (a : Addr) : w1.frozen? a = w.frozen? a := by unfold World.frozen?; rw [e]
/-- The same, where the walk has drawn in between. -/
theorem Four.next {w w1 w2 : World} {b x0 x1 x2 x3 : Nat} (hb : Below w1.heap.size w1 w2) (h : Four w b x0 x1 x2 x3) (e : w1.heap = w.heap := by rfl) : Four w2 b x0 x1 x2 x3 := by
  refine Four.kept ?_ hb
  exact ⟨by rw [cell_same e]; exact h.c0, by rw [cell_same e]; exact h.c1, by rw [cell_same e]; exact h.c2, by rw [cell_same e]; exact h.c3, by rw [frozen_same e]; exact h.f0, by rw [frozen_same e]; exact h.f1, by rw [frozen_same e]; exact h.f2, by rw [frozen_same e]; exact h.f3⟩
theorem below_next {B : Nat} {W w w1 w2 : World} (hb : Below w1.heap.size w1 w2) (h : Below B W w) (hB : B ≤ W.heap.size) (e : w1.heap = w.heap := by rfl) (e1 : w1.os = w.os := by rfl) (e2 : w1.tape = w.tape := by rfl) (e3 : w1.output = w.output := by rfl) : Below B W w2 := by
  have hs : w1.heap.size = w.heap.size := by rw [e]
  have h1 : Below B W w1 := ⟨e1.trans h.os, e2.trans h.tape, e3.trans h.output, by rw [hs]; exact h.size, fun k hk => by rw [e]; exact h.block k hk⟩
  exact h1.trans (hb.mono (by rw [hs]; exact Nat.le_trans hB h.size))

/-- A slice of integers that came in. -/
def IsRow (k : IntKind) (w : World) (a : Option Addr) (len cap : Nat) (zs : List Int) : Prop :=
  (a = none ∧ len = 0 ∧ cap = 0 ∧ zs = []) ∨
  ∃ x, a = some x ∧ len ≤ cap ∧ cap ≤ maxLen ∧ zs.length = cap ∧ (∀ i, i < zs.length → w.cell? (x.add i) = some (.int k (zs.getD i 0))) ∧ ∀ n ∈ zs, (Lit.int k n).wf = true

/-- A row of ints that lies below block B. -/
def Reads (w : World) (B : Nat) (a : Option Addr) (zs : List Int) : Prop :=
  zs = [] ∨ ∃ b off, a = some ⟨b, off, none⟩ ∧ b < B ∧ ∀ k, k < zs.length → w.cell? ⟨b, off + k, none⟩ = some (.int .i64 (zs.getD k 0))

theorem Reads.below {w w' : World} {B : Nat} {a : Option Addr} {zs : List Int} (h : Reads w B a zs) (hb : Below B w w') : Reads w' B a zs := by
  rcases h with h | ⟨b, off, h1, h2, h3⟩
  · exact .inl h
  · exact .inr ⟨b, off, h1, h2, fun k hk => by rw [hb.cell (p := ⟨b, off + k, none⟩) h2]; exact h3 k hk⟩
theorem Reads.up {w : World} {B B' : Nat} {ao : Option Addr} {zs : List Int} (h : Reads w B ao zs) (hB : B ≤ B') : Reads w B' ao zs := by
  rcases h with h | ⟨b, off, h1, h2, h3⟩
  · exact .inl h
  · exact .inr ⟨b, off, h1, by omega, h3⟩
theorem Reads.later {w w' : World} {B : Nat} {ao : Option Addr} {zs : List Int} (h : Reads w B ao zs) (hB : B ≤ w.heap.size) (hb : Below B w w') : Reads w' w'.heap.size ao zs :=
  (h.below hb).up (Nat.le_trans hB hb.size)

theorem getD_take (zs : List Int) (n k : Nat) (h : k < n) : (zs.take n).getD k 0 = zs.getD k 0 := by
  simp only [List.getD_eq_getElem?_getD, List.getElem?_take, if_pos h]
theorem Reads.take {w : World} {B : Nat} {ao : Option Addr} {zs : List Int} (h : Reads w B ao zs) (n : Nat) : Reads w B ao (zs.take n) := by
  rcases h with h | ⟨b, off, h1, h2, h3⟩
  · left; rw [h]; simp
  · right
    refine ⟨b, off, h1, h2, fun k hk => ?_⟩
    rw [List.length_take] at hk
    rw [getD_take _ _ _ (by omega)]
    exact h3 k (by omega)

theorem isrow_reads {w : World} {a : Option Addr} {len cap : Nat} {z : List Int} (h : IsRow .i64 w a len cap z) :
    Reads w w.heap.size a (z.take len) ∧ (z.take len).length = len ∧ (len : Int) ≤ 9223372036854775807 ∧ len ≤ cap ∧ (cap : Int) ≤ 9223372036854775807 ∧ ∀ x ∈ z.take len, (Lit.int .i64 x).wf = true := by
  rcases h with ⟨rfl, rfl, rfl, rfl⟩ | ⟨x, rfl, h1, h2, h3, h4, h5⟩
  · exact ⟨.inl rfl, rfl, by omega, by omega, by omega, by simp⟩
  · have hl : (z.take len).length = len := by rw [List.length_take]; omega
    refine ⟨?_, hl, by unfold maxLen at h2; omega, h1, by unfold maxLen at h2; omega, fun y hy => h5 y (List.mem_of_mem_take hy)⟩
    rcases Nat.eq_zero_or_pos len with e | e
    · left; rw [e]; simp
    · right
      have h0 := h4 0 (by omega)
      rcases x with ⟨b, off, spot⟩
      have hs : spot = none := by
        cases spot with
        | none => rfl
        | some s => simp [World.cell?, Addr.add] at h0; split at h0 <;> simp at h0
      subst hs
      refine ⟨b, off, rfl, block_of_cell h0, fun k hk => ?_⟩
      rw [getD_take _ _ _ (by omega)]
      have e : (⟨b, off, none⟩ : Addr).add k = ⟨b, off + k, none⟩ := by
        unfold Addr.add; split <;> simp_all
      rw [← e]
      exact h4 k (by omega)

theorem Calls.under {P : Program} {f : FuncId} {args : Array Value} {B : Nat} {W w : World} {R : Ending → Prop} (hb : Below B W w) (hB : B ≤ W.heap.size)
    (h : Calls P f args w fun e w' => R e ∧ Below w.heap.size w w') : Calls P f args w fun e w' => R e ∧ Below B W w' :=
  h.mono fun _ _ ⟨h1, h2⟩ => ⟨h1, hb.trans (h2.mono (Nat.le_trans hB hb.size))⟩

end Go.Proofs.Ytflemmmaakhahaa

/-
  The walks over one number's set, and over the count and the lowest bit of a word.
-/
namespace Go.Proofs.Ytflemmmaakhahaa
open Go.RowKit
set_option linter.unusedSimpArgs false

theorem u64_nat (n : Nat) (h : n < 18446744073709551616) : IntKind.u64.wrap (n : Int) = n := IntWalk.u64_in _ (by omega)
theorem pow_wrap {j : Nat} (hj : j < 64) : IntKind.u64.wrap ((2 : Int) ^ j) = ((2 ^ j : Nat) : Int) := by
  have h : (2 : Nat) ^ j < 18446744073709551616 := Nat.pow_lt_pow_right (a := 2) (m := j) (n := 64) (by omega) hj
  rw [show (2 : Int) ^ j = ((2 ^ j : Nat) : Int) by simp]
  exact u64_nat _ h

theorem one_words {k j : Nat} (hk : k < 4) (hj : j < 64) (k' : Nat) : wd (oneP ((64 * k + j : Nat) : Int)) k' = if k' = k then 2 ^ j else 0 := by
  by_cases h : k' = k
  · subst h; rw [if_pos rfl]; exact wd_one_at hj
  · rw [if_neg h]; exact wd_one_far fun i hi => by omega
theorem one_out {v : Int} (h : v < 0 ∨ 255 < v) {k : Nat} (hk : k < 4) : wd (oneP v) k = 0 := wd_one_far fun i hi => by omega

set_option maxHeartbeats 1000000 in
theorem only_0 (i : Int) (h0 : 0 ≤ i) (h1 : i / 64 = 0) (j : Nat) (hj : j < 64) (h2 : i % 64 = j) (w : World) :
    Calls Try.prog 63 #[.int .i64 i] w fun e w' => e = .returned (.agg #[.int .u64 (wd (oneP i) 0), .int .u64 (wd (oneP i) 1), .int .u64 (wd (oneP i) 2), .int .u64 (wd (oneP i) 3)]) ∧ Below w.heap.size w w' := by
  have hi : i = ((64 * 0 + j : Nat) : Int) := by omega
  have e0 := one_words (k := 0) (j := j) (by omega) hj 0
  have e1 := one_words (k := 0) (j := j) (by omega) hj 1
  have e2 := one_words (k := 0) (j := j) (by omega) hj 2
  have e3 := one_words (k := 0) (j := j) (by omega) hj 3
  rw [← hi] at e0 e1 e2 e3
  have pw := pow_wrap hj
  rw [e0, e1, e2, e3]
  clear e0 e1 e2 e3 hi
  simp only [reduceIte, Nat.reduceEqDiff, Nat.succ_ne_self, Nat.one_ne_zero, Nat.zero_ne_one]
  generalize (2 : Nat) ^ j = z at pw
  go_enter Try.func63, Try.ntmps63
  go_wp2
  exact bodyPost_ret (by simp [results, Try.results63, go_sem]) rfl ⟨rfl, ((Below.refl _ _).alloc (Nat.le_refl _) _).alloc (by simp) _⟩
set_option maxHeartbeats 1000000 in
theorem only_1 (i : Int) (h0 : 0 ≤ i) (h1 : i / 64 = 1) (j : Nat) (hj : j < 64) (h2 : i % 64 = j) (w : World) :
    Calls Try.prog 63 #[.int .i64 i] w fun e w' => e = .returned (.agg #[.int .u64 (wd (oneP i) 0), .int .u64 (wd (oneP i) 1), .int .u64 (wd (oneP i) 2), .int .u64 (wd (oneP i) 3)]) ∧ Below w.heap.size w w' := by
  have hi : i = ((64 * 1 + j : Nat) : Int) := by omega
  have e0 := one_words (k := 1) (j := j) (by omega) hj 0
  have e1 := one_words (k := 1) (j := j) (by omega) hj 1
  have e2 := one_words (k := 1) (j := j) (by omega) hj 2
  have e3 := one_words (k := 1) (j := j) (by omega) hj 3
  rw [← hi] at e0 e1 e2 e3
  have pw := pow_wrap hj
  rw [e0, e1, e2, e3]
  clear e0 e1 e2 e3 hi
  simp only [reduceIte, Nat.reduceEqDiff, Nat.succ_ne_self, Nat.one_ne_zero, Nat.zero_ne_one]
  generalize (2 : Nat) ^ j = z at pw
  go_enter Try.func63, Try.ntmps63
  go_wp2
  exact bodyPost_ret (by simp [results, Try.results63, go_sem]) rfl ⟨rfl, ((Below.refl _ _).alloc (Nat.le_refl _) _).alloc (by simp) _⟩
set_option maxHeartbeats 1000000 in
theorem only_2 (i : Int) (h0 : 0 ≤ i) (h1 : i / 64 = 2) (j : Nat) (hj : j < 64) (h2 : i % 64 = j) (w : World) :
    Calls Try.prog 63 #[.int .i64 i] w fun e w' => e = .returned (.agg #[.int .u64 (wd (oneP i) 0), .int .u64 (wd (oneP i) 1), .int .u64 (wd (oneP i) 2), .int .u64 (wd (oneP i) 3)]) ∧ Below w.heap.size w w' := by
  have hi : i = ((64 * 2 + j : Nat) : Int) := by omega
  have e0 := one_words (k := 2) (j := j) (by omega) hj 0
  have e1 := one_words (k := 2) (j := j) (by omega) hj 1
  have e2 := one_words (k := 2) (j := j) (by omega) hj 2
  have e3 := one_words (k := 2) (j := j) (by omega) hj 3
  rw [← hi] at e0 e1 e2 e3
  have pw := pow_wrap hj
  rw [e0, e1, e2, e3]
  clear e0 e1 e2 e3 hi
  simp only [reduceIte, Nat.reduceEqDiff, Nat.succ_ne_self, Nat.one_ne_zero, Nat.zero_ne_one]
  generalize (2 : Nat) ^ j = z at pw
  go_enter Try.func63, Try.ntmps63
  go_wp2
  exact bodyPost_ret (by simp [results, Try.results63, go_sem]) rfl ⟨rfl, ((Below.refl _ _).alloc (Nat.le_refl _) _).alloc (by simp) _⟩
set_option maxHeartbeats 1000000 in
theorem only_3 (i : Int) (h0 : 0 ≤ i) (h1 : i / 64 = 3) (j : Nat) (hj : j < 64) (h2 : i % 64 = j) (w : World) :
    Calls Try.prog 63 #[.int .i64 i] w fun e w' => e = .returned (.agg #[.int .u64 (wd (oneP i) 0), .int .u64 (wd (oneP i) 1), .int .u64 (wd (oneP i) 2), .int .u64 (wd (oneP i) 3)]) ∧ Below w.heap.size w w' := by
  have hi : i = ((64 * 3 + j : Nat) : Int) := by omega
  have e0 := one_words (k := 3) (j := j) (by omega) hj 0
  have e1 := one_words (k := 3) (j := j) (by omega) hj 1
  have e2 := one_words (k := 3) (j := j) (by omega) hj 2
  have e3 := one_words (k := 3) (j := j) (by omega) hj 3
  rw [← hi] at e0 e1 e2 e3
  have pw := pow_wrap hj
  rw [e0, e1, e2, e3]
  clear e0 e1 e2 e3 hi
  simp only [reduceIte, Nat.reduceEqDiff, Nat.succ_ne_self, Nat.one_ne_zero, Nat.zero_ne_one]
  generalize (2 : Nat) ^ j = z at pw
  go_enter Try.func63, Try.ntmps63
  go_wp2
  exact bodyPost_ret (by simp [results, Try.results63, go_sem]) rfl ⟨rfl, ((Below.refl _ _).alloc (Nat.le_refl _) _).alloc (by simp) _⟩

set_option maxHeartbeats 1000000 in
theorem only_low (i : Int) (h : i < 0) (w : World) :
    Calls Try.prog 63 #[.int .i64 i] w fun e w' => e = .returned (.agg #[.int .u64 (wd (oneP i) 0), .int .u64 (wd (oneP i) 1), .int .u64 (wd (oneP i) 2), .int .u64 (wd (oneP i) 3)]) ∧ Below w.heap.size w w' := by
  rw [one_out (.inl h) (k := 0) (by omega), one_out (.inl h) (k := 1) (by omega), one_out (.inl h) (k := 2) (by omega), one_out (.inl h) (k := 3) (by omega)]
  go_enter Try.func63, Try.ntmps63
  go_wp2
  exact bodyPost_ret (by simp [results, Try.results63, go_sem]) rfl ⟨rfl, ((Below.refl _ _).alloc (Nat.le_refl _) _).alloc (by simp) _⟩
set_option maxHeartbeats 1000000 in
theorem only_high (i : Int) (h : 256 ≤ i) (hu : i ≤ 9223372036854775807) (w : World) :
    Calls Try.prog 63 #[.int .i64 i] w fun e w' => e = .returned (.agg #[.int .u64 (wd (oneP i) 0), .int .u64 (wd (oneP i) 1), .int .u64 (wd (oneP i) 2), .int .u64 (wd (oneP i) 3)]) ∧ Below w.heap.size w w' := by
  have ho : i < 0 ∨ 255 < i := .inr (by omega)
  rw [one_out ho (k := 0) (by omega), one_out ho (k := 1) (by omega), one_out ho (k := 2) (by omega), one_out ho (k := 3) (by omega)]
  have h0 : 0 ≤ i := by omega
  have h1 : 4 ≤ i / 64 := by omega
  clear ho h
  go_enter Try.func63, Try.ntmps63
  go_wp2
  exact bodyPost_ret (by simp [results, Try.results63, go_sem]) rfl ⟨rfl, ((Below.refl _ _).alloc (Nat.le_refl _) _).alloc (by simp) _⟩

theorem only_any (i : Int) (hu : i ≤ 9223372036854775807) (w : World) :
    Calls Try.prog 63 #[.int .i64 i] w fun e w' => e = .returned (.agg #[.int .u64 (wd (oneP i) 0), .int .u64 (wd (oneP i) 1), .int .u64 (wd (oneP i) 2), .int .u64 (wd (oneP i) 3)]) ∧ Below w.heap.size w w' := by
  rcases (show i < 0 ∨ 256 ≤ i ∨ (0 ≤ i ∧ i ≤ 255) by omega) with h | h | ⟨h0, h1⟩
  · exact only_low i h w
  · exact only_high i h hu w
  · obtain ⟨j, hj⟩ : ∃ j : Nat, i % 64 = j := ⟨(i % 64).toNat, by omega⟩
    rcases (show i / 64 = 0 ∨ i / 64 = 1 ∨ i / 64 = 2 ∨ i / 64 = 3 by omega) with g | g | g | g
    · exact only_0 i h0 g j (by omega) hj w
    · exact only_1 i h0 g j (by omega) hj w
    · exact only_2 i h0 g j (by omega) hj w
    · exact only_3 i h0 g j (by omega) hj w

theorem and_nat (a b : Nat) (ha : a < 18446744073709551616) (hb : b < 18446744073709551616) : bits .and .u64 (a : Int) (b : Int) = ((a &&& b : Nat) : Int) := bits_and_u64_nat a b ha hb

end Go.Proofs.Ytflemmmaakhahaa

/-
  The walks over what is in both sets, and in the first one alone.
-/
namespace Go.Proofs.Ytflemmmaakhahaa
open Go.RowKit

theorem or_nat (a b : Nat) (ha : a < 18446744073709551616) (hb : b < 18446744073709551616) : bits .or .u64 (a : Int) (b : Int) = ((a ||| b : Nat) : Int) := bits_or_u64_nat a b ha hb
theorem andnot_nat (a b : Nat) (ha : a < 18446744073709551616) (hb : b < 18446744073709551616) : bits .andNot .u64 (a : Int) (b : Int) = ((a &&& (18446744073709551615 - b) : Nat) : Int) := u64_andNot_nat a b ha hb

theorem w_and (p q : Nat → Bool) (k : Nat) : bits .and .u64 (wd p k : Int) (wd q k : Int) = (wd (andP p q) k : Int) := by rw [and_nat _ _ (wd_lt p k) (wd_lt q k), wd_and]
theorem w_or (p q : Nat → Bool) (k : Nat) : bits .or .u64 (wd p k : Int) (wd q k : Int) = (wd (orP p q) k : Int) := by rw [or_nat _ _ (wd_lt p k) (wd_lt q k), wd_or]
theorem w_minus (p q : Nat → Bool) (k : Nat) : bits .andNot .u64 (wd p k : Int) (wd q k : Int) = (wd (minusP p q) k : Int) := by rw [andnot_nat _ _ (wd_lt p k) (wd_lt q k), wd_minus]

/-- Four words, of which the first k are done. -/
def mix (k : Nat) (r a : Nat → Nat) (j : Nat) : Nat := if j < k then r j else a j

structure Loop4 (w wr : World) (k : Nat) (r a b : Nat → Nat) : Prop where
  x : Four wr w.heap.size (mix k r a 0) (mix k r a 1) (mix k r a 2) (mix k r a 3)
  y : Four wr (w.heap.size + 1) (b 0) (b 1) (b 2) (b 3)
  z : Four wr (w.heap.size + 1 + 1) 0 0 0 0
  below : Below w.heap.size w wr

theorem Four.of_drew {w : World} {b x0 x1 x2 x3 : Nat} (h : Four w b x0 x1 x2 x3) : Four w.drew b x0 x1 x2 x3 := ⟨h.c0, h.c1, h.c2, h.c3, h.f0, h.f1, h.f2, h.f3⟩

set_option maxHeartbeats 2000000 in
theorem minus_any (p q : Nat → Bool) (w : World) :
    Calls Try.prog 69 #[.agg #[.int .u64 (wd p 0), .int .u64 (wd p 1), .int .u64 (wd p 2), .int .u64 (wd p 3)], .agg #[.int .u64 (wd q 0), .int .u64 (wd q 1), .int .u64 (wd q 2), .int .u64 (wd q 3)]] w fun e w' => e = .returned (.agg #[.int .u64 (wd (minusP p q) 0), .int .u64 (wd (minusP p q) 1), .int .u64 (wd (minusP p q) 2), .int .u64 (wd (minusP p q) 3)]) ∧ Below w.heap.size w w' := by
  have e0 := Lib.hid (w_minus p q 0)
  have e1 := Lib.hid (w_minus p q 1)
  have e2 := Lib.hid (w_minus p q 2)
  have e3 := Lib.hid (w_minus p q 3)
  generalize wd (minusP p q) = r at e0 e1 e2 e3 ⊢
  generalize wd p = a at e0 e1 e2 e3 ⊢
  generalize wd q = b at e0 e1 e2 e3 ⊢
  go_enter Try.func69, Try.ntmps69
  go_wp2
  go_loopw [6] (fun i wr => ∃ k : Nat, k ≤ 4 ∧ i = .int .i64 k ∧ Loop4 w wr k r a b) (fun i _ => (4 - intOf i).toNat)
  case atStart =>
    exact ⟨0, by omega, rfl, ⟨((Four.new w _ _ _ _ _).alloc _).alloc _, by simpa using (Four.new (w.alloc _) (b 0) (b 1) (b 2) (b 3) _).alloc _, by simpa using Four.new ((w.alloc _).alloc _) 0 0 0 0 _, (((Below.refl _ _).alloc (Nat.le_refl _) _).alloc (by simp) _).alloc (by simp; omega) _⟩⟩
  case round =>
    obtain ⟨k, hk, rfl, hx, hy, hz, hb⟩ := hrel
    have HY := Lib.hid hy
    have HZ := Lib.hid hz
    have HB := Lib.hid hb
    have HX := Lib.hid hx
    clear hb hz
    rcases (show k = 0 ∨ k = 1 ∨ k = 2 ∨ k = 3 ∨ k = 4 by omega) with rfl | rfl | rfl | rfl | rfl
    rotate_left 4
    · clear HY hy
      simp only [mix, Nat.reduceLT, reduceIte] at hx
      obtain ⟨x0, x1, x2, x3, g0, g1, g2, g3⟩ := hx
      obtain ⟨z0, z1, z2, z3, v0, v1, v2, v3⟩ := HZ.out
      go_wp2
      refine bodyPost_ret (v := .agg #[.int .u64 (r 0), .int .u64 (r 1), .int .u64 (r 2), .int .u64 (r 3)]) ?_ rfl ⟨rfl, below_set4 HB.out (by omega) (r 0) (r 1) (r 2) (r 3)⟩
      obtain ⟨s0, s1, s2, s3, _, _, _, _⟩ := HZ.out.set4 (r 0) (r 1) (r 2) (r 3)
      unfold set4 at s0 s1 s2 s3
      simp [results, Try.results69, go_sem, s0, s1, s2, s3]
    all_goals
      simp only [mix, Nat.lt_irrefl, Nat.reduceLT, Nat.not_lt_zero, reduceIte] at hx
      obtain ⟨x0, x1, x2, x3, g0, g1, g2, g3⟩ := hx
      obtain ⟨y0, y1, y2, y3, _, _, _, _⟩ := hy
    · have e := e0.out
      go_wp2
      go_region
      all_goals
        clear e
        go_wp2
        go_roundw
        case rel => exact ⟨1, by omega, rfl, ⟨(HX.out.set0 (r 0)).of_drew, (HY.out.far (p := ⟨w.heap.size, 0, none⟩) (by simp) _).of_drew, (HZ.out.far (p := ⟨w.heap.size, 0, none⟩) (by simp; omega) _).of_drew, (HB.out.setCell (p := ⟨w.heap.size, 0, none⟩) (Nat.le_refl _) _).drew⟩⟩
        case measure => simp [intOf]
    · have e := e1.out
      go_wp2
      go_region
      all_goals
        clear e
        go_wp2
        go_roundw
        case rel => exact ⟨2, by omega, rfl, ⟨(HX.out.set1 (r 1)).of_drew, (HY.out.far (p := ⟨w.heap.size, 1, none⟩) (by simp) _).of_drew, (HZ.out.far (p := ⟨w.heap.size, 1, none⟩) (by simp; omega) _).of_drew, (HB.out.setCell (p := ⟨w.heap.size, 1, none⟩) (Nat.le_refl _) _).drew⟩⟩
        case measure => simp [intOf]
    · have e := e2.out
      go_wp2
      go_region
      all_goals
        clear e
        go_wp2
        go_roundw
        case rel => exact ⟨3, by omega, rfl, ⟨(HX.out.set2 (r 2)).of_drew, (HY.out.far (p := ⟨w.heap.size, 2, none⟩) (by simp) _).of_drew, (HZ.out.far (p := ⟨w.heap.size, 2, none⟩) (by simp; omega) _).of_drew, (HB.out.setCell (p := ⟨w.heap.size, 2, none⟩) (Nat.le_refl _) _).drew⟩⟩
        case measure => simp [intOf]
    · have e := e3.out
      go_wp2
      go_region
      all_goals
        clear e
        go_wp2
        go_roundw
        case rel => exact ⟨4, by omega, rfl, ⟨(HX.out.set3 (r 3)).of_drew, (HY.out.far (p := ⟨w.heap.size, 3, none⟩) (by simp) _).of_drew, (HZ.out.far (p := ⟨w.heap.size, 3, none⟩) (by simp; omega) _).of_drew, (HB.out.setCell (p := ⟨w.heap.size, 3, none⟩) (Nat.le_refl _) _).drew⟩⟩
        case measure => simp [intOf]

end Go.Proofs.Ytflemmmaakhahaa

/-
  The walks over what is in one of some sets.
-/
namespace Go.Proofs.Ytflemmmaakhahaa
open Go.RowKit

/-- Sets that stand one behind the other. -/
def Sets (w : World) (B : Nat) (a : Option Addr) (l : List (Nat → Bool)) : Prop :=
  l = [] ∨ ∃ b off, a = some ⟨b, off, none⟩ ∧ b < B ∧ ∀ k, k < l.length → w.cell? ⟨b, off + k * 4, none⟩ = some (.int .u64 (wd (l.getD k noneP) 0)) ∧ w.cell? ⟨b, off + k * 4 + 1, none⟩ = some (.int .u64 (wd (l.getD k noneP) 1)) ∧ w.cell? ⟨b, off + k * 4 + 2, none⟩ = some (.int .u64 (wd (l.getD k noneP) 2)) ∧ w.cell? ⟨b, off + k * 4 + 3, none⟩ = some (.int .u64 (wd (l.getD k noneP) 3))

theorem Sets.below {w w' : World} {B : Nat} {a : Option Addr} {l : List (Nat → Bool)} (h : Sets w B a l) (hb : Below B w w') : Sets w' B a l := by
  rcases h with h | ⟨b, off, h1, h2, h3⟩
  · exact .inl h
  · exact .inr ⟨b, off, h1, h2, fun k hk => by rw [hb.cell (p := ⟨b, off + k * 4, none⟩) h2, hb.cell (p := ⟨b, off + k * 4 + 1, none⟩) h2, hb.cell (p := ⟨b, off + k * 4 + 2, none⟩) h2, hb.cell (p := ⟨b, off + k * 4 + 3, none⟩) h2]; exact h3 k hk⟩

/-- All that is in one of the first n. -/
def orN (l : List (Nat → Bool)) : Nat → Nat → Bool
  | 0 => noneP
  | n + 1 => orP (orN l n) (l.getD n noneP)

set_option maxHeartbeats 2000000 in
theorem or_any (l : List (Nat → Bool)) (hl : (l.length : Int) ≤ 1000000) (cap : Nat) (ao : Option Addr) (w : World) (hs : Sets w w.heap.size ao l) :
    Calls Try.prog 57 #[.slice ao l.length cap] w fun e w' => e = .returned (.agg #[.int .u64 (wd (orN l l.length) 0), .int .u64 (wd (orN l l.length) 1), .int .u64 (wd (orN l l.length) 2), .int .u64 (wd (orN l l.length) 3)]) ∧ Below w.heap.size w w' := by
  have HS := Lib.hid hs
  clear hs
  go_enter Try.func57, Try.ntmps57
  go_wp2
  go_loopw [9] (fun i wr => ∃ k : Nat, k ≤ l.length ∧ i = .int .i64 k ∧ Four wr (w.heap.size + 1) (wd (orN l k) 0) (wd (orN l k) 1) (wd (orN l k) 2) (wd (orN l k) 3) ∧ Four wr w.heap.size 0 0 0 0 ∧ Below w.heap.size w wr) (fun i _ => (l.length - intOf i).toNat)
  case atStart =>
    refine ⟨0, by omega, rfl, ?_, ?_, ((Below.refl _ _).alloc (Nat.le_refl _) _).alloc (by simp) _⟩
    · have := Four.new (w.alloc (.cells #[.int .u64 0, .int .u64 0, .int .u64 0, .int .u64 0] 37)) 0 0 0 0 37
      simpa [orN, wd_none] using this
    · exact (Four.new w 0 0 0 0 _).alloc _
  case round =>
    obtain ⟨k, hk, rfl, hx, hz, hb⟩ := hrel
    have HX := Lib.hid hx
    have HZ := Lib.hid hz
    have HB := Lib.hid hb
    clear hx hb
    by_cases hlt : k < l.length
    · obtain ⟨b, off, rfl, hbb, hc⟩ : ∃ b off, ao = some ⟨b, off, none⟩ ∧ b < w.heap.size ∧ ∀ k, k < l.length → wr.cell? ⟨b, off + k * 4, none⟩ = some (.int .u64 (wd (l.getD k noneP) 0)) ∧ wr.cell? ⟨b, off + k * 4 + 1, none⟩ = some (.int .u64 (wd (l.getD k noneP) 1)) ∧ wr.cell? ⟨b, off + k * 4 + 2, none⟩ = some (.int .u64 (wd (l.getD k noneP) 2)) ∧ wr.cell? ⟨b, off + k * 4 + 3, none⟩ = some (.int .u64 (wd (l.getD k noneP) 3)) := by
        rcases HS.out.below HB.out with h | h
        · rw [h] at hlt; exact absurd hlt (Nat.not_lt_zero _)
        · exact h
      obtain ⟨c0, c1, c2, c3⟩ := hc k hlt
      have hsz : w.heap.size + 1 < wr.heap.size := HX.out.lt
      have e0 := Lib.hid (w_or (orN l k) (l.getD k noneP) 0)
      have e1 := Lib.hid (w_or (orN l k) (l.getD k noneP) 1)
      have e2 := Lib.hid (w_or (orN l k) (l.getD k noneP) 2)
      have e3 := Lib.hid (w_or (orN l k) (l.getD k noneP) 3)
      have HR : Hid (wd (orP (orN l k) (l.getD k noneP)) = wd (orN l (k + 1))) := by show _ = _; rfl
      clear hc hz
      generalize wd (orP (orN l k) (l.getD k noneP)) = r at e0 e1 e2 e3 HR
      generalize wd (l.getD k noneP) = q at e0 e1 e2 e3 c0 c1 c2 c3
      generalize wd (orN l k) = a at e0 e1 e2 e3 HX
      go_wp2
      go_loopw [13] (fun i wi => ∃ j : Nat, j ≤ 4 ∧ i = .int .i64 j ∧ Four wi (w.heap.size + 1) (mix j r a 0) (mix j r a 1) (mix j r a 2) (mix j r a 3) ∧ Four wi wr.heap.size (q 0) (q 1) (q 2) (q 3) ∧ Four wi w.heap.size 0 0 0 0 ∧ Below w.heap.size w wi) (fun i _ => (4 - intOf i).toNat)
      case atStart =>
        exact ⟨0, by omega, rfl, HX.out.alloc _, Four.new _ _ _ _ _ _, HZ.out.alloc _, HB.out.alloc HB.out.size _⟩
      case round =>
        obtain ⟨j, hj, rfl, hx, hy, hz, hb⟩ := hrel
        have HX := Lib.hid hx
        have HY := Lib.hid hy
        have HZ := Lib.hid hz
        have HB := Lib.hid hb
        clear hz hb
        rcases (show j = 0 ∨ j = 1 ∨ j = 2 ∨ j = 3 ∨ j = 4 by omega) with rfl | rfl | rfl | rfl | rfl
        rotate_left 4
        · clear HY hy hx
          go_wp2
          go_roundw
          case rel => exact ⟨k + 1, by omega, by go_num, by rw [← HR.out]; exact HX.out, HZ.out, HB.out⟩
          case measure => simp [intOf]; omega
        all_goals
          simp only [mix, Nat.lt_irrefl, Nat.reduceLT, Nat.not_lt_zero, reduceIte] at hx
          obtain ⟨x0, x1, x2, x3, g0, g1, g2, g3⟩ := hx
          obtain ⟨y0, y1, y2, y3, _, _, _, _⟩ := hy
        · have e := e0.out
          go_wp2
          go_region
          all_goals
            clear e
            go_wp2
            go_roundw
            case rel => exact ⟨1, by omega, rfl, (HX.out.set0 (r 0)).of_drew, (HY.out.far (p := ⟨w.heap.size + 1, 0, none⟩) (by simp; omega) _).of_drew, (HZ.out.far (p := ⟨w.heap.size + 1, 0, none⟩) (by simp) _).of_drew, (HB.out.setCell (p := ⟨w.heap.size + 1, 0, none⟩) (by simp) _).drew⟩
            case measure => simp [intOf]
        · have e := e1.out
          go_wp2
          go_region
          all_goals
            clear e
            go_wp2
            go_roundw
            case rel => exact ⟨2, by omega, rfl, (HX.out.set1 (r 1)).of_drew, (HY.out.far (p := ⟨w.heap.size + 1, 1, none⟩) (by simp; omega) _).of_drew, (HZ.out.far (p := ⟨w.heap.size + 1, 1, none⟩) (by simp) _).of_drew, (HB.out.setCell (p := ⟨w.heap.size + 1, 1, none⟩) (by simp) _).drew⟩
            case measure => simp [intOf]
        · have e := e2.out
          go_wp2
          go_region
          all_goals
            clear e
            go_wp2
            go_roundw
            case rel => exact ⟨3, by omega, rfl, (HX.out.set2 (r 2)).of_drew, (HY.out.far (p := ⟨w.heap.size + 1, 2, none⟩) (by simp; omega) _).of_drew, (HZ.out.far (p := ⟨w.heap.size + 1, 2, none⟩) (by simp) _).of_drew, (HB.out.setCell (p := ⟨w.heap.size + 1, 2, none⟩) (by simp) _).drew⟩
            case measure => simp [intOf]
        · have e := e3.out
          go_wp2
          go_region
          all_goals
            clear e
            go_wp2
            go_roundw
            case rel => exact ⟨4, by omega, rfl, (HX.out.set3 (r 3)).of_drew, (HY.out.far (p := ⟨w.heap.size + 1, 3, none⟩) (by simp; omega) _).of_drew, (HZ.out.far (p := ⟨w.heap.size + 1, 3, none⟩) (by simp) _).of_drew, (HB.out.setCell (p := ⟨w.heap.size + 1, 3, none⟩) (by simp) _).drew⟩
            case measure => simp [intOf]
    · obtain rfl : k = l.length := by omega
      obtain ⟨x0, x1, x2, x3, _, _, _, _⟩ := HX.out
      obtain ⟨z0, z1, z2, z3, v0, v1, v2, v3⟩ := hz
      go_wp2
      refine bodyPost_ret (v := .agg #[.int .u64 (wd (orN l l.length) 0), .int .u64 (wd (orN l l.length) 1), .int .u64 (wd (orN l l.length) 2), .int .u64 (wd (orN l l.length) 3)]) ?_ rfl ⟨rfl, below_set4 HB.out (by omega) (wd (orN l l.length) 0) (wd (orN l l.length) 1) (wd (orN l l.length) 2) (wd (orN l l.length) 3)⟩
      obtain ⟨s0, s1, s2, s3, _, _, _, _⟩ := HZ.out.set4 (wd (orN l l.length) 0) (wd (orN l l.length) 1) (wd (orN l l.length) 2) (wd (orN l l.length) 3)
      unfold set4 at s0 s1 s2 s3
      simp [results, Try.results57, go_sem, s0, s1, s2, s3]

end Go.Proofs.Ytflemmmaakhahaa

/-
  Two sets held against each other: word by word.
-/
namespace Go.Proofs.Ytflemmmaakhahaa
open Go Go.RowKit
set_option linter.unusedSimpArgs false

/-- Are four words the same as four others? -/
def eq4 (x0 x1 x2 x3 y0 y1 y2 y3 : Nat) : Bool := x0 == y0 && x1 == y1 && x2 == y2 && x3 == y3
theorem eq4_self (x0 x1 x2 x3 : Nat) : eq4 x0 x1 x2 x3 x0 x1 x2 x3 = true := by simp [eq4]

set_option maxHeartbeats 1000000 in
theorem set_eq_d (d : Nat) (x0 x1 x2 x3 y0 y1 y2 y3 : Nat) (w : World) :
    (Op.equalIn (d + 1 + 1) 37 (.agg #[.int .u64 x0, .int .u64 x1, .int .u64 x2, .int .u64 x3]) (.agg #[.int .u64 y0, .int .u64 y1, .int .u64 y2, .int .u64 y3])).run Try.prog w = .ok (eq4 x0 x1 x2 x3 y0 y1 y2 y3) w := by
  unfold eq4
  have e : ∀ (a b : Nat) (w : World), (Op.equalIn (d + 1) 35 (.int .u64 a) (.int .u64 b)).run Try.prog w = .ok (a == b) w := fun a b w => by
    rw [run_equalIn_int w d 35 .u64 .u64 a b Try.underlying35]
    congr 1
    rw [Bool.eq_iff_iff]; simp; omega
  have hp : ∀ (xs : Array Value) (i : Nat) (w : World) (v : Value), xs[i]? = some v → (part 35 xs i).run Try.prog w = .ok v w := by
    intro xs i w v h
    simp [part, Sem.run_bind, Try.isAgg35, go_sem, h]
  have hs : ∀ w, (sizeOf 35).run Try.prog w = .ok 1 w := fun w => by simp [Try.sizeOf35, go_sem]
  rw [Op.equalIn]
  simp only [Sem.run_bind, run_underlying Try.underlying37, Result.andThen_ok, hs]
  simp only [Std.Legacy.Range.forIn_eq_forIn_range', Std.Legacy.Range.size, List.range']
  have px0 : ∀ w, (part 35 #[.int .u64 x0, .int .u64 x1, .int .u64 x2, .int .u64 x3] (0 * 1)).run Try.prog w = .ok (.int .u64 x0) w := fun w => hp _ _ _ _ rfl
  have px1 : ∀ w, (part 35 #[.int .u64 x0, .int .u64 x1, .int .u64 x2, .int .u64 x3] ((0 + 1) * 1)).run Try.prog w = .ok (.int .u64 x1) w := fun w => hp _ _ _ _ rfl
  have px2 : ∀ w, (part 35 #[.int .u64 x0, .int .u64 x1, .int .u64 x2, .int .u64 x3] ((0 + 1 + 1) * 1)).run Try.prog w = .ok (.int .u64 x2) w := fun w => hp _ _ _ _ rfl
  have px3 : ∀ w, (part 35 #[.int .u64 x0, .int .u64 x1, .int .u64 x2, .int .u64 x3] ((0 + 1 + 1 + 1) * 1)).run Try.prog w = .ok (.int .u64 x3) w := fun w => hp _ _ _ _ rfl
  have py0 : ∀ w, (part 35 #[.int .u64 y0, .int .u64 y1, .int .u64 y2, .int .u64 y3] (0 * 1)).run Try.prog w = .ok (.int .u64 y0) w := fun w => hp _ _ _ _ rfl
  have py1 : ∀ w, (part 35 #[.int .u64 y0, .int .u64 y1, .int .u64 y2, .int .u64 y3] ((0 + 1) * 1)).run Try.prog w = .ok (.int .u64 y1) w := fun w => hp _ _ _ _ rfl
  have py2 : ∀ w, (part 35 #[.int .u64 y0, .int .u64 y1, .int .u64 y2, .int .u64 y3] ((0 + 1 + 1) * 1)).run Try.prog w = .ok (.int .u64 y2) w := fun w => hp _ _ _ _ rfl
  have py3 : ∀ w, (part 35 #[.int .u64 y0, .int .u64 y1, .int .u64 y2, .int .u64 y3] ((0 + 1 + 1 + 1) * 1)).run Try.prog w = .ok (.int .u64 y3) w := fun w => hp _ _ _ _ rfl
  clear hp hs
  simp only [List.forIn_cons, List.forIn_nil, Sem.run_bind, px0, px1, px2, px3, py0, py1, py2, py3, Result.andThen_ok, e]
  cases h0 : x0 == y0 <;> simp only [Bool.not_false, Bool.not_true, Bool.false_eq_true, if_true, if_false, Sem.run_pure, Sem.run_bind, Result.andThen_ok, Bool.true_and, Bool.false_and, Bool.and_true, Bool.and_false, px1, px2, px3, py1, py2, py3, e]
  cases h1 : x1 == y1 <;> simp only [Bool.not_false, Bool.not_true, Bool.false_eq_true, if_true, if_false, Sem.run_pure, Sem.run_bind, Result.andThen_ok, Bool.true_and, Bool.false_and, Bool.and_true, Bool.and_false, px1, px2, px3, py1, py2, py3, e]
  cases h2 : x2 == y2 <;> simp only [Bool.not_false, Bool.not_true, Bool.false_eq_true, if_true, if_false, Sem.run_pure, Sem.run_bind, Result.andThen_ok, Bool.true_and, Bool.false_and, Bool.and_true, Bool.and_false, px1, px2, px3, py1, py2, py3, e]
  cases h3 : x3 == y3 <;> simp only [Bool.not_false, Bool.not_true, Bool.false_eq_true, if_true, if_false, Sem.run_pure, Sem.run_bind, Result.andThen_ok, Bool.true_and, Bool.false_and, Bool.and_true, Bool.and_false, px1, px2, px3, py1, py2, py3, e]

theorem set_eq (x0 x1 x2 x3 y0 y1 y2 y3 : Nat) (w : World) :
    (Op.equalIn 10000 37 (.agg #[.int .u64 x0, .int .u64 x1, .int .u64 x2, .int .u64 x3]) (.agg #[.int .u64 y0, .int .u64 y1, .int .u64 y2, .int .u64 y3])).run Try.prog w = .ok (eq4 x0 x1 x2 x3 y0 y1 y2 y3) w :=
  set_eq_d 9998 x0 x1 x2 x3 y0 y1 y2 y3 w

end Go.Proofs.Ytflemmmaakhahaa

/-
  The walks over one number put in, taken out, looked for.
-/
namespace Go.Proofs.Ytflemmmaakhahaa
open Go.RowKit
attribute [local go_sem] set_eq

theorem orN_two (p q : Nat → Bool) (k : Nat) (hk : k < 4) : wd (orN [p, q] 2) k = wd (orP p q) k := wd_congr (fun i _ => by simp [orN, orP, noneP]) hk

theorem or_two (p q : Nat → Bool) (b : Nat) (w : World) (hb : b < w.heap.size)
    (h0 : w.cell? ⟨b, 0, none⟩ = some (.int .u64 (wd p 0))) (h1 : w.cell? ⟨b, 1, none⟩ = some (.int .u64 (wd p 1))) (h2 : w.cell? ⟨b, 2, none⟩ = some (.int .u64 (wd p 2))) (h3 : w.cell? ⟨b, 3, none⟩ = some (.int .u64 (wd p 3)))
    (h4 : w.cell? ⟨b, 4, none⟩ = some (.int .u64 (wd q 0))) (h5 : w.cell? ⟨b, 5, none⟩ = some (.int .u64 (wd q 1))) (h6 : w.cell? ⟨b, 6, none⟩ = some (.int .u64 (wd q 2))) (h7 : w.cell? ⟨b, 7, none⟩ = some (.int .u64 (wd q 3))) :
    Calls Try.prog 57 #[.slice (some ⟨b, 0, none⟩) 2 2] w fun e w' => e = .returned (.agg #[.int .u64 (wd (orP p q) 0), .int .u64 (wd (orP p q) 1), .int .u64 (wd (orP p q) 2), .int .u64 (wd (orP p q) 3)]) ∧ Below w.heap.size w w' := by
  have h := or_any [p, q] (by simp) 2 (some ⟨b, 0, none⟩) w (.inr ⟨b, 0, rfl, hb, fun k hk => by
    rcases (show k = 0 ∨ k = 1 by simp at hk; omega) with rfl | rfl
    · exact ⟨h0, h1, h2, h3⟩
    · exact ⟨h4, h5, h6, h7⟩⟩)
  rw [show ([p, q] : List (Nat → Bool)).length = 2 from rfl, orN_two p q 0 (by omega), orN_two p q 1 (by omega), orN_two p q 2 (by omega), orN_two p q 3 (by omega)] at h
  exact h

set_option maxHeartbeats 2000000 in
theorem with_any (p : Nat → Bool) (i : Int) (hu : i ≤ 9223372036854775807) (w : World) :
    Calls Try.prog 44 #[.agg #[.int .u64 (wd p 0), .int .u64 (wd p 1), .int .u64 (wd p 2), .int .u64 (wd p 3)], .int .i64 i] w fun e w' => e = .returned (.agg #[.int .u64 (wd (orP p (oneP i)) 0), .int .u64 (wd (orP p (oneP i)) 1), .int .u64 (wd (orP p (oneP i)) 2), .int .u64 (wd (orP p (oneP i)) 3)]) ∧ Below w.heap.size w w' := by
  have O := Lib.hid (fun w => only_any i hu w)
  have C := Lib.hid (fun b w h => or_two p (oneP i) b w h)
  clear hu
  generalize wd (orP p (oneP i)) = r at C ⊢
  generalize wd (oneP i) = o at O C
  generalize wd p = a at C ⊢
  go_enter Try.func44, Try.ntmps44
  go_wp2
  refine gen_world (fun w' => Four w' w.heap.size (a 0) (a 1) (a 2) (a 3) ∧ Four w' (w.heap.size + 1) 0 0 0 0 ∧ Below w.heap.size w w') ⟨(Four.new w _ _ _ _ _).alloc _, by simpa using Four.new (w.alloc _) 0 0 0 0 _, ((Below.refl _ _).alloc (Nat.le_refl _) _).alloc (by simp) _⟩ ?_
  intro W1 ⟨fa, fz, hb⟩
  have FA := Lib.hid fa
  have FZ := Lib.hid fz
  have HB := Lib.hid hb
  obtain ⟨a0, a1, a2, a3, _, _, _, _⟩ := fa
  clear fz hb
  go_region_with (first | (go_at_call 63; (refine (O.out _).mono ?_); rintro e w1 ⟨rfl, hw1⟩; obtain ⟨b0, b1, b2, b3, _, _, _, _⟩ := Four.next hw1 FA.out; have FZ1 := Lib.hid (Four.next hw1 FZ.out); have HB1 := Lib.hid (below_next hw1 HB.out (Nat.le_refl _)); clear hw1) | (go_at_call 57; (refine (C.out _ _ (by simp) (by simp) (by simp) (by simp) (by simp) (by simp) (by simp) (by simp) (by simp)).mono ?_); rintro e w2 ⟨rfl, hw2⟩; have FZ2 := Lib.hid (Four.next hw2 (FZ1.out.alloc _)); have HB2 := Lib.hid (below_next hw2 (HB1.out.alloc HB1.out.size _) (Nat.le_refl _)); obtain ⟨z0, z1, z2, z3, v0, v1, v2, v3⟩ := FZ2.out; clear hw2))
  all_goals
    go_wp2
    refine bodyPost_ret (v := .agg #[.int .u64 (r 0), .int .u64 (r 1), .int .u64 (r 2), .int .u64 (r 3)]) ?_ rfl ⟨rfl, below_set4 HB2.out (by simp) (r 0) (r 1) (r 2) (r 3)⟩
    obtain ⟨s0, s1, s2, s3, _, _, _, _⟩ := FZ2.out.set4 (r 0) (r 1) (r 2) (r 3)
    unfold set4 at s0 s1 s2 s3
    simp [results, Try.results44, go_sem, s0, s1, s2, s3]

set_option maxHeartbeats 2000000 in
theorem without_any (p : Nat → Bool) (i : Int) (hu : i ≤ 9223372036854775807) (w : World) :
    Calls Try.prog 68 #[.agg #[.int .u64 (wd p 0), .int .u64 (wd p 1), .int .u64 (wd p 2), .int .u64 (wd p 3)], .int .i64 i] w fun e w' => e = .returned (.agg #[.int .u64 (wd (minusP p (oneP i)) 0), .int .u64 (wd (minusP p (oneP i)) 1), .int .u64 (wd (minusP p (oneP i)) 2), .int .u64 (wd (minusP p (oneP i)) 3)]) ∧ Below w.heap.size w w' := by
  have O := Lib.hid (fun w => only_any i hu w)
  have C := Lib.hid (fun w => minus_any p (oneP i) w)
  clear hu
  generalize wd (minusP p (oneP i)) = r at C ⊢
  generalize wd (oneP i) = o at O C
  generalize wd p = a at C ⊢
  go_enter Try.func68, Try.ntmps68
  go_wp2
  refine gen_world (fun w' => Four w' w.heap.size (a 0) (a 1) (a 2) (a 3) ∧ Four w' (w.heap.size + 1) 0 0 0 0 ∧ Below w.heap.size w w') ⟨(Four.new w _ _ _ _ _).alloc _, by simpa using Four.new (w.alloc _) 0 0 0 0 _, ((Below.refl _ _).alloc (Nat.le_refl _) _).alloc (by simp) _⟩ ?_
  intro W1 ⟨fa, fz, hb⟩
  have FA := Lib.hid fa
  have FZ := Lib.hid fz
  have HB := Lib.hid hb
  obtain ⟨a0, a1, a2, a3, _, _, _, _⟩ := fa
  clear fz hb
  go_region_with (first | (go_at_call 63; (refine (O.out _).mono ?_); rintro e w1 ⟨rfl, hw1⟩; obtain ⟨b0, b1, b2, b3, _, _, _, _⟩ := Four.next hw1 FA.out; have FZ1 := Lib.hid (Four.next hw1 FZ.out); have HB1 := Lib.hid (below_next hw1 HB.out (Nat.le_refl _)); clear hw1) | (go_at_call 69; (refine (C.out _).mono ?_); rintro e w2 ⟨rfl, hw2⟩; have FZ2 := Lib.hid (Four.next hw2 FZ1.out); have HB2 := Lib.hid (below_next hw2 HB1.out (Nat.le_refl _)); obtain ⟨z0, z1, z2, z3, v0, v1, v2, v3⟩ := FZ2.out; clear hw2))
  all_goals
    go_wp2
    refine bodyPost_ret (v := .agg #[.int .u64 (r 0), .int .u64 (r 1), .int .u64 (r 2), .int .u64 (r 3)]) ?_ rfl ⟨rfl, below_set4 HB2.out (by simp) (r 0) (r 1) (r 2) (r 3)⟩
    obtain ⟨s0, s1, s2, s3, _, _, _, _⟩ := FZ2.out.set4 (r 0) (r 1) (r 2) (r 3)
    unfold set4 at s0 s1 s2 s3
    simp [results, Try.results68, go_sem, s0, s1, s2, s3]

/-- What is looked for: the words with and without it. -/
theorem has_no {p : Nat → Bool} {i : Int} (h : hasP p i = false) {k : Nat} (hk : k < 4) : wd (minusP p (oneP i)) k = wd p k :=
  wd_congr (fun x hx => by
    unfold minusP oneP
    by_cases e : (x : Int) = i
    · subst e
      have : p x = false := by simpa [hasP, show (x : Int) ≤ 255 by omega] using h
      simp [this]
    · simp [e]) hk
theorem has_yes {p : Nat → Bool} {i : Int} (h : hasP p i = true) : ∃ k j : Nat, k < 4 ∧ j < 64 ∧ i = ((64 * k + j : Nat) : Int) ∧ wd p k = wd (minusP p (oneP i)) k + 2 ^ j ∧ ∀ k', k' ≠ k → wd (minusP p (oneP i)) k' = wd p k' := by
  unfold hasP at h
  rw [Bool.and_eq_true, decide_eq_true_eq] at h
  obtain ⟨⟨h0, h1⟩, h2⟩ := h
  have e : i = ((64 * (i.toNat / 64) + i.toNat % 64 : Nat) : Int) := by omega
  refine ⟨i.toNat / 64, i.toNat % 64, by omega, Nat.mod_lt _ (by omega), e, ?_, fun k' hk => wd_minus_far fun j hj => by omega⟩
  have h3 : p (64 * (i.toNat / 64) + i.toNat % 64) = true := by rw [show 64 * (i.toNat / 64) + i.toNat % 64 = i.toNat by omega]; exact h2
  have := wd_del (p := p) (k := i.toNat / 64) (j := i.toNat % 64) (Nat.mod_lt _ (by omega)) h3
  rw [← e] at this
  exact this

set_option maxHeartbeats 2000000 in
theorem has_core (x0 x1 x2 x3 y0 y1 y2 y3 : Nat) (i : Int) (w : World)
    (C : Hid (∀ w, Calls Try.prog 68 #[.agg #[.int .u64 x0, .int .u64 x1, .int .u64 x2, .int .u64 x3], .int .i64 i] w fun e w' => e = .returned (.agg #[.int .u64 y0, .int .u64 y1, .int .u64 y2, .int .u64 y3]) ∧ Below w.heap.size w w'))
    (same : Bool) (hsame : eq4 x0 x1 x2 x3 y0 y1 y2 y3 = same) :
    Calls Try.prog 61 #[.agg #[.int .u64 x0, .int .u64 x1, .int .u64 x2, .int .u64 x3], .int .i64 i] w fun e w' => e = .returned (.bool (!same)) ∧ Below w.heap.size w w' := by
  go_enter Try.func61, Try.ntmps61
  go_wp2
  refine gen_world (fun w' => Four w' w.heap.size x0 x1 x2 x3 ∧ Below w.heap.size w w') ⟨Four.new w _ _ _ _ _, (Below.refl _ _).alloc (Nat.le_refl _) _⟩ ?_
  intro W1 ⟨fa, hb⟩
  have FA := Lib.hid fa
  have HB := Lib.hid hb
  obtain ⟨a0, a1, a2, a3, _, _, _, _⟩ := fa
  clear hb
  go_region_with (go_at_call 68; (refine (C.out _).mono ?_); rintro e w1 ⟨rfl, hw1⟩; obtain ⟨b0, b1, b2, b3, _, _, _, _⟩ := Four.next hw1 FA.out; have HB1 := Lib.hid (below_next hw1 HB.out (Nat.le_refl _)); clear hw1)
  all_goals
    go_wp2
    go_ret
    exact ⟨rfl, HB1.out⟩

theorem has_any (p : Nat → Bool) (i : Int) (hu : i ≤ 9223372036854775807) (w : World) :
    Calls Try.prog 61 #[.agg #[.int .u64 (wd p 0), .int .u64 (wd p 1), .int .u64 (wd p 2), .int .u64 (wd p 3)], .int .i64 i] w fun e w' => e = .returned (.bool (hasP p i)) ∧ Below w.heap.size w w' := by
  have C := Lib.hid (fun w => without_any p i hu w)
  cases h : hasP p i with
  | false =>
    have e := @has_no p i h
    exact has_core _ _ _ _ _ _ _ _ i w C true (by rw [e (k := 0) (by omega), e (k := 1) (by omega), e (k := 2) (by omega), e (k := 3) (by omega)]; exact eq4_self ..)
  | true =>
    obtain ⟨k, j, hk, hj, _, hne, _⟩ := has_yes h
    have hp : 0 < 2 ^ j := Nat.two_pow_pos j
    refine has_core _ _ _ _ _ _ _ _ i w C false ?_
    have hd : ∀ k', k' = k → (wd p k' == wd (minusP p (oneP i)) k') = false := fun k' e => by subst e; rw [beq_eq_false_iff_ne]; omega
    unfold eq4
    rcases (show k = 0 ∨ k = 1 ∨ k = 2 ∨ k = 3 by omega) with e | e | e | e
    · rw [hd 0 e.symm]; simp
    · rw [hd 1 e.symm]; simp
    · rw [hd 2 e.symm]; simp
    · rw [hd 3 e.symm]; simp

end Go.Proofs.Ytflemmmaakhahaa
