/-
  What rows of numbers, tasks and rows of tasks hold, in a world and in later ones.
-/
import Derived.Test.YtknjldmpcokgfaaChecked
import Derived.WalkKit
import Derived.WalkSpells
import Derived.WalkLawsBesides
import Derived.Lib.Hide
import Derived.Lib.SmallJoins
import Derived.Below
import Derived.IntWalk
import Derived.WalkMore
import Derived.Deep.QuietTactic
import Derived.Deep.RegionLaw
import Derived.BigQuiet
import Derived.BigRegion
import Derived.RegionTactic
import Derived.Maps.AppendAt
import Derived.Deep.AppendSrc
import Derived.Deep.DeepCutAuto
import Derived.Deep.LoopGhost
import Derived.Deep.CutRange
import Derived.Deep.CutBlock
import Derived.Deep.Cut
import Derived.Tactics2
import Derived.OwnWalk
import Derived.Maps.OwnSet
import Derived.Laws.EntriesVeiled
import Derived.Deep.RegionWith
import Derived.Deep.RegionHeld3
import Derived.StillTailTactics
namespace Go.Proofs.Ytknjldmpcokgfaa
open Go.RowKit Go.Maps

theorem block_of_cell {w : World} {a : Addr} {v : Value} (h : w.cell? a = some v) : a.block < w.heap.size := by
  rcases Nat.lt_or_ge a.block w.heap.size with g | g
  · exact g
  · simp [World.cell?, Array.getElem?_eq_none g] at h
theorem lt_of_block {w : World} {b : Nat} {o : Obj} (h : w.heap[b]? = some o) : b < w.heap.size := (Array.getElem?_eq_some_iff.1 h).1
theorem addr_at (g o t : Nat) : (⟨g, o, none⟩ : Addr).add t = ⟨g, o + t, none⟩ := by
  unfold Addr.add; split <;> simp_all
theorem kept_cell {w w' : World} (hb : Below w.heap.size w w') {b o : Nat} {v : Value} (h : w.cell? ⟨b, o, none⟩ = some v) : w'.cell? ⟨b, o, none⟩ = some v := by
  rw [hb.cell (p := ⟨b, o, none⟩) (block_of_cell h)]; exact h
theorem kept_obj {w w' : World} (hb : Below w.heap.size w w') {b : Nat} {o : Obj} (h : w.heap[b]? = some o) : w'.heap[b]? = some o := (hb.block b (lt_of_block h)).trans h
/-- The walk goes on in a world of which only so much is known. -/
theorem gen_world {P : Program} {c : Code} {Q : Exit → Act → World → Prop} {a : Act} {w : World} (S : World → Prop) (h : S w) (k : ∀ w', S w' → c.wp P Q a w') : c.wp P Q a w := k w h
theorem blk_set {w : World} {b o : Nat} {cs : Array Value} {T : TypeId} {fr : Nat × Nat} (h : w.heap[b]? = some (.cells cs T fr)) (v : Value) : (w.setCell ⟨b, o, none⟩ v).heap[b]? = some (.cells (cs.setIfInBounds o v) T fr) := by
  simp [World.setCell, Array.getElem?_modify, h]
theorem blk_far {w : World} {b : Nat} {a : Addr} (hne : b ≠ a.block) (v : Value) : (w.setCell a v).heap[b]? = w.heap[b]? := Below.heap_setCell w a v b hne
theorem blk_cell {w : World} {b : Nat} {cs : Array Value} {T : TypeId} {fr : Nat × Nat} (h : w.heap[b]? = some (.cells cs T fr)) (o : Nat) : w.cell? ⟨b, o, none⟩ = cs[o]? := cell_of_row w b o cs T fr h
theorem blk_free {w : World} {b : Nat} {cs : Array Value} {T : TypeId} (h : w.heap[b]? = some (.cells cs T (0, 0))) (o : Nat) : w.frozen? ⟨b, o, none⟩ = false := by
  simp [World.frozen?, h]
theorem below_same {B : Nat} {W w w' : World} (h : Below B W w) (e : w'.heap = w.heap) (e1 : w'.os = w.os) (e2 : w'.tape = w.tape) (e3 : w'.output = w.output) : Below B W w' :=
  ⟨e1.trans h.os, e2.trans h.tape, e3.trans h.output, by rw [e]; exact h.size, fun k hk => by rw [e]; exact h.block k hk⟩
theorem below_up {W w w' : World} (h : Below W.heap.size W w) (k : Below w.heap.size w w') : Below W.heap.size W w' := h.trans (k.mono h.size)

/-! ### rows of numbers -/
/-- A row of numbers that can be read. -/
def Ints (w : World) (a : Option Addr) (l : List Int) : Prop :=
  l = [] ∨ ∃ g o, a = some ⟨g, o, none⟩ ∧ ∀ (j : Nat) (u : Int), l[j]? = some u → w.cell? ⟨g, o + j, none⟩ = some (.int .i64 u)
theorem Ints.nil {w : World} {a : Option Addr} : Ints w a [] := .inl rfl
theorem Ints.at_ {w : World} {a : Option Addr} {l : List Int} (h : Ints w a l) {k : Nat} {x : Int} (hx : l[k]? = some x) : ∃ g o, a = some ⟨g, o, none⟩ ∧ w.cell? ⟨g, o + k, none⟩ = some (.int .i64 x) := by
  rcases h with rfl | ⟨g, o, rfl, hc⟩
  · simp at hx
  · exact ⟨g, o, rfl, hc _ _ hx⟩
theorem Ints.below {w w' : World} {a : Option Addr} {l : List Int} (h : Ints w a l) (hb : Below w.heap.size w w') : Ints w' a l := by
  rcases h with rfl | ⟨g, o, rfl, hc⟩
  · exact .inl rfl
  · exact .inr ⟨g, o, rfl, fun j u hj => kept_cell hb (hc j u hj)⟩
theorem Ints.take {w : World} {a : Option Addr} {l : List Int} (h : Ints w a l) (k : Nat) : Ints w a (l.take k) := by
  rcases h with rfl | ⟨g, o, rfl, hc⟩
  · left; simp
  · refine .inr ⟨g, o, rfl, fun j u hj => ?_⟩
    rw [List.getElem?_take] at hj
    split at hj
    · exact hc j u hj
    · cases hj
theorem Ints.nothing {w : World} {l : List Int} (h : Ints w none l) : l = [] := by
  rcases h with rfl | ⟨g, o, e, _⟩
  · rfl
  · cases e
theorem Ints.of_block {w : World} {g : Nat} {l : List Int} {cs : Array Value} {T : TypeId} {fr : Nat × Nat} (h : w.heap[g]? = some (.cells cs T fr)) (hl : ∀ (j : Nat) (u : Int), l[j]? = some u → cs[j]? = some (.int .i64 u)) : Ints w (some ⟨g, 0, none⟩) l :=
  .inr ⟨g, 0, rfl, fun j u hj => by rw [Nat.zero_add, blk_cell h]; exact hl j u hj⟩
def I64 (x : Int) : Prop := -9223372036854775808 ≤ x ∧ x ≤ 9223372036854775807
theorem i64_of_wf {x : Int} (h : (Lit.int .i64 x).wf = true) : I64 x := by
  simp [Lit.wf, IntKind.min, IntKind.max, IntKind.signed, IntKind.bits] at h
  unfold I64; omega

/-! ### tasks -/
/-- A task as it stands in memory: its numbers, and its two rows. -/
structure TV where
  id : Int
  c : Int
  d : Int
  t : Int
  p : Int
  a1 : Option Addr
  ch : List Int
  c1 : Nat
  a2 : Option Addr
  us : List Int
  c2 : Nat
/-- A task as it is meant. -/
structure Tk where
  id : Int
  c : Int
  d : Int
  t : Int
  p : Int
  ch : List Int
  us : List Int
deriving DecidableEq
def TV.tk (x : TV) : Tk := ⟨x.id, x.c, x.d, x.t, x.p, x.ch, x.us⟩
def TV.cells (x : TV) : List Value := [.int .i64 x.id, .int .i64 x.c, .int .i64 x.d, .int .i64 x.t, .int .i64 x.p, .slice x.a1 x.ch.length x.c1, .slice x.a2 x.us.length x.c2]
def TV.val (x : TV) : Value := .agg #[.int .i64 x.id, .int .i64 x.c, .int .i64 x.d, .int .i64 x.t, .int .i64 x.p, .slice x.a1 x.ch.length x.c1, .slice x.a2 x.us.length x.c2]
/-- Its rows can be read. -/
structure TV.ok (w : World) (x : TV) : Prop where
  one : Ints w x.a1 x.ch
  two : Ints w x.a2 x.us
  l1 : x.ch.length ≤ x.c1
  m1 : (x.c1 : Int) ≤ 9223372036854775807
  l2 : x.us.length ≤ x.c2
  m2 : (x.c2 : Int) ≤ 9223372036854775807
theorem TV.ok.below {w w' : World} {x : TV} (h : x.ok w) (hb : Below w.heap.size w w') : x.ok w' := ⟨h.one.below hb, h.two.below hb, h.l1, h.m1, h.l2, h.m2⟩
def AllOk (w : World) (L : List TV) : Prop := ∀ x ∈ L, x.ok w
theorem AllOk.below {w w' : World} {L : List TV} (h : AllOk w L) (hb : Below w.heap.size w w') : AllOk w' L := fun x hx => (h x hx).below hb
theorem AllOk.at_ {w : World} {L : List TV} (h : AllOk w L) {k : Nat} {x : TV} (hx : L[k]? = some x) : x.ok w := h x (List.mem_of_getElem? hx)
theorem AllOk.append {w : World} {L M : List TV} (h : AllOk w L) (k : AllOk w M) : AllOk w (L ++ M) := fun x hx => (List.mem_append.1 hx).elim (h x) (k x)
theorem AllOk.one {w : World} {x : TV} (h : x.ok w) : AllOk w [x] := fun y hy => by simp at hy; subst hy; exact h
theorem AllOk.take {w : World} {L : List TV} (h : AllOk w L) (k : Nat) : AllOk w (L.take k) := fun x hx => h x (List.mem_of_mem_take hx)

/-- The cells of a row of tasks. -/
def flat : List TV → List Value
  | [] => []
  | x :: l => x.cells ++ flat l
theorem cells_len (x : TV) : x.cells.length = 7 := rfl
theorem flat_len : ∀ l : List TV, (flat l).length = l.length * 7
  | [] => rfl
  | x :: l => by simp [flat, flat_len l, cells_len]; omega
theorem flat_append : ∀ l m : List TV, flat (l ++ m) = flat l ++ flat m
  | [], _ => rfl
  | x :: l, m => by simp [flat, flat_append l m]
theorem flat_at : ∀ (l : List TV) (k : Nat) (x : TV), l[k]? = some x → ∀ i, i < 7 → (flat l)[k * 7 + i]? = x.cells[i]?
  | [], k, x, h => by simp at h
  | y :: l, 0, x, h => by
    simp at h; subst h
    intro i hi
    rw [Nat.zero_mul, Nat.zero_add, flat, List.getElem?_append_left (by rw [cells_len]; exact hi)]
  | y :: l, k + 1, x, h => by
    intro i hi
    have := flat_at l k x (by simpa using h) i hi
    rw [show (k + 1) * 7 + i = 7 + (k * 7 + i) by omega, flat, List.getElem?_append_right (by rw [cells_len]; omega), cells_len, ← this]
    congr 1; omega
theorem flat_one : ∀ (l : List TV), ∀ u ∈ flat l, u.oneCell' = true
  | [], u, h => by simp [flat] at h
  | x :: l, u, h => by
    rcases List.mem_append.1 h with h | h
    · simp [TV.cells] at h
      rcases h with rfl | rfl | rfl | rfl | rfl | rfl | rfl <;> rfl
    · exact flat_one l u h
theorem flat_drop : ∀ (k : Nat) (l : List TV), flat (l.drop k) = (flat l).drop (k * 7)
  | 0, l => by simp
  | k + 1, [] => by simp [flat]
  | k + 1, x :: l => by
    rw [List.drop_succ_cons, flat_drop k l, flat, List.drop_append, show (k + 1) * 7 = 7 + k * 7 by omega]
    simp [cells_len]
theorem flat_take : ∀ (k : Nat) (l : List TV), flat (l.take k) = (flat l).take (k * 7)
  | 0, l => by simp [flat]
  | k + 1, [] => by simp [flat]
  | k + 1, x :: l => by
    rw [List.take_succ_cons, flat, flat, flat_take k l, List.take_append, show (k + 1) * 7 = 7 + k * 7 by omega]
    simp [cells_len]
    rw [List.take_of_length_le (by rw [cells_len]; omega)]

/-- The cells of one task, from a place on. -/
structure At (w : World) (g o : Nat) (x : TV) : Prop where
  c0 : w.cell? ⟨g, o, none⟩ = some (.int .i64 x.id)
  c1 : w.cell? ⟨g, o + 1, none⟩ = some (.int .i64 x.c)
  c2 : w.cell? ⟨g, o + 2, none⟩ = some (.int .i64 x.d)
  c3 : w.cell? ⟨g, o + 3, none⟩ = some (.int .i64 x.t)
  c4 : w.cell? ⟨g, o + 4, none⟩ = some (.int .i64 x.p)
  c5 : w.cell? ⟨g, o + 5, none⟩ = some (.slice x.a1 x.ch.length x.c1)
  c6 : w.cell? ⟨g, o + 6, none⟩ = some (.slice x.a2 x.us.length x.c2)
theorem At.below {w w' : World} {g o : Nat} {x : TV} (h : At w g o x) (hb : Below w.heap.size w w') : At w' g o x :=
  ⟨kept_cell hb h.c0, kept_cell hb h.c1, kept_cell hb h.c2, kept_cell hb h.c3, kept_cell hb h.c4, kept_cell hb h.c5, kept_cell hb h.c6⟩
/-- A row of tasks that can be read. -/
def View (w : World) (a : Option Addr) (l : List TV) : Prop :=
  l = [] ∨ ∃ g o, a = some ⟨g, o, none⟩ ∧ ∀ j u, (flat l)[j]? = some u → w.cell? ⟨g, o + j, none⟩ = some u
theorem View.nil {w : World} {a : Option Addr} : View w a [] := .inl rfl
theorem View.at_ {w : World} {a : Option Addr} {l : List TV} (h : View w a l) {k : Nat} {x : TV} (hx : l[k]? = some x) : ∃ g o, a = some ⟨g, o, none⟩ ∧ At w g (o + k * 7) x := by
  rcases h with rfl | ⟨g, o, rfl, hc⟩
  · simp at hx
  · have f := flat_at l k x hx
    refine ⟨g, o, rfl, ⟨?_, ?_, ?_, ?_, ?_, ?_, ?_⟩⟩
    · exact hc _ _ (f 0 (by omega))
    · exact hc _ _ (f 1 (by omega))
    · exact hc _ _ (f 2 (by omega))
    · exact hc _ _ (f 3 (by omega))
    · exact hc _ _ (f 4 (by omega))
    · exact hc _ _ (f 5 (by omega))
    · exact hc _ _ (f 6 (by omega))
theorem View.below {w w' : World} {a : Option Addr} {l : List TV} (h : View w a l) (hb : Below w.heap.size w w') : View w' a l := by
  rcases h with rfl | ⟨g, o, rfl, hc⟩
  · exact .inl rfl
  · exact .inr ⟨g, o, rfl, fun j u hj => kept_cell hb (hc j u hj)⟩
theorem View.drop {w : World} {g o : Nat} {l : List TV} (h : View w (some ⟨g, o, none⟩) l) (k : Nat) : View w (some ⟨g, o + k * 7, none⟩) (l.drop k) := by
  rcases h with rfl | ⟨g', o', e, hc⟩
  · left; simp
  · cases e
    refine .inr ⟨_, _, rfl, fun j u hj => ?_⟩
    rw [flat_drop, List.getElem?_drop] at hj
    rw [Nat.add_assoc]
    exact hc _ u hj
theorem View.take {w : World} {a : Option Addr} {l : List TV} (h : View w a l) (k : Nat) : View w a (l.take k) := by
  rcases h with rfl | ⟨g, o, rfl, hc⟩
  · left; simp
  · refine .inr ⟨g, o, rfl, fun j u hj => ?_⟩
    rw [flat_take, List.getElem?_take] at hj
    split at hj
    · exact hc j u hj
    · cases hj
theorem View.of_at {w : World} {g o : Nat} {x : TV} (h : At w g o x) : View w (some ⟨g, o, none⟩) [x] := by
  refine .inr ⟨g, o, rfl, fun j u hj => ?_⟩
  simp only [flat, List.append_nil, TV.cells] at hj
  match j, hj with
  | 0, hj => simp at hj; subst hj; exact h.c0
  | 1, hj => simp at hj; subst hj; exact h.c1
  | 2, hj => simp at hj; subst hj; exact h.c2
  | 3, hj => simp at hj; subst hj; exact h.c3
  | 4, hj => simp at hj; subst hj; exact h.c4
  | 5, hj => simp at hj; subst hj; exact h.c5
  | 6, hj => simp at hj; subst hj; exact h.c6
  | j + 7, hj => simp at hj
/-- A slice of tasks that can be read, with all that they hold. -/
structure Tasks (w : World) (a : Option Addr) (n cap : Nat) (L : List TV) : Prop where
  len : L.length = n
  view : View w a L
  ok : AllOk w L
  le : n ≤ cap
  small : (cap : Int) ≤ 9223372036854775807
theorem Tasks.below {w w' : World} {a : Option Addr} {n cap : Nat} {L : List TV} (h : Tasks w a n cap L) (hb : Below w.heap.size w w') : Tasks w' a n cap L := ⟨h.len, h.view.below hb, h.ok.below hb, h.le, h.small⟩
theorem nth_of {α : Type} {l : List α} {i m : Nat} (h : l.length = m) (hi : i < m) : ∃ x, l[i]? = some x := ⟨l[i]'(by rw [h]; exact hi), by simp [h, hi]⟩

/-! ### rows of one's own -/
abbrev TT : TypeId := 25
def OwnT (w : World) (B : Nat) (v : Value) (l : List TV) : Prop := w.ownsRow B TT 7 v l.length (flat l)
theorem OwnT.nil (w : World) (B : Nat) : OwnT w B (.slice none 0 0) [] := World.ownsRow_nil _ _ _ _
theorem OwnT.made (w : World) : OwnT (w.alloc (.cells #[] TT)) w.heap.size (.slice (some ⟨w.heap.size, 0, none⟩) 0 0) [] :=
  World.ownsRow_made (w := w) #[] 0 (Nat.le_refl _) (by decide) rfl
theorem OwnT.low {w : World} {B B' : Nat} {v : Value} {l : List TV} (h : OwnT w B v l) (hB : B' ≤ B) : OwnT w B' v l := by
  rcases h with ⟨h0, h | ⟨g, cap, cur, rfl, hb, r⟩⟩
  · exact ⟨h0, .inl h⟩
  · exact ⟨h0, .inr ⟨g, cap, cur, rfl, by omega, r⟩⟩
theorem OwnT.slice {w : World} {B : Nat} {v : Value} {l : List TV} (h : OwnT w B v l) : ∃ a cap, v = .slice a l.length cap ∧ View w a l ∧ l.length ≤ cap ∧ (cap : Int) ≤ 9223372036854775807 := by
  rcases h.2 with ⟨rfl, h0⟩ | ⟨g, cap, cur, rfl, _, h3, h1, h2, h4, h5⟩
  · exact ⟨none, 0, by rw [h0], .inl (List.length_eq_zero_iff.1 h0), by omega, by omega⟩
  · refine ⟨_, cap, rfl, .inr ⟨g, 0, rfl, fun j u hj => ?_⟩, h1, by unfold maxLen at h2; omega⟩
    rw [Nat.zero_add, blk_cell h3]
    rw [← h5] at hj
    rw [List.getElem?_take] at hj
    split at hj
    · simpa using hj
    · cases hj
theorem OwnT.tasks {w : World} {B : Nat} {a : Option Addr} {n cap : Nat} {l : List TV} (h : OwnT w B (.slice a n cap) l) (hok : AllOk w l) : Tasks w a n cap l := by
  obtain ⟨a', cap', e, hv, hl, hm⟩ := h.slice
  cases e
  exact ⟨rfl, hv, hok, hl, hm⟩
theorem OwnT.new {w : World} {B : Nat} {v : Value} {l : List TV} (h : OwnT w B v l) {k : Nat} (hk : v.ownBlock = some k) : B ≤ k ∧ k < w.heap.size := World.ownsRow.lt h k hk
theorem OwnT.below {w w' : World} {B : Nat} {v : Value} {l : List TV} (h : OwnT w B v l) (hb : Below w.heap.size w w') : OwnT w' B v l := by
  rcases h with ⟨h0, h | ⟨g, cap, cur, rfl, hB, h3, r⟩⟩
  · exact ⟨h0, .inl h⟩
  · exact ⟨h0, .inr ⟨g, cap, cur, rfl, hB, kept_obj hb h3, r⟩⟩
theorem OwnT.none_len {w : World} {B n c : Nat} {l : List TV} (h : OwnT w B (.slice none n c) l) : n = 0 := by
  rcases h.2 with ⟨h1, h0⟩ | ⟨g, cap, cur, h1, _⟩
  · cases h1; rfl
  · cases h1

theorem infoTask : (Try.prog.info? TT).map (fun i => (i.zero, i.size, i.bytes)) = some (some (.agg #[.int .i64 0, .int .i64 0, .int .i64 0, .int .i64 0, .int .i64 0, .slice none 0 0, .slice none 0 0]), 7, 88) := by kernel_rfl
theorem zeroTask (w : World) : (zeroValue TT).run Try.prog w = .ok (.agg #[.int .i64 0, .int .i64 0, .int .i64 0, .int .i64 0, .int .i64 0, .slice none 0 0, .slice none 0 0]) w := by kernel_rfl
theorem infoParts : ∃ i, Try.prog.info? TT = some i ∧ i.zero = some (.agg #[.int .i64 0, .int .i64 0, .int .i64 0, .int .i64 0, .int .i64 0, .slice none 0 0, .slice none 0 0]) ∧ i.size = 7 ∧ i.bytes = 88 := by
  obtain ⟨i, h1, h2⟩ := Option.map_eq_some_iff.1 infoTask
  simp only [Prod.mk.injEq] at h2
  exact ⟨i, h1, h2.1, h2.2.1, h2.2.2⟩

/-- A row that was appended to: what it holds, where it lies. -/
theorem append_view {w : World} {B m c : Nat} {v : Value} {q l : List TV} {ad : Option Addr} (h : OwnT w B v q) (hB : B ≤ w.heap.size) (hv : View w ad l) (hl : l.length = m) (hs : q.length + m ≤ 1000000) (hn : ad = none → m = 0) (ty : TypeId) :
    ∃ v' w', (Builtin.append_ #[26, 26] ty #[v, .slice ad m c]).run Try.prog w = .ok v' w' ∧ OwnT w' B v' (q ++ l) ∧ w.grownBy w' v.ownBlock ∧ ∀ k, v'.ownBlock = some k → v.ownBlock = some k ∨ w.heap.size ≤ k := by
  obtain ⟨i0, hi, hz0, hz1, hz2⟩ := infoParts
  cases ad with
  | none =>
    obtain rfl := hn rfl
    obtain rfl : l = [] := List.length_eq_zero_iff.1 hl
    refine ⟨v, w, ?_, by rw [List.append_nil]; exact h, ⟨rfl, rfl, rfl, Nat.le_refl _, fun _ _ _ => rfl⟩, fun k hk => .inl hk⟩
    rcases h.2 with ⟨rfl, h0⟩ | ⟨g, cap, cur, rfl, _, h3, h1, h2, h4, h5⟩
    · have hs := Src.ofNil (w := w) (size := i0.size) Try.underlying26 c
      simp [Builtin.append_, run_underlying Try.underlying26, sizeOf, typeInfo, hi, hs.len, hs.cells]
    · have := run_append_room_src (P := Try.prog) (w := w) 26 26 ty TT i0 Try.underlying26 hi g 0 q.length cap (.slice none 0 c) 0 [] (Src.ofNil w Try.underlying26 c) (by omega) (fun j hj => absurd hj (Nat.not_lt_zero _)) (fun j hj => absurd hj (Nat.not_lt_zero _))
      simpa [World.setCells] using this
  | some x =>
    have hnews : ∀ j u, (flat l)[j]? = some u → w.cell? (x.add j) = some u := by
      intro j u hj
      rcases hv with rfl | ⟨g, o, e, hc⟩
      · simp [flat] at hj
      · cases e
        rw [addr_at]; exact hc j u hj
    obtain ⟨v', w', h1, h2, h3, _, h5⟩ := run_append_own_at (P := Try.prog) w B 26 ty TT i0 _ 7 88 Try.underlying26 hi hz0 hz1 hz2 rfl (by decide) v q.length (flat q) h x m c (flat l) (by rw [flat_len, hl]) hnews (flat_one l) (by unfold maxLen; omega) (by omega) hB
    refine ⟨v', w', h1, ?_, h3, fun k hk => ?_⟩
    · unfold OwnT
      rw [List.length_append, flat_append, hl]
      exact h2
    · rcases h5 with z | z
      · left; rw [← z]; exact hk
      · right; rw [z] at hk; cases hk; exact Nat.le_refl _

theorem step_append {w : World} {ops : Array Oper} {o : Oper} {a : Act} {K : Act → World → Prop} {Q : Exit → Act → World → Prop} {E : Prop} (hgd : o.guard = none) (s x : Operand)
    (ho : o.op = .call { callee := .builtin .append, args := #[s, x], argTypes := #[26, 26] }) {B m c : Nat} {v : Value} {q l : List TV} {ad : Option Addr} (hs : a.eval s = v) (hx : a.eval x = .slice ad m c)
    (hown : OwnT w B v q) (hB : B ≤ w.heap.size) (hv : View w ad l) (hl : l.length = m) (hsm : q.length + m ≤ 1000000) (hn : ad = none → m = 0) (N : Nat) (hN : q.length + m = N)
    (h : ∀ a' cp' w', OwnT w' B (.slice a' N cp') (q ++ l) → w.grownBy w' v.ownBlock → (∀ k, (Value.slice a' N cp').ownBlock = some k → v.ownBlock = some k ∨ w.heap.size ≤ k) → K (a.put o.dst (.slice a' N cp')) w') :
    if Region.wanted o (yielded ops a.tmps) = true then Oper.wp Try.prog o a w K Q else E := by
  have hw : Region.wanted o (yielded ops a.tmps) = true := by simp [Region.wanted, hgd]
  rw [if_pos hw]
  obtain ⟨v', w', hr, h2, h3, h4⟩ := append_view (c := c) hown hB hv hl hsm hn o.type
  obtain ⟨a', cp', hv', _⟩ := h2.slice
  rw [List.length_append, hl, hN] at hv'
  subst hv'
  unfold Oper.wp execOp
  simp only [ho, resolve, invoke, builtin, Sem.run_bind, Sem.run_pure, Result.andThen_ok, List.map_toArray, List.map_cons, List.map_nil, hs, hx, hr]
  exact h a' cp' w' h2 h3 h4
theorem wp_append {ops : Array Oper} {rest : List Oper} {o : Oper} {a : Act} {Q : Exit → Act → World → Prop} {w : World} (hgd : o.guard = none) (s x : Operand)
    (ho : o.op = .call { callee := .builtin .append, args := #[s, x], argTypes := #[26, 26] }) {B m c : Nat} {v : Value} {q l : List TV} {ad : Option Addr} (hs : a.eval s = v) (hx : a.eval x = .slice ad m c)
    (hown : OwnT w B v q) (hB : B ≤ w.heap.size) (hv : View w ad l) (hl : l.length = m) (hsm : q.length + m ≤ 1000000) (hn : ad = none → m = 0) (N : Nat) (hN : q.length + m = N)
    (h : ∀ a' cp' w', OwnT w' B (.slice a' N cp') (q ++ l) → w.grownBy w' v.ownBlock → (∀ k, (Value.slice a' N cp').ownBlock = some k → v.ownBlock = some k ∨ w.heap.size ≤ k) → wpList Try.prog ops Q rest (a.put o.dst (.slice a' N cp')) w') : wpList Try.prog ops Q (o :: rest) a w :=
  wpList_step fun _ hK => step_append hgd s x ho hs hx hown hB hv hl hsm hn N hN (fun a' cp' w' o' g' l' => hK _ _ (h a' cp' w' o' g' l'))

/-! ### rows of numbers of one's own -/
def vi (l : List Int) : List Value := l.map (Value.int .i64)
theorem vi_one (l : List Int) : ∀ u ∈ vi l, u.oneCell' = true := by
  intro u hu
  obtain ⟨_, _, rfl⟩ := List.mem_map.1 hu
  rfl
theorem vi_at {l : List Int} {j : Nat} {u : Int} (h : l[j]? = some u) : (vi l)[j]? = some (.int .i64 u) := by simp [vi, h]
def OwnI (w : World) (e : TypeId) (B : Nat) (v : Value) (l : List Int) : Prop := w.ownsRow B e 1 v l.length (vi l)
theorem OwnI.nil (w : World) (e : TypeId) (B : Nat) : OwnI w e B (.slice none 0 0) [] := World.ownsRow_nil _ _ _ _
theorem OwnI.made (w : World) (e : TypeId) : OwnI (w.alloc (.cells #[] e)) e w.heap.size (.slice (some ⟨w.heap.size, 0, none⟩) 0 0) [] :=
  World.ownsRow_made (w := w) #[] 0 (Nat.le_refl _) (by decide) rfl
theorem OwnI.slice {w : World} {e : TypeId} {B : Nat} {v : Value} {l : List Int} (h : OwnI w e B v l) : ∃ a cap, v = .slice a l.length cap ∧ Ints w a l ∧ l.length ≤ cap ∧ (cap : Int) ≤ 9223372036854775807 := by
  rcases h.2 with ⟨rfl, h0⟩ | ⟨g, cap, cur, rfl, _, h3, h1, h2, h4, h5⟩
  · exact ⟨none, 0, by rw [h0], .inl (List.length_eq_zero_iff.1 h0), by omega, by omega⟩
  · refine ⟨_, cap, rfl, .inr ⟨g, 0, rfl, fun j u hj => ?_⟩, h1, by unfold maxLen at h2; omega⟩
    rw [Nat.zero_add, blk_cell h3]
    have := vi_at hj
    rw [← h5, List.getElem?_take] at this
    split at this
    · simpa using this
    · cases this
theorem OwnI.new {w : World} {e : TypeId} {B : Nat} {v : Value} {l : List Int} (h : OwnI w e B v l) {k : Nat} (hk : v.ownBlock = some k) : B ≤ k ∧ k < w.heap.size := World.ownsRow.lt h k hk
theorem OwnI.below {w w' : World} {e : TypeId} {B : Nat} {v : Value} {l : List Int} (h : OwnI w e B v l) (hb : Below w.heap.size w w') : OwnI w' e B v l := by
  rcases h with ⟨h0, h | ⟨g, cap, cur, rfl, hB, h3, r⟩⟩
  · exact ⟨h0, .inl h⟩
  · exact ⟨h0, .inr ⟨g, cap, cur, rfl, hB, kept_obj hb h3, r⟩⟩
theorem OwnI.low {w : World} {e : TypeId} {B B' : Nat} {v : Value} {l : List Int} (h : OwnI w e B v l) (hB : B' ≤ B) : OwnI w e B' v l := by
  rcases h with ⟨h0, h | ⟨g, cap, cur, rfl, hb, r⟩⟩
  · exact ⟨h0, .inl h⟩
  · exact ⟨h0, .inr ⟨g, cap, cur, rfl, by omega, r⟩⟩

/-- A slice type of numbers. -/
structure IsNum (t e : TypeId) : Prop where
  und : Try.prog.underlying t = some (.slice e)
  info : ∃ i, Try.prog.info? e = some i ∧ i.zero = some (.int .i64 0) ∧ i.size = 1 ∧ i.bytes = 8
theorem num_of {t e : TypeId} (h : Try.prog.underlying t = some (.slice e)) (h2 : (Try.prog.info? e).map (fun i => (i.zero, i.size, i.bytes)) = some (some (.int .i64 0), 1, 8)) : IsNum t e := by
  obtain ⟨i, h1, h2⟩ := Option.map_eq_some_iff.1 h2
  simp only [Prod.mk.injEq] at h2
  exact ⟨h, i, h1, h2.1, h2.2.1, h2.2.2⟩
theorem numL : IsNum 22 2 := num_of Try.underlying22 (by kernel_rfl)
theorem numI : IsNum 23 3 := num_of Try.underlying23 (by kernel_rfl)

theorem append_ints {w : World} {t e : TypeId} (ht : IsNum t e) {B m c : Nat} {v : Value} {q l : List Int} {ad : Option Addr} (h : OwnI w e B v q) (hB : B ≤ w.heap.size) (hv : Ints w ad l) (hl : l.length = m) (hs : (q.length + m : Int) ≤ 17592186044416) (hn : ad = none → m = 0) (ty : TypeId) :
    ∃ v' w', (Builtin.append_ #[t, t] ty #[v, .slice ad m c]).run Try.prog w = .ok v' w' ∧ OwnI w' e B v' (q ++ l) ∧ w.grownBy w' v.ownBlock ∧ ∀ k, v'.ownBlock = some k → v.ownBlock = some k ∨ w.heap.size ≤ k := by
  obtain ⟨i0, hi, hz0, hz1, hz2⟩ := ht.info
  cases ad with
  | none =>
    obtain rfl := hn rfl
    obtain rfl : l = [] := List.length_eq_zero_iff.1 hl
    refine ⟨v, w, ?_, by rw [List.append_nil]; exact h, ⟨rfl, rfl, rfl, Nat.le_refl _, fun _ _ _ => rfl⟩, fun k hk => .inl hk⟩
    rcases h.2 with ⟨rfl, h0⟩ | ⟨g, cap, cur, rfl, _, h3, h1, h2, h4, h5⟩
    · have hs := Src.ofNil (w := w) (size := i0.size) ht.und c
      simp [Builtin.append_, run_underlying ht.und, sizeOf, typeInfo, hi, hs.len, hs.cells]
    · have := run_append_room_src (P := Try.prog) (w := w) t t ty e i0 ht.und hi g 0 q.length cap (.slice none 0 c) 0 [] (Src.ofNil w ht.und c) (by omega) (fun j hj => absurd hj (Nat.not_lt_zero _)) (fun j hj => absurd hj (Nat.not_lt_zero _))
      simpa [World.setCells] using this
  | some x =>
    have hnews : ∀ j u, (vi l)[j]? = some u → w.cell? (x.add j) = some u := by
      intro j u hj
      rcases hv with rfl | ⟨g, o, e, hc⟩
      · simp [vi] at hj
      · cases e
        simp only [vi, List.getElem?_map, Option.map_eq_some_iff] at hj
        obtain ⟨y, hy, rfl⟩ := hj
        rw [addr_at]; exact hc j y hy
    obtain ⟨v', w', h1, h2, h3, _, h5⟩ := run_append_own_at (P := Try.prog) w B t ty e i0 _ 1 8 ht.und hi hz0 hz1 hz2 rfl (by decide) v q.length (vi q) h x m c (vi l) (by simp [vi, hl]) hnews (vi_one l) (by unfold maxLen; omega) (by omega) hB
    refine ⟨v', w', h1, ?_, h3, fun k hk => ?_⟩
    · unfold OwnI
      rw [List.length_append, hl]
      unfold vi at h2 ⊢
      rw [List.map_append]
      exact h2
    · rcases h5 with z | z
      · left; rw [← z]; exact hk
      · right; rw [z] at hk; cases hk; exact Nat.le_refl _

theorem step_ints {w : World} {t e : TypeId} (ht : IsNum t e) {ops : Array Oper} {o : Oper} {a : Act} {K : Act → World → Prop} {Q : Exit → Act → World → Prop} {E : Prop} (hgd : o.guard = none) (s x : Operand)
    (ho : o.op = .call { callee := .builtin .append, args := #[s, x], argTypes := #[t, t] }) {B m c : Nat} {v : Value} {q l : List Int} {ad : Option Addr} (hs : a.eval s = v) (hx : a.eval x = .slice ad m c)
    (hown : OwnI w e B v q) (hB : B ≤ w.heap.size) (hv : Ints w ad l) (hl : l.length = m) (hsm : (q.length + m : Int) ≤ 17592186044416) (hn : ad = none → m = 0) (N : Nat) (hN : q.length + m = N)
    (h : ∀ a' cp' w', OwnI w' e B (.slice a' N cp') (q ++ l) → w.grownBy w' v.ownBlock → (∀ k, (Value.slice a' N cp').ownBlock = some k → v.ownBlock = some k ∨ w.heap.size ≤ k) → K (a.put o.dst (.slice a' N cp')) w') :
    if Region.wanted o (yielded ops a.tmps) = true then Oper.wp Try.prog o a w K Q else E := by
  have hw : Region.wanted o (yielded ops a.tmps) = true := by simp [Region.wanted, hgd]
  rw [if_pos hw]
  obtain ⟨v', w', hr, h2, h3, h4⟩ := append_ints ht (c := c) hown hB hv hl hsm hn o.type
  obtain ⟨a', cp', hv', _⟩ := h2.slice
  rw [List.length_append, hl, hN] at hv'
  subst hv'
  unfold Oper.wp execOp
  simp only [ho, resolve, invoke, builtin, Sem.run_bind, Sem.run_pure, Result.andThen_ok, List.map_toArray, List.map_cons, List.map_nil, hs, hx, hr]
  exact h a' cp' w' h2 h3 h4
theorem wp_ints {t e : TypeId} (ht : IsNum t e) {ops : Array Oper} {rest : List Oper} {o : Oper} {a : Act} {Q : Exit → Act → World → Prop} {w : World} (hgd : o.guard = none) (s x : Operand)
    (ho : o.op = .call { callee := .builtin .append, args := #[s, x], argTypes := #[t, t] }) {B m c : Nat} {v : Value} {q l : List Int} {ad : Option Addr} (hs : a.eval s = v) (hx : a.eval x = .slice ad m c)
    (hown : OwnI w e B v q) (hB : B ≤ w.heap.size) (hv : Ints w ad l) (hl : l.length = m) (hsm : (q.length + m : Int) ≤ 17592186044416) (hn : ad = none → m = 0) (N : Nat) (hN : q.length + m = N)
    (h : ∀ a' cp' w', OwnI w' e B (.slice a' N cp') (q ++ l) → w.grownBy w' v.ownBlock → (∀ k, (Value.slice a' N cp').ownBlock = some k → v.ownBlock = some k ∨ w.heap.size ≤ k) → wpList Try.prog ops Q rest (a.put o.dst (.slice a' N cp')) w') : wpList Try.prog ops Q (o :: rest) a w :=
  wpList_step fun _ hK => step_ints ht hgd s x ho hs hx hown hB hv hl hsm hn N hN (fun a' cp' w' o' g' l' => hK _ _ (h a' cp' w' o' g' l'))
theorem ints_new (w : World) (x : Int) (T : TypeId) : Ints (w.alloc (.cells #[.int .i64 x] T)) (some ⟨w.heap.size, 0, none⟩) [x] :=
  .inr ⟨_, 0, rfl, fun j u hj => by
    match j, hj with
    | 0, hj => simp at hj; subst hj; rw [World.cell?_alloc_new]; rfl
    | j + 1, hj => simp at hj⟩
theorem at_new (w : World) (x : TV) (T : TypeId) : At (w.alloc (.cells #[.int .i64 x.id, .int .i64 x.c, .int .i64 x.d, .int .i64 x.t, .int .i64 x.p, .slice x.a1 x.ch.length x.c1, .slice x.a2 x.us.length x.c2] T)) w.heap.size 0 x :=
  ⟨by rw [World.cell?_alloc_new]; rfl, by rw [World.cell?_alloc_new]; rfl, by rw [World.cell?_alloc_new]; rfl, by rw [World.cell?_alloc_new]; rfl, by rw [World.cell?_alloc_new]; rfl, by rw [World.cell?_alloc_new]; rfl, by rw [World.cell?_alloc_new]; rfl⟩
end Go.Proofs.Ytknjldmpcokgfaa
