/- Texts of this claim, put together: Open, KMem, GDef, GMem, Num, Ref1, GKit, GR1, GMade. -/
import Derived.Test.YtpmllljlhopgbaaRows
import Derived.Test.YtpmllljlhopgbaaChecked
import Derived.WalkKit
import Derived.ProofKit
import Derived.OpenShut
import Derived.WalkSpells
import Derived.WalkLawsBesides
import Derived.Lib.Hide
import Derived.Lib.SmallJoins
import Derived.Below
import Derived.IntWalk
import Derived.WalkMore
import Derived.Deep.QuietTactic
import Derived.Deep.RegionLaw
import Derived.BigQuiet
import Derived.BigRegion
import Derived.RegionTactic
import Derived.Maps.AppendAt
import Derived.Deep.AppendSrc
import Derived.Deep.DeepCutAuto
import Derived.Deep.LoopGhost
import Derived.Deep.CutRange
import Derived.Deep.CutBlock
import Derived.Deep.Cut
import Derived.Tactics2
import Derived.OwnWalk
import Derived.Maps.OwnSet
import Derived.Laws.EntriesVeiled
import Derived.Deep.RegionWith
import Derived.Deep.RegionHeld3
import Derived.StillTailTactics
import Derived.Laws.MakeOwn
import Derived.Deep.RegionHeld
set_option linter.unusedVariables false
set_option linter.unusedSimpArgs false

/-
  Arguments opened: arrays of integers by value.
-/
namespace Go.Proofs.Ytpmllljlhopgbaa
open Go.ChangeShapes Go.WideShapes Go.ChangeAt Go.RowKit

section
variable {H : Type} {enc : TypeId × Value → H} {P : Program} {W : World} {base : Nat} {spare : Nat → Bool} {held : Bool}

theorem open_intarr {k : IntKind} {n : Nat} {t e : TypeId} {r : Reach} {b0 : Nat} {v : Value} {d : DataW H} {p : List MemPlace} (ht : P.underlying t = some (.array n e)) (he : P.underlying e = some (.int k)) (h1 : P.cellsOf e = 1) (hn : P.cellsOf t = n)
    (hv : Value.okWide P W r b0 t v) (h : DataW.Trod enc P W base spare held t v d p) :
    ∃ zs : List Int, v = .agg (zs.map (Value.int k)).toArray ∧ zs.length = n ∧ ∀ x ∈ zs, (Lit.int k x).wf = true := by
  simp only [Value.okWide, ht] at hv
  obtain ⟨cs, rfl, hsz, _⟩ := hv
  obtain ⟨fuel, hf⟩ := h
  obtain ⟨ys, m, _, _, hlen, hyl, hall⟩ := DataW.trod_array ht hf
  rw [h1] at hall
  have hcs : cs.size = n := by rw [hsz, hn]
  have each : ∀ i (hi : i < cs.size), ∃ a, cs[i] = .int k a ∧ (Lit.int k a).wf = true := by
    intro i hi
    have h2 := hall i (by omega)
    rw [List.getElem?_eq_getElem (by omega)] at h2
    obtain ⟨a, ha, _, hw⟩ := DataW.trod_int he h2
    refine ⟨a, ?_, hw⟩
    simp only [Value.cells, Nat.mul_one] at ha
    rw [List.drop_eq_getElem_cons (by simpa using hi)] at ha
    simp at ha
    exact ha
  refine ⟨cs.toList.map intOf, ?_, by simp [hcs], ?_⟩
  · congr 1
    apply Array.ext
    · simp
    · intro i hi _
      obtain ⟨a, ha, _⟩ := each i hi
      simp [ha, intOf]
  · intro x hx
    obtain ⟨y, hy, rfl⟩ := List.mem_map.1 hx
    obtain ⟨i, hi, rfl⟩ := List.getElem_of_mem hy
    obtain ⟨a, ha, hw⟩ := each i (by simpa using hi)
    simp [ha, intOf, hw]
end

end Go.Proofs.Ytpmllljlhopgbaa

/-
  What rows of numbers, tasks and rows of tasks hold, in a world and in later ones.
-/
namespace Go.Proofs.Ytpmllljlhopgbaa
open Go.RowKit Go.Maps

theorem block_of_cell {w : World} {a : Addr} {v : Value} (h : w.cell? a = some v) : a.block < w.heap.size := by
  rcases Nat.lt_or_ge a.block w.heap.size with g | g
  · exact g
  · simp [World.cell?, Array.getElem?_eq_none g] at h
theorem lt_of_block {w : World} {b : Nat} {o : Obj} (h : w.heap[b]? = some o) : b < w.heap.size := (Array.getElem?_eq_some_iff.1 h).1
theorem addr_at (g o t : Nat) : (⟨g, o, none⟩ : Addr).add t = ⟨g, o + t, none⟩ := by
  unfold Addr.add; split <;> simp_all
theorem kept_cell {w w' : World} (hb : Below w.heap.size w w') {b o : Nat} {v : Value} (h : w.cell? ⟨b, o, none⟩ = some v) : w'.cell? ⟨b, o, none⟩ = some v := by
  rw [hb.cell (p := ⟨b, o, none⟩) (block_of_cell h)]; exact h
theorem kept_obj {w w' : World} (hb : Below w.heap.size w w') {b : Nat} {o : Obj} (h : w.heap[b]? = some o) : w'.heap[b]? = some o := (hb.block b (lt_of_block h)).trans h
/-- The walk goes on in a world of which only so much is known. -/
theorem gen_world {P : Program} {c : Code} {Q : Exit → Act → World → Prop} {a : Act} {w : World} (S : World → Prop) (h : S w) (k : ∀ w', S w' → c.wp P Q a w') : c.wp P Q a w := k w h
theorem blk_set {w : World} {b o : Nat} {cs : Array Value} {T : TypeId} {fr : Nat × Nat} (h : w.heap[b]? = some (.cells cs T fr)) (v : Value) : (w.setCell ⟨b, o, none⟩ v).heap[b]? = some (.cells (cs.setIfInBounds o v) T fr) := by
  simp [World.setCell, Array.getElem?_modify, h]
theorem blk_far {w : World} {b : Nat} {a : Addr} (hne : b ≠ a.block) (v : Value) : (w.setCell a v).heap[b]? = w.heap[b]? := Below.heap_setCell w a v b hne
theorem blk_cell {w : World} {b : Nat} {cs : Array Value} {T : TypeId} {fr : Nat × Nat} (h : w.heap[b]? = some (.cells cs T fr)) (o : Nat) : w.cell? ⟨b, o, none⟩ = cs[o]? := cell_of_row w b o cs T fr h
theorem blk_free {w : World} {b : Nat} {cs : Array Value} {T : TypeId} (h : w.heap[b]? = some (.cells cs T (0, 0))) (o : Nat) : w.frozen? ⟨b, o, none⟩ = false := by
  simp [World.frozen?, h]
theorem below_same {B : Nat} {W w w' : World} (h : Below B W w) (e : w'.heap = w.heap) (e1 : w'.os = w.os) (e2 : w'.tape = w.tape) (e3 : w'.output = w.output) : Below B W w' :=
  ⟨e1.trans h.os, e2.trans h.tape, e3.trans h.output, by rw [e]; exact h.size, fun k hk => by rw [e]; exact h.block k hk⟩
theorem below_up {W w w' : World} (h : Below W.heap.size W w) (k : Below w.heap.size w w') : Below W.heap.size W w' := h.trans (k.mono h.size)

/-! ### rows of numbers -/
/-- A row of numbers that can be read. -/
def Ints (w : World) (a : Option Addr) (l : List Int) : Prop :=
  l = [] ∨ ∃ g o, a = some ⟨g, o, none⟩ ∧ ∀ (j : Nat) (u : Int), l[j]? = some u → w.cell? ⟨g, o + j, none⟩ = some (.int .i64 u)
theorem Ints.nil {w : World} {a : Option Addr} : Ints w a [] := .inl rfl
theorem Ints.at_ {w : World} {a : Option Addr} {l : List Int} (h : Ints w a l) {k : Nat} {x : Int} (hx : l[k]? = some x) : ∃ g o, a = some ⟨g, o, none⟩ ∧ w.cell? ⟨g, o + k, none⟩ = some (.int .i64 x) := by
  rcases h with rfl | ⟨g, o, rfl, hc⟩
  · simp at hx
  · exact ⟨g, o, rfl, hc _ _ hx⟩
theorem Ints.below {w w' : World} {a : Option Addr} {l : List Int} (h : Ints w a l) (hb : Below w.heap.size w w') : Ints w' a l := by
  rcases h with rfl | ⟨g, o, rfl, hc⟩
  · exact .inl rfl
  · exact .inr ⟨g, o, rfl, fun j u hj => kept_cell hb (hc j u hj)⟩
theorem Ints.take {w : World} {a : Option Addr} {l : List Int} (h : Ints w a l) (k : Nat) : Ints w a (l.take k) := by
  rcases h with rfl | ⟨g, o, rfl, hc⟩
  · left; simp
  · refine .inr ⟨g, o, rfl, fun j u hj => ?_⟩
    rw [List.getElem?_take] at hj
    split at hj
    · exact hc j u hj
    · cases hj
theorem Ints.nothing {w : World} {l : List Int} (h : Ints w none l) : l = [] := by
  rcases h with rfl | ⟨g, o, e, _⟩
  · rfl
  · cases e
theorem Ints.of_block {w : World} {g : Nat} {l : List Int} {cs : Array Value} {T : TypeId} {fr : Nat × Nat} (h : w.heap[g]? = some (.cells cs T fr)) (hl : ∀ (j : Nat) (u : Int), l[j]? = some u → cs[j]? = some (.int .i64 u)) : Ints w (some ⟨g, 0, none⟩) l :=
  .inr ⟨g, 0, rfl, fun j u hj => by rw [Nat.zero_add, blk_cell h]; exact hl j u hj⟩
def I64 (x : Int) : Prop := -9223372036854775808 ≤ x ∧ x ≤ 9223372036854775807
theorem i64_of_wf {x : Int} (h : (Lit.int .i64 x).wf = true) : I64 x := by
  simp [Lit.wf, IntKind.min, IntKind.max, IntKind.signed, IntKind.bits] at h
  unfold I64; omega

/-! ### tasks -/
/-- A task as it stands in memory: its numbers, and its two rows. -/
structure TV where
  id : Int
  c : Int
  d : Int
  t : Int
  p : Int
  a1 : Option Addr
  ch : List Int
  c1 : Nat
  a2 : Option Addr
  us : List Int
  c2 : Nat
/-- A task as it is meant. -/
structure Tk where
  id : Int
  c : Int
  d : Int
  t : Int
  p : Int
  ch : List Int
  us : List Int
deriving DecidableEq
def TV.tk (x : TV) : Tk := ⟨x.id, x.c, x.d, x.t, x.p, x.ch, x.us⟩
def TV.cells (x : TV) : List Value := [.int .i64 x.id, .int .i64 x.c, .int .i64 x.d, .int .i64 x.t, .int .i64 x.p, .slice x.a1 x.ch.length x.c1, .slice x.a2 x.us.length x.c2]
def TV.val (x : TV) : Value := .agg #[.int .i64 x.id, .int .i64 x.c, .int .i64 x.d, .int .i64 x.t, .int .i64 x.p, .slice x.a1 x.ch.length x.c1, .slice x.a2 x.us.length x.c2]
/-- Its rows can be read. -/
structure TV.ok (w : World) (x : TV) : Prop where
  one : Ints w x.a1 x.ch
  two : Ints w x.a2 x.us
  l1 : x.ch.length ≤ x.c1
  m1 : (x.c1 : Int) ≤ 9223372036854775807
  l2 : x.us.length ≤ x.c2
  m2 : (x.c2 : Int) ≤ 9223372036854775807
theorem TV.ok.below {w w' : World} {x : TV} (h : x.ok w) (hb : Below w.heap.size w w') : x.ok w' := ⟨h.one.below hb, h.two.below hb, h.l1, h.m1, h.l2, h.m2⟩
def AllOk (w : World) (L : List TV) : Prop := ∀ x ∈ L, x.ok w
theorem AllOk.below {w w' : World} {L : List TV} (h : AllOk w L) (hb : Below w.heap.size w w') : AllOk w' L := fun x hx => (h x hx).below hb
theorem AllOk.at_ {w : World} {L : List TV} (h : AllOk w L) {k : Nat} {x : TV} (hx : L[k]? = some x) : x.ok w := h x (List.mem_of_getElem? hx)
theorem AllOk.append {w : World} {L M : List TV} (h : AllOk w L) (k : AllOk w M) : AllOk w (L ++ M) := fun x hx => (List.mem_append.1 hx).elim (h x) (k x)
theorem AllOk.one {w : World} {x : TV} (h : x.ok w) : AllOk w [x] := fun y hy => by simp at hy; subst hy; exact h
theorem AllOk.take {w : World} {L : List TV} (h : AllOk w L) (k : Nat) : AllOk w (L.take k) := fun x hx => h x (List.mem_of_mem_take hx)

/-- The cells of a row of tasks. -/
def flat : List TV → List Value
  | [] => []
  | x :: l => x.cells ++ flat l
theorem cells_len (x : TV) : x.cells.length = 7 := rfl
theorem flat_len : ∀ l : List TV, (flat l).length = l.length * 7
  | [] => rfl
  | x :: l => by simp [flat, flat_len l, cells_len]; omega
theorem flat_append : ∀ l m : List TV, flat (l ++ m) = flat l ++ flat m
  | [], _ => rfl
  | x :: l, m => by simp [flat, flat_append l m]
theorem flat_at : ∀ (l : List TV) (k : Nat) (x : TV), l[k]? = some x → ∀ i, i < 7 → (flat l)[k * 7 + i]? = x.cells[i]?
  | [], k, x, h => by simp at h
  | y :: l, 0, x, h => by
    simp at h; subst h
    intro i hi
    rw [Nat.zero_mul, Nat.zero_add, flat, List.getElem?_append_left (by rw [cells_len]; exact hi)]
  | y :: l, k + 1, x, h => by
    intro i hi
    have := flat_at l k x (by simpa using h) i hi
    rw [show (k + 1) * 7 + i = 7 + (k * 7 + i) by omega, flat, List.getElem?_append_right (by rw [cells_len]; omega), cells_len, ← this]
    congr 1; omega
theorem flat_one : ∀ (l : List TV), ∀ u ∈ flat l, u.oneCell' = true
  | [], u, h => by simp [flat] at h
  | x :: l, u, h => by
    rcases List.mem_append.1 h with h | h
    · simp [TV.cells] at h
      rcases h with rfl | rfl | rfl | rfl | rfl | rfl | rfl <;> rfl
    · exact flat_one l u h
theorem flat_drop : ∀ (k : Nat) (l : List TV), flat (l.drop k) = (flat l).drop (k * 7)
  | 0, l => by simp
  | k + 1, [] => by simp [flat]
  | k + 1, x :: l => by
    rw [List.drop_succ_cons, flat_drop k l, flat, List.drop_append, show (k + 1) * 7 = 7 + k * 7 by omega]
    simp [cells_len]
theorem flat_take : ∀ (k : Nat) (l : List TV), flat (l.take k) = (flat l).take (k * 7)
  | 0, l => by simp [flat]
  | k + 1, [] => by simp [flat]
  | k + 1, x :: l => by
    rw [List.take_succ_cons, flat, flat, flat_take k l, List.take_append, show (k + 1) * 7 = 7 + k * 7 by omega]
    simp [cells_len]
    rw [List.take_of_length_le (by rw [cells_len]; omega)]

/-- The cells of one task, from a place on. -/
structure At (w : World) (g o : Nat) (x : TV) : Prop where
  c0 : w.cell? ⟨g, o, none⟩ = some (.int .i64 x.id)
  c1 : w.cell? ⟨g, o + 1, none⟩ = some (.int .i64 x.c)
  c2 : w.cell? ⟨g, o + 2, none⟩ = some (.int .i64 x.d)
  c3 : w.cell? ⟨g, o + 3, none⟩ = some (.int .i64 x.t)
  c4 : w.cell? ⟨g, o + 4, none⟩ = some (.int .i64 x.p)
  c5 : w.cell? ⟨g, o + 5, none⟩ = some (.slice x.a1 x.ch.length x.c1)
  c6 : w.cell? ⟨g, o + 6, none⟩ = some (.slice x.a2 x.us.length x.c2)
theorem At.below {w w' : World} {g o : Nat} {x : TV} (h : At w g o x) (hb : Below w.heap.size w w') : At w' g o x :=
  ⟨kept_cell hb h.c0, kept_cell hb h.c1, kept_cell hb h.c2, kept_cell hb h.c3, kept_cell hb h.c4, kept_cell hb h.c5, kept_cell hb h.c6⟩
/-- A row of tasks that can be read. -/
def View (w : World) (a : Option Addr) (l : List TV) : Prop :=
  l = [] ∨ ∃ g o, a = some ⟨g, o, none⟩ ∧ ∀ j u, (flat l)[j]? = some u → w.cell? ⟨g, o + j, none⟩ = some u
theorem View.nil {w : World} {a : Option Addr} : View w a [] := .inl rfl
theorem View.at_ {w : World} {a : Option Addr} {l : List TV} (h : View w a l) {k : Nat} {x : TV} (hx : l[k]? = some x) : ∃ g o, a = some ⟨g, o, none⟩ ∧ At w g (o + k * 7) x := by
  rcases h with rfl | ⟨g, o, rfl, hc⟩
  · simp at hx
  · have f := flat_at l k x hx
    refine ⟨g, o, rfl, ⟨?_, ?_, ?_, ?_, ?_, ?_, ?_⟩⟩
    · exact hc _ _ (f 0 (by omega))
    · exact hc _ _ (f 1 (by omega))
    · exact hc _ _ (f 2 (by omega))
    · exact hc _ _ (f 3 (by omega))
    · exact hc _ _ (f 4 (by omega))
    · exact hc _ _ (f 5 (by omega))
    · exact hc _ _ (f 6 (by omega))
theorem View.below {w w' : World} {a : Option Addr} {l : List TV} (h : View w a l) (hb : Below w.heap.size w w') : View w' a l := by
  rcases h with rfl | ⟨g, o, rfl, hc⟩
  · exact .inl rfl
  · exact .inr ⟨g, o, rfl, fun j u hj => kept_cell hb (hc j u hj)⟩
theorem View.drop {w : World} {g o : Nat} {l : List TV} (h : View w (some ⟨g, o, none⟩) l) (k : Nat) : View w (some ⟨g, o + k * 7, none⟩) (l.drop k) := by
  rcases h with rfl | ⟨g', o', e, hc⟩
  · left; simp
  · cases e
    refine .inr ⟨_, _, rfl, fun j u hj => ?_⟩
    rw [flat_drop, List.getElem?_drop] at hj
    rw [Nat.add_assoc]
    exact hc _ u hj
theorem View.take {w : World} {a : Option Addr} {l : List TV} (h : View w a l) (k : Nat) : View w a (l.take k) := by
  rcases h with rfl | ⟨g, o, rfl, hc⟩
  · left; simp
  · refine .inr ⟨g, o, rfl, fun j u hj => ?_⟩
    rw [flat_take, List.getElem?_take] at hj
    split at hj
    · exact hc j u hj
    · cases hj
theorem View.of_at {w : World} {g o : Nat} {x : TV} (h : At w g o x) : View w (some ⟨g, o, none⟩) [x] := by
  refine .inr ⟨g, o, rfl, fun j u hj => ?_⟩
  simp only [flat, List.append_nil, TV.cells] at hj
  match j, hj with
  | 0, hj => simp at hj; subst hj; exact h.c0
  | 1, hj => simp at hj; subst hj; exact h.c1
  | 2, hj => simp at hj; subst hj; exact h.c2
  | 3, hj => simp at hj; subst hj; exact h.c3
  | 4, hj => simp at hj; subst hj; exact h.c4
  | 5, hj => simp at hj; subst hj; exact h.c5
  | 6, hj => simp at hj; subst hj; exact h.c6
  | j + 7, hj => simp at hj
/-- A slice of tasks that can be read, with all that they hold. -/
structure Tasks (w : World) (a : Option Addr) (n cap : Nat) (L : List TV) : Prop where
  len : L.length = n
  view : View w a L
  ok : AllOk w L
  le : n ≤ cap
  small : (cap : Int) ≤ 9223372036854775807
theorem Tasks.below {w w' : World} {a : Option Addr} {n cap : Nat} {L : List TV} (h : Tasks w a n cap L) (hb : Below w.heap.size w w') : Tasks w' a n cap L := ⟨h.len, h.view.below hb, h.ok.below hb, h.le, h.small⟩
theorem nth_of {α : Type} {l : List α} {i m : Nat} (h : l.length = m) (hi : i < m) : ∃ x, l[i]? = some x := ⟨l[i]'(by rw [h]; exact hi), by simp [h, hi]⟩

/-! ### rows of one's own -/
def vi (l : List Int) : List Value := l.map (Value.int .i64)
theorem vi_one (l : List Int) : ∀ u ∈ vi l, u.oneCell' = true := by
  intro u hu
  obtain ⟨_, _, rfl⟩ := List.mem_map.1 hu
  rfl
theorem vi_at {l : List Int} {j : Nat} {u : Int} (h : l[j]? = some u) : (vi l)[j]? = some (.int .i64 u) := by simp [vi, h]
def OwnI (w : World) (e : TypeId) (B : Nat) (v : Value) (l : List Int) : Prop := w.ownsRow B e 1 v l.length (vi l)
theorem OwnI.nil (w : World) (e : TypeId) (B : Nat) : OwnI w e B (.slice none 0 0) [] := World.ownsRow_nil _ _ _ _
theorem OwnI.made (w : World) (e : TypeId) : OwnI (w.alloc (.cells #[] e)) e w.heap.size (.slice (some ⟨w.heap.size, 0, none⟩) 0 0) [] :=
  World.ownsRow_made (w := w) #[] 0 (Nat.le_refl _) (by decide) rfl
theorem OwnI.slice {w : World} {e : TypeId} {B : Nat} {v : Value} {l : List Int} (h : OwnI w e B v l) : ∃ a cap, v = .slice a l.length cap ∧ Ints w a l ∧ l.length ≤ cap ∧ (cap : Int) ≤ 9223372036854775807 := by
  rcases h.2 with ⟨rfl, h0⟩ | ⟨g, cap, cur, rfl, _, h3, h1, h2, h4, h5⟩
  · exact ⟨none, 0, by rw [h0], .inl (List.length_eq_zero_iff.1 h0), by omega, by omega⟩
  · refine ⟨_, cap, rfl, .inr ⟨g, 0, rfl, fun j u hj => ?_⟩, h1, by unfold maxLen at h2; omega⟩
    rw [Nat.zero_add, blk_cell h3]
    have := vi_at hj
    rw [← h5, List.getElem?_take] at this
    split at this
    · simpa using this
    · cases this
theorem OwnI.new {w : World} {e : TypeId} {B : Nat} {v : Value} {l : List Int} (h : OwnI w e B v l) {k : Nat} (hk : v.ownBlock = some k) : B ≤ k ∧ k < w.heap.size := World.ownsRow.lt h k hk
theorem OwnI.below {w w' : World} {e : TypeId} {B : Nat} {v : Value} {l : List Int} (h : OwnI w e B v l) (hb : Below w.heap.size w w') : OwnI w' e B v l := by
  rcases h with ⟨h0, h | ⟨g, cap, cur, rfl, hB, h3, r⟩⟩
  · exact ⟨h0, .inl h⟩
  · exact ⟨h0, .inr ⟨g, cap, cur, rfl, hB, kept_obj hb h3, r⟩⟩
theorem OwnI.low {w : World} {e : TypeId} {B B' : Nat} {v : Value} {l : List Int} (h : OwnI w e B v l) (hB : B' ≤ B) : OwnI w e B' v l := by
  rcases h with ⟨h0, h | ⟨g, cap, cur, rfl, hb, r⟩⟩
  · exact ⟨h0, .inl h⟩
  · exact ⟨h0, .inr ⟨g, cap, cur, rfl, by omega, r⟩⟩

/-- A slice type of numbers. -/
structure IsNum (t e : TypeId) : Prop where
  und : Try.prog.underlying t = some (.slice e)
  info : ∃ i, Try.prog.info? e = some i ∧ i.zero = some (.int .i64 0) ∧ i.size = 1 ∧ i.bytes = 8
theorem num_of {t e : TypeId} (h : Try.prog.underlying t = some (.slice e)) (h2 : (Try.prog.info? e).map (fun i => (i.zero, i.size, i.bytes)) = some (some (.int .i64 0), 1, 8)) : IsNum t e := by
  obtain ⟨i, h1, h2⟩ := Option.map_eq_some_iff.1 h2
  simp only [Prod.mk.injEq] at h2
  exact ⟨h, i, h1, h2.1, h2.2.1, h2.2.2⟩
theorem append_ints {w : World} {t e : TypeId} (ht : IsNum t e) {B m c : Nat} {v : Value} {q l : List Int} {ad : Option Addr} (h : OwnI w e B v q) (hB : B ≤ w.heap.size) (hv : Ints w ad l) (hl : l.length = m) (hs : (q.length + m : Int) ≤ 17592186044416) (hn : ad = none → m = 0) (ty : TypeId) :
    ∃ v' w', (Builtin.append_ #[t, t] ty #[v, .slice ad m c]).run Try.prog w = .ok v' w' ∧ OwnI w' e B v' (q ++ l) ∧ w.grownBy w' v.ownBlock ∧ ∀ k, v'.ownBlock = some k → v.ownBlock = some k ∨ w.heap.size ≤ k := by
  obtain ⟨i0, hi, hz0, hz1, hz2⟩ := ht.info
  cases ad with
  | none =>
    obtain rfl := hn rfl
    obtain rfl : l = [] := List.length_eq_zero_iff.1 hl
    refine ⟨v, w, ?_, by rw [List.append_nil]; exact h, ⟨rfl, rfl, rfl, Nat.le_refl _, fun _ _ _ => rfl⟩, fun k hk => .inl hk⟩
    rcases h.2 with ⟨rfl, h0⟩ | ⟨g, cap, cur, rfl, _, h3, h1, h2, h4, h5⟩
    · have hs := Src.ofNil (w := w) (size := i0.size) ht.und c
      simp [Builtin.append_, run_underlying ht.und, sizeOf, typeInfo, hi, hs.len, hs.cells]
    · have := run_append_room_src (P := Try.prog) (w := w) t t ty e i0 ht.und hi g 0 q.length cap (.slice none 0 c) 0 [] (Src.ofNil w ht.und c) (by omega) (fun j hj => absurd hj (Nat.not_lt_zero _)) (fun j hj => absurd hj (Nat.not_lt_zero _))
      simpa [World.setCells] using this
  | some x =>
    have hnews : ∀ j u, (vi l)[j]? = some u → w.cell? (x.add j) = some u := by
      intro j u hj
      rcases hv with rfl | ⟨g, o, e, hc⟩
      · simp [vi] at hj
      · cases e
        simp only [vi, List.getElem?_map, Option.map_eq_some_iff] at hj
        obtain ⟨y, hy, rfl⟩ := hj
        rw [addr_at]; exact hc j y hy
    obtain ⟨v', w', h1, h2, h3, _, h5⟩ := run_append_own_at (P := Try.prog) w B t ty e i0 _ 1 8 ht.und hi hz0 hz1 hz2 rfl (by decide) v q.length (vi q) h x m c (vi l) (by simp [vi, hl]) hnews (vi_one l) (by unfold maxLen; omega) (by omega) hB
    refine ⟨v', w', h1, ?_, h3, fun k hk => ?_⟩
    · unfold OwnI
      rw [List.length_append, hl]
      unfold vi at h2 ⊢
      rw [List.map_append]
      exact h2
    · rcases h5 with z | z
      · left; rw [← z]; exact hk
      · right; rw [z] at hk; cases hk; exact Nat.le_refl _

theorem step_ints {w : World} {t e : TypeId} (ht : IsNum t e) {ops : Array Oper} {o : Oper} {a : Act} {K : Act → World → Prop} {Q : Exit → Act → World → Prop} {E : Prop} (hgd : o.guard = none) (s x : Operand)
    (ho : o.op = .call { callee := .builtin .append, args := #[s, x], argTypes := #[t, t] }) {B m c : Nat} {v : Value} {q l : List Int} {ad : Option Addr} (hs : a.eval s = v) (hx : a.eval x = .slice ad m c)
    (hown : OwnI w e B v q) (hB : B ≤ w.heap.size) (hv : Ints w ad l) (hl : l.length = m) (hsm : (q.length + m : Int) ≤ 17592186044416) (hn : ad = none → m = 0) (N : Nat) (hN : q.length + m = N)
    (h : ∀ a' cp' w', OwnI w' e B (.slice a' N cp') (q ++ l) → w.grownBy w' v.ownBlock → (∀ k, (Value.slice a' N cp').ownBlock = some k → v.ownBlock = some k ∨ w.heap.size ≤ k) → K (a.put o.dst (.slice a' N cp')) w') :
    if Region.wanted o (yielded ops a.tmps) = true then Oper.wp Try.prog o a w K Q else E := by
  have hw : Region.wanted o (yielded ops a.tmps) = true := by simp [Region.wanted, hgd]
  rw [if_pos hw]
  obtain ⟨v', w', hr, h2, h3, h4⟩ := append_ints ht (c := c) hown hB hv hl hsm hn o.type
  obtain ⟨a', cp', hv', _⟩ := h2.slice
  rw [List.length_append, hl, hN] at hv'
  subst hv'
  unfold Oper.wp execOp
  simp only [ho, resolve, invoke, builtin, Sem.run_bind, Sem.run_pure, Result.andThen_ok, List.map_toArray, List.map_cons, List.map_nil, hs, hx, hr]
  exact h a' cp' w' h2 h3 h4
theorem wp_ints {t e : TypeId} (ht : IsNum t e) {ops : Array Oper} {rest : List Oper} {o : Oper} {a : Act} {Q : Exit → Act → World → Prop} {w : World} (hgd : o.guard = none) (s x : Operand)
    (ho : o.op = .call { callee := .builtin .append, args := #[s, x], argTypes := #[t, t] }) {B m c : Nat} {v : Value} {q l : List Int} {ad : Option Addr} (hs : a.eval s = v) (hx : a.eval x = .slice ad m c)
    (hown : OwnI w e B v q) (hB : B ≤ w.heap.size) (hv : Ints w ad l) (hl : l.length = m) (hsm : (q.length + m : Int) ≤ 17592186044416) (hn : ad = none → m = 0) (N : Nat) (hN : q.length + m = N)
    (h : ∀ a' cp' w', OwnI w' e B (.slice a' N cp') (q ++ l) → w.grownBy w' v.ownBlock → (∀ k, (Value.slice a' N cp').ownBlock = some k → v.ownBlock = some k ∨ w.heap.size ≤ k) → wpList Try.prog ops Q rest (a.put o.dst (.slice a' N cp')) w') : wpList Try.prog ops Q (o :: rest) a w :=
  wpList_step fun _ hK => step_ints ht hgd s x ho hs hx hown hB hv hl hsm hn N hN (fun a' cp' w' o' g' l' => hK _ _ (h a' cp' w' o' g' l'))
theorem ints_new (w : World) (x : Int) (T : TypeId) : Ints (w.alloc (.cells #[.int .i64 x] T)) (some ⟨w.heap.size, 0, none⟩) [x] :=
  .inr ⟨_, 0, rfl, fun j u hj => by
    match j, hj with
    | 0, hj => simp at hj; subst hj; rw [World.cell?_alloc_new]; rfl
    | j + 1, hj => simp at hj⟩
theorem at_new (w : World) (x : TV) (T : TypeId) : At (w.alloc (.cells #[.int .i64 x.id, .int .i64 x.c, .int .i64 x.d, .int .i64 x.t, .int .i64 x.p, .slice x.a1 x.ch.length x.c1, .slice x.a2 x.us.length x.c2] T)) w.heap.size 0 x :=
  ⟨by rw [World.cell?_alloc_new]; rfl, by rw [World.cell?_alloc_new]; rfl, by rw [World.cell?_alloc_new]; rfl, by rw [World.cell?_alloc_new]; rfl, by rw [World.cell?_alloc_new]; rfl, by rw [World.cell?_alloc_new]; rfl, by rw [World.cell?_alloc_new]; rfl⟩
end Go.Proofs.Ytpmllljlhopgbaa

/-
  Demands, plainly: how many jobs are due, how much work, the next deadline and the last one.
-/
namespace Go.Proofs.Ytpmllljlhopgbaa

structure Dm where
  c : Int
  d : Int
  t : Int
/-- A demand may be. -/
structure Dm.ok (x : Dm) : Prop where
  c0 : 0 ≤ x.c
  c1 : x.c ≤ 1099511627776
  d1 : 1 ≤ x.d
  d2 : x.d ≤ x.t
  t2 : x.t ≤ 1073741824
def okD (x : Dm) : Bool := decide (0 ≤ x.c) && decide (x.c ≤ 1099511627776) && decide (1 ≤ x.d) && decide (x.d ≤ x.t) && decide (x.t ≤ 1073741824)
theorem okD_iff {x : Dm} : okD x = true ↔ x.ok := by
  unfold okD
  simp only [Bool.and_eq_true, decide_eq_true_eq]
  exact ⟨fun ⟨⟨⟨⟨a, b⟩, c⟩, d⟩, e⟩ => ⟨a, b, c, d, e⟩, fun ⟨a, b, c, d, e⟩ => ⟨⟨⟨⟨a, b⟩, c⟩, d⟩, e⟩⟩
def okL (l : List Dm) : Bool := l.all okD && decide (l.length ≤ 64)
theorem okL_iff {l : List Dm} : okL l = true ↔ (∀ x ∈ l, x.ok) ∧ l.length ≤ 64 := by
  unfold okL
  rw [Bool.and_eq_true, List.all_eq_true, decide_eq_true_eq]
  exact and_congr_left fun _ => forall_congr' fun x => forall_congr' fun _ => okD_iff
def timeOk (t : Int) : Prop := 0 ≤ t ∧ t ≤ 2199023255552
/-- How many of one have deadlines that are not above t. -/
def jobsD (x : Dm) (t : Int) : Int := if t < x.d then 0 else (t - x.d) / x.t + 1
/-- The next deadline of one. -/
def nxtD (x : Dm) (t : Int) : Int := x.d + jobsD x t * x.t
theorem jobs_early {x : Dm} {t : Int} (h : t < x.d) : jobsD x t = 0 := if_pos h
theorem jobs_late {x : Dm} {t : Int} (h : ¬ t < x.d) : jobsD x t = (t - x.d) / x.t + 1 := if_neg h
theorem jobs_nonneg {x : Dm} (h : x.ok) (t : Int) : 0 ≤ jobsD x t := by
  have := h.d1; have := h.d2
  unfold jobsD
  split
  · omega
  · have : 0 ≤ (t - x.d) / x.t := Int.ediv_nonneg (by omega) (by omega)
    omega
/-- The jobs by t are those whose deadline is not above t: the last one's is not, the next one's is. -/
theorem jobs_fit {x : Dm} (h : x.ok) (t : Int) : t < nxtD x t ∧ (0 < jobsD x t → nxtD x t - x.t ≤ t) := by
  have h1 := h.d1; have h2 := h.d2
  unfold nxtD
  by_cases q : t < x.d
  · rw [jobs_early q]; exact ⟨by omega, fun z => by omega⟩
  · rw [jobs_late q]
    have e := Int.mul_ediv_add_emod (t - x.d) x.t
    have e1 := Int.emod_nonneg (t - x.d) (show x.t ≠ 0 by omega)
    have e2 := Int.emod_lt_of_pos (t - x.d) (show 0 < x.t by omega)
    have e3 : ((t - x.d) / x.t + 1) * x.t = x.t * ((t - x.d) / x.t) + x.t := by rw [Int.add_mul, Int.one_mul, Int.mul_comm]
    rw [e3]
    exact ⟨by omega, fun _ => by omega⟩
theorem mul_lt_next {a b t : Int} (ht : 0 < t) (h : a * t < (b + 1) * t) : a ≤ b := by
  have := Int.lt_of_mul_lt_mul_right h (by omega)
  omega
/-- So many jobs are due just if so many deadlines are not above t. -/
theorem jobs_is {x : Dm} (h : x.ok) {t n : Int} (hn : 0 ≤ n) (h1 : t < x.d + n * x.t) (h2 : 0 < n → x.d + (n - 1) * x.t ≤ t) : jobsD x t = n := by
  have hd := h.d1; have hd2 := h.d2
  obtain ⟨f1, f2⟩ := jobs_fit h t
  have hj := jobs_nonneg h t
  unfold nxtD at f1 f2
  generalize jobsD x t = j at *
  have a1 : n ≤ j := by
    rcases Int.lt_or_le 0 n with q | q
    · have := h2 q
      have e : (n - 1) * x.t < (j - 1 + 1) * x.t := by rw [Int.sub_add_cancel]; omega
      have := mul_lt_next (by omega) e
      omega
    · omega
  have a2 : j ≤ n := by
    rcases Int.lt_or_le 0 j with q | q
    · have := f2 q
      have e0 : j * x.t - x.t = (j - 1) * x.t := by rw [Int.sub_mul, Int.one_mul]
      have e : (j - 1) * x.t < (n - 1 + 1) * x.t := by rw [Int.sub_add_cancel]; omega
      have := mul_lt_next (by omega) e
      omega
    · omega
  omega
/-- A deadline of one. -/
def DlOf (x : Dm) (y : Int) : Prop := ∃ n : Int, 0 ≤ n ∧ y = x.d + n * x.t
theorem nxt_dl {x : Dm} (h : x.ok) (t : Int) : DlOf x (nxtD x t) := ⟨jobsD x t, jobs_nonneg h t, rfl⟩
theorem nxt_least {x : Dm} (h : x.ok) {t y : Int} (hy : DlOf x y) (ht : t < y) : nxtD x t ≤ y := by
  obtain ⟨n, hn, rfl⟩ := hy
  have hd := h.d1; have hd2 := h.d2
  obtain ⟨f1, f2⟩ := jobs_fit h t
  have hj := jobs_nonneg h t
  unfold nxtD at f2 ⊢
  generalize jobsD x t = j at *
  have a2 : j ≤ n := by
    rcases Int.lt_or_le 0 j with q | q
    · have := f2 q
      have e0 : j * x.t - x.t = (j - 1) * x.t := by rw [Int.sub_mul, Int.one_mul]
      have e : (j - 1) * x.t < (n - 1 + 1) * x.t := by rw [Int.sub_add_cancel]; omega
      have := mul_lt_next (by omega) e
      omega
    · omega
  have := Int.mul_le_mul_of_nonneg_right a2 (show 0 ≤ x.t by omega)
  omega
/-- Between two deadlines no job more is due. -/
theorem jobs_between {x : Dm} (h : x.ok) {t u : Int} (h1 : t ≤ u) (h2 : u < nxtD x t) : jobsD x u = jobsD x t := by
  refine jobs_is h (jobs_nonneg h t) h2 fun q => ?_
  have := (jobs_fit h t).2 q
  unfold nxtD at this
  rw [Int.sub_mul, Int.one_mul]; omega
/-- A period later so many jobs more are due. -/
theorem jobs_period {x : Dm} (h : x.ok) {t : Int} (ht : 0 ≤ t) {m : Int} (hm : 0 ≤ m) : jobsD x (t + m * x.t) = jobsD x t + m := by
  have hd := h.d1; have hd2 := h.d2
  obtain ⟨f1, f2⟩ := jobs_fit h t
  have hj := jobs_nonneg h t
  unfold nxtD at f1 f2
  refine jobs_is h (by omega) ?_ fun q => ?_
  · rw [Int.add_mul]; omega
  · rw [show jobsD x t + m - 1 = (jobsD x t - 1) + m by omega, Int.add_mul, Int.sub_mul, Int.one_mul]
    rcases Int.lt_or_le 0 (jobsD x t) with z | z
    · have := f2 z; omega
    · rw [show jobsD x t = 0 by omega, Int.zero_mul]; omega
/-- The last deadline of one that is below t, if there is one. -/
def prvD (x : Dm) (t : Int) : Int := x.d + (jobsD x (t - 1) - 1) * x.t
theorem prv_is {x : Dm} (h : x.ok) {t : Int} (hj : jobsD x (t - 1) ≠ 0) : DlOf x (prvD x t) ∧ prvD x t < t := by
  have hp := jobs_nonneg h (t - 1)
  refine ⟨⟨jobsD x (t - 1) - 1, by omega, rfl⟩, ?_⟩
  have := (jobs_fit h (t - 1)).2 (by omega)
  unfold nxtD at this
  unfold prvD
  rw [Int.sub_mul, Int.one_mul]; omega
theorem prv_most {x : Dm} (h : x.ok) {t y : Int} (hy : DlOf x y) (ht : y < t) : jobsD x (t - 1) ≠ 0 ∧ y ≤ prvD x t := by
  obtain ⟨n, hn, rfl⟩ := hy
  have hd := h.d1; have hd2 := h.d2
  have f1 := (jobs_fit h (t - 1)).1
  have hj := jobs_nonneg h (t - 1)
  unfold nxtD at f1
  unfold prvD
  generalize jobsD x (t - 1) = j at *
  have a1 : n + 1 ≤ j := by
    have e : n * x.t < (j - 1 + 1) * x.t := by rw [Int.sub_add_cancel]; omega
    have := mul_lt_next (by omega) e
    omega
  have := Int.mul_le_mul_of_nonneg_right (show n ≤ j - 1 by omega) (show 0 ≤ x.t by omega)
  exact ⟨by omega, by omega⟩
theorem dl_pos {x : Dm} (h : x.ok) {y : Int} (hy : DlOf x y) : 1 ≤ y := by
  obtain ⟨n, hn, rfl⟩ := hy
  have hd := h.d1; have hd2 := h.d2
  have := Int.mul_nonneg hn (show 0 ≤ x.t by omega)
  omega

/-- Work due of the first k. -/
def dueN (l : List Dm) (t : Int) : Nat → Int
  | 0 => 0
  | k + 1 => match l[k]? with
    | some x => dueN l t k + x.c * jobsD x t
    | none => dueN l t k
theorem due_next {l : List Dm} {t : Int} {k : Nat} {x : Dm} (h : l[k]? = some x) : dueN l t (k + 1) = dueN l t k + x.c * jobsD x t := by rw [dueN, h]
theorem due_end {l : List Dm} {t : Int} {k : Nat} (h : l[k]? = none) : dueN l t (k + 1) = dueN l t k := by rw [dueN, h]
theorem due_mono {l : List Dm} (h : ∀ x ∈ l, x.ok) (t : Int) : ∀ {j k : Nat}, j ≤ k → dueN l t j ≤ dueN l t k
  | j, k, hjk => by
    induction k with
    | zero => obtain rfl : j = 0 := by omega
              exact Int.le_refl _
    | succ k ih =>
      rcases Nat.lt_or_ge k j with q | q
      · obtain rfl : j = k + 1 := by omega
        exact Int.le_refl _
      · have := ih q
        cases hx : l[k]? with
        | none => rw [due_end hx]; exact this
        | some x =>
          have ho := h x (List.mem_of_getElem? hx)
          have := Int.mul_nonneg ho.c0 (jobs_nonneg ho t)
          rw [due_next hx]; omega
theorem due_same {l : List Dm} {t u : Int} (h : ∀ x ∈ l, jobsD x t = jobsD x u) : ∀ k, dueN l t k = dueN l u k
  | 0 => rfl
  | k + 1 => by
    cases hx : l[k]? with
    | none => rw [due_end hx, due_end hx, due_same h k]
    | some x => rw [due_next hx, due_next hx, due_same h k, h x (List.mem_of_getElem? hx)]
theorem due_append {l m : List Dm} {t : Int} : ∀ k, dueN (l ++ m) t (l.length + k) = dueN l t l.length + dueN m t k
  | 0 => by
    have key : ∀ k, k ≤ l.length → dueN (l ++ m) t k = dueN l t k := fun k hk => by
      induction k with
      | zero => rfl
      | succ k ih =>
        have e : (l ++ m)[k]? = l[k]? := List.getElem?_append_left (by omega)
        rw [dueN, dueN, e, ih (by omega)]
    rw [Nat.add_zero, key _ (Nat.le_refl _)]; show _ = _ + (0 : Int); omega
  | k + 1 => by
    have e : (l ++ m)[l.length + k]? = m[k]? := by rw [List.getElem?_append_right (by omega)]; congr 1; omega
    rw [← Nat.add_assoc, dueN, e, dueN, due_append k]
    cases m[k]? with
    | none => rfl
    | some x => dsimp only; omega
/-- The next deadline of the first k. -/
def nextN (l : List Dm) (t : Int) : Nat → Option Int
  | 0 => none
  | k + 1 => match l[k]? with
    | some x => (match nextN l t k with
      | none => some (nxtD x t)
      | some b => if nxtD x t < b then some (nxtD x t) else some b)
    | none => nextN l t k
/-- A deadline of one of the first k. -/
def DlN (l : List Dm) (k : Nat) (y : Int) : Prop := ∃ (j : Nat) (x : Dm), j < k ∧ l[j]? = some x ∧ DlOf x y
theorem next_is {l : List Dm} (h : ∀ x ∈ l, x.ok) (t : Int) : ∀ k, (∀ y, nextN l t k = some y → DlN l k y ∧ t < y) ∧ (∀ y, DlN l k y → t < y → ∃ z, nextN l t k = some z ∧ z ≤ y)
  | 0 => ⟨fun y e => (by cases e), fun y ⟨j, x, hj, _⟩ => absurd hj (Nat.not_lt_zero _)⟩
  | k + 1 => by
    obtain ⟨i1, i2⟩ := next_is h t k
    cases hx : l[k]? with
    | none =>
      rw [nextN, hx]
      dsimp only
      refine ⟨fun y e => ?_, fun y ⟨j, x, hj, hjx, hd⟩ ht => i2 y ⟨j, x, ?_, hjx, hd⟩ ht⟩
      · obtain ⟨⟨j, x, hj, hjx, hd⟩, ht⟩ := i1 y e
        exact ⟨⟨j, x, by omega, hjx, hd⟩, ht⟩
      · rcases Nat.lt_or_ge j k with q | q
        · exact q
        · obtain rfl : j = k := by omega
          rw [hx] at hjx; cases hjx
    | some x =>
      have ho := h x (List.mem_of_getElem? hx)
      have own : DlN l (k + 1) (nxtD x t) ∧ t < nxtD x t := ⟨⟨k, x, by omega, hx, nxt_dl ho t⟩, (jobs_fit ho t).1⟩
      rw [nextN, hx]
      dsimp only
      cases hb : nextN l t k with
      | none =>
        dsimp only
        refine ⟨fun y e => by cases e; exact own, fun y ⟨j, x', hj, hjx, hd⟩ ht => ⟨_, rfl, ?_⟩⟩
        rcases Nat.lt_or_ge j k with q | q
        · obtain ⟨z, hz, _⟩ := i2 y ⟨j, x', q, hjx, hd⟩ ht
          rw [hb] at hz; cases hz
        · obtain rfl : j = k := by omega
          rw [hx] at hjx; cases hjx
          exact nxt_least ho hd ht
      | some b =>
        dsimp only
        have hb1 := i1 b hb
        have hbk : DlN l (k + 1) b ∧ t < b := by
          obtain ⟨⟨j, x, hj, hjx, hd⟩, ht⟩ := hb1
          exact ⟨⟨j, x, by omega, hjx, hd⟩, ht⟩
        have low : ∀ y, DlN l (k + 1) y → t < y → b ≤ y ∨ nxtD x t ≤ y := fun y ⟨j, x', hj, hjx, hd⟩ ht => by
          rcases Nat.lt_or_ge j k with q | q
          · obtain ⟨z, hz, hzy⟩ := i2 y ⟨j, x', q, hjx, hd⟩ ht
            rw [hb] at hz; cases hz; exact .inl hzy
          · obtain rfl : j = k := by omega
            rw [hx] at hjx; cases hjx
            exact .inr (nxt_least ho hd ht)
        split
        · rename_i q
          exact ⟨fun y e => by cases e; exact own, fun y hy ht => ⟨_, rfl, by rcases low y hy ht with z | z <;> omega⟩⟩
        · rename_i q
          exact ⟨fun y e => by cases e; exact hbk, fun y hy ht => ⟨_, rfl, by rcases low y hy ht with z | z <;> omega⟩⟩
/-- The last deadline below t of the first k, 0 of none. -/
def lastN (l : List Dm) (t : Int) : Nat → Option Int
  | 0 => none
  | k + 1 => match l[k]? with
    | some x => if jobsD x (t - 1) = 0 then lastN l t k else (if (lastN l t k).getD 0 < prvD x t then some (prvD x t) else lastN l t k)
    | none => lastN l t k
theorem last_is {l : List Dm} (h : ∀ x ∈ l, x.ok) (t : Int) : ∀ k, (∀ y, lastN l t k = some y → DlN l k y ∧ y < t) ∧ (∀ y, DlN l k y → y < t → ∃ z, lastN l t k = some z ∧ y ≤ z)
  | 0 => ⟨fun y e => (by cases e), fun y ⟨j, x, hj, _⟩ => absurd hj (Nat.not_lt_zero _)⟩
  | k + 1 => by
    obtain ⟨i1, i2⟩ := last_is h t k
    have up : ∀ y, DlN l k y ∧ y < t → DlN l (k + 1) y ∧ y < t := fun y ⟨⟨j, x, hj, hjx, hd⟩, ht⟩ => ⟨⟨j, x, by omega, hjx, hd⟩, ht⟩
    cases hx : l[k]? with
    | none =>
      rw [lastN, hx]
      dsimp only
      refine ⟨fun y e => up y (i1 y e), fun y ⟨j, x, hj, hjx, hd⟩ ht => i2 y ⟨j, x, ?_, hjx, hd⟩ ht⟩
      rcases Nat.lt_or_ge j k with q | q
      · exact q
      · obtain rfl : j = k := by omega
        rw [hx] at hjx; cases hjx
    | some x =>
      have ho := h x (List.mem_of_getElem? hx)
      rw [lastN, hx]
      dsimp only
      by_cases hj0 : jobsD x (t - 1) = 0
      · rw [if_pos hj0]
        refine ⟨fun y e => up y (i1 y e), fun y ⟨j, x', hj, hjx, hd⟩ ht => ?_⟩
        rcases Nat.lt_or_ge j k with q | q
        · exact i2 y ⟨j, x', q, hjx, hd⟩ ht
        · obtain rfl : j = k := by omega
          rw [hx] at hjx; cases hjx
          exact absurd hj0 (prv_most ho hd ht).1
      · rw [if_neg hj0]
        obtain ⟨p1, p2⟩ := prv_is ho hj0
        have own : DlN l (k + 1) (prvD x t) ∧ prvD x t < t := ⟨⟨k, x, by omega, hx, p1⟩, p2⟩
        have hpos := dl_pos ho p1
        have low : ∀ y, DlN l (k + 1) y → y < t → (∃ z, lastN l t k = some z ∧ y ≤ z) ∨ y ≤ prvD x t := fun y ⟨j, x', hj, hjx, hd⟩ ht => by
          rcases Nat.lt_or_ge j k with q | q
          · exact .inl (i2 y ⟨j, x', q, hjx, hd⟩ ht)
          · obtain rfl : j = k := by omega
            rw [hx] at hjx; cases hjx
            exact .inr (prv_most ho hd ht).2
        cases hb : lastN l t k with
        | none =>
          rw [if_pos (show (none : Option Int).getD 0 < prvD x t by show (0 : Int) < _; omega)]
          refine ⟨fun y e => by cases e; exact own, fun y hy ht => ⟨_, rfl, ?_⟩⟩
          rcases low y hy ht with ⟨z, hz, _⟩ | q
          · rw [hb] at hz; cases hz
          · exact q
        | some b =>
          show (∀ y, (if b < prvD x t then some (prvD x t) else some b) = some y → _) ∧ (∀ y, _ → y < t → ∃ z, (if b < prvD x t then some (prvD x t) else some b) = some z ∧ y ≤ z)
          have hbk := up b (i1 b hb)
          split
          · rename_i q
            refine ⟨fun y e => by cases e; exact own, fun y hy ht => ⟨_, rfl, ?_⟩⟩
            rcases low y hy ht with ⟨z, hz, hyz⟩ | z
            · rw [hb] at hz; cases hz; omega
            · exact z
          · rename_i q
            refine ⟨fun y e => by cases e; exact hbk, fun y hy ht => ⟨_, rfl, ?_⟩⟩
            rcases low y hy ht with ⟨z, hz, hyz⟩ | z
            · rw [hb] at hz; cases hz; exact hyz
            · omega
end Go.Proofs.Ytpmllljlhopgbaa

/-
  Rows of demands: three cells each.
-/
namespace Go.Proofs.Ytpmllljlhopgbaa
open Go.RowKit Go.Maps

def gcells (x : Dm) : List Value := [.int .i64 x.c, .int .i64 x.d, .int .i64 x.t]
/-- The cells of a demand, from a place on. -/
structure GAt (w : World) (g o : Nat) (x : Dm) : Prop where
  c0 : w.cell? ⟨g, o, none⟩ = some (.int .i64 x.c)
  c1 : w.cell? ⟨g, o + 1, none⟩ = some (.int .i64 x.d)
  c2 : w.cell? ⟨g, o + 2, none⟩ = some (.int .i64 x.t)
theorem GAt.below {w w' : World} {g o : Nat} {x : Dm} (h : GAt w g o x) (hb : Below w.heap.size w w') : GAt w' g o x :=
  ⟨kept_cell hb h.c0, kept_cell hb h.c1, kept_cell hb h.c2⟩
/-- The cells of a row of tasks. -/
def gflat : List Dm → List Value
  | [] => []
  | x :: l => gcells x ++ gflat l
theorem gcells_len (x : Dm) : (gcells x).length = 3 := rfl
theorem gflat_len : ∀ l : List Dm, (gflat l).length = l.length * 3
  | [] => rfl
  | x :: l => by simp [gflat, gflat_len l, gcells_len]; omega
theorem gflat_append : ∀ l m : List Dm, gflat (l ++ m) = gflat l ++ gflat m
  | [], _ => rfl
  | x :: l, m => by simp [gflat, gflat_append l m]
theorem gflat_at : ∀ (l : List Dm) (k : Nat) (x : Dm), l[k]? = some x → ∀ i, i < 3 → (gflat l)[k * 3 + i]? = (gcells x)[i]?
  | [], k, x, h => by simp at h
  | y :: l, 0, x, h => by
    simp at h; subst h
    intro i hi
    rw [Nat.zero_mul, Nat.zero_add, gflat, List.getElem?_append_left (by rw [gcells_len]; exact hi)]
  | y :: l, k + 1, x, h => by
    intro i hi
    have := gflat_at l k x (by simpa using h) i hi
    rw [show (k + 1) * 3 + i = 3 + (k * 3 + i) by omega, gflat, List.getElem?_append_right (by rw [gcells_len]; omega), gcells_len, ← this]
    congr 1; omega
theorem gflat_one : ∀ (l : List Dm), ∀ u ∈ gflat l, u.oneCell' = true
  | [], u, h => by simp [gflat] at h
  | x :: l, u, h => by
    rcases List.mem_append.1 h with h | h
    · simp [gcells] at h
      rcases h with rfl | rfl | rfl <;> rfl
    · exact gflat_one l u h
theorem gflat_drop : ∀ (k : Nat) (l : List Dm), gflat (l.drop k) = (gflat l).drop (k * 3)
  | 0, l => by simp
  | k + 1, [] => by simp [gflat]
  | k + 1, x :: l => by
    rw [List.drop_succ_cons, gflat_drop k l, gflat, List.drop_append, show (k + 1) * 3 = 3 + k * 3 by omega]
    simp [gcells_len]
theorem gflat_take : ∀ (k : Nat) (l : List Dm), gflat (l.take k) = (gflat l).take (k * 3)
  | 0, l => by simp [gflat]
  | k + 1, [] => by simp [gflat]
  | k + 1, x :: l => by
    rw [List.take_succ_cons, gflat, gflat, gflat_take k l, List.take_append, show (k + 1) * 3 = 3 + k * 3 by omega]
    simp [gcells_len]
    rw [List.take_of_length_le (by rw [gcells_len]; omega)]

/-- A row of tasks that can be read. -/
def GView (w : World) (a : Option Addr) (l : List Dm) : Prop :=
  l = [] ∨ ∃ g o, a = some ⟨g, o, none⟩ ∧ ∀ j u, (gflat l)[j]? = some u → w.cell? ⟨g, o + j, none⟩ = some u
theorem GView.nil {w : World} {a : Option Addr} : GView w a [] := .inl rfl
theorem GView.at_ {w : World} {a : Option Addr} {l : List Dm} (h : GView w a l) {k : Nat} {x : Dm} (hx : l[k]? = some x) : ∃ g o, a = some ⟨g, o, none⟩ ∧ GAt w g (o + k * 3) x := by
  rcases h with rfl | ⟨g, o, rfl, hc⟩
  · simp at hx
  · have f := gflat_at l k x hx
    refine ⟨g, o, rfl, ⟨?_, ?_, ?_⟩⟩
    · exact hc _ _ (f 0 (by omega))
    · exact hc _ _ (f 1 (by omega))
    · exact hc _ _ (f 2 (by omega))
theorem GView.below {w w' : World} {a : Option Addr} {l : List Dm} (h : GView w a l) (hb : Below w.heap.size w w') : GView w' a l := by
  rcases h with rfl | ⟨g, o, rfl, hc⟩
  · exact .inl rfl
  · exact .inr ⟨g, o, rfl, fun j u hj => kept_cell hb (hc j u hj)⟩
theorem GView.drop {w : World} {g o : Nat} {l : List Dm} (h : GView w (some ⟨g, o, none⟩) l) (k : Nat) : GView w (some ⟨g, o + k * 3, none⟩) (l.drop k) := by
  rcases h with rfl | ⟨g', o', e, hc⟩
  · left; simp
  · cases e
    refine .inr ⟨_, _, rfl, fun j u hj => ?_⟩
    rw [gflat_drop, List.getElem?_drop] at hj
    rw [Nat.add_assoc]
    exact hc _ u hj
theorem GView.take {w : World} {a : Option Addr} {l : List Dm} (h : GView w a l) (k : Nat) : GView w a (l.take k) := by
  rcases h with rfl | ⟨g, o, rfl, hc⟩
  · left; simp
  · refine .inr ⟨g, o, rfl, fun j u hj => ?_⟩
    rw [gflat_take, List.getElem?_take] at hj
    split at hj
    · exact hc j u hj
    · cases hj
theorem GView.of_at {w : World} {g o : Nat} {x : Dm} (h : GAt w g o x) : GView w (some ⟨g, o, none⟩) [x] := by
  refine .inr ⟨g, o, rfl, fun j u hj => ?_⟩
  simp only [gflat, List.append_nil, gcells] at hj
  match j, hj with
  | 0, hj => simp at hj; subst hj; exact h.c0
  | 1, hj => simp at hj; subst hj; exact h.c1
  | 2, hj => simp at hj; subst hj; exact h.c2
  | j + 3, hj => simp at hj
abbrev DT3 : TypeId := 29
def OwnG (w : World) (B : Nat) (v : Value) (l : List Dm) : Prop := w.ownsRow B DT3 3 v l.length (gflat l)
theorem OwnG.nil (w : World) (B : Nat) : OwnG w B (.slice none 0 0) [] := World.ownsRow_nil _ _ _ _
theorem OwnG.made (w : World) : OwnG (w.alloc (.cells #[] DT3)) w.heap.size (.slice (some ⟨w.heap.size, 0, none⟩) 0 0) [] :=
  World.ownsRow_made (w := w) #[] 0 (Nat.le_refl _) (by decide) rfl
theorem OwnG.low {w : World} {B B' : Nat} {v : Value} {l : List Dm} (h : OwnG w B v l) (hB : B' ≤ B) : OwnG w B' v l := by
  rcases h with ⟨h0, h | ⟨g, cap, cur, rfl, hb, r⟩⟩
  · exact ⟨h0, .inl h⟩
  · exact ⟨h0, .inr ⟨g, cap, cur, rfl, by omega, r⟩⟩
theorem OwnG.slice {w : World} {B : Nat} {v : Value} {l : List Dm} (h : OwnG w B v l) : ∃ a cap, v = .slice a l.length cap ∧ GView w a l ∧ l.length ≤ cap ∧ (cap : Int) ≤ 9223372036854775807 := by
  rcases h.2 with ⟨rfl, h0⟩ | ⟨g, cap, cur, rfl, _, h3, h1, h2, h4, h5⟩
  · exact ⟨none, 0, by rw [h0], .inl (List.length_eq_zero_iff.1 h0), by omega, by omega⟩
  · refine ⟨_, cap, rfl, .inr ⟨g, 0, rfl, fun j u hj => ?_⟩, h1, by unfold maxLen at h2; omega⟩
    rw [Nat.zero_add, blk_cell h3]
    rw [← h5] at hj
    rw [List.getElem?_take] at hj
    split at hj
    · simpa using hj
    · cases hj
theorem OwnG.new {w : World} {B : Nat} {v : Value} {l : List Dm} (h : OwnG w B v l) {k : Nat} (hk : v.ownBlock = some k) : B ≤ k ∧ k < w.heap.size := World.ownsRow.lt h k hk
theorem OwnG.below {w w' : World} {B : Nat} {v : Value} {l : List Dm} (h : OwnG w B v l) (hb : Below w.heap.size w w') : OwnG w' B v l := by
  rcases h with ⟨h0, h | ⟨g, cap, cur, rfl, hB, h3, r⟩⟩
  · exact ⟨h0, .inl h⟩
  · exact ⟨h0, .inr ⟨g, cap, cur, rfl, hB, kept_obj hb h3, r⟩⟩
theorem OwnG.none_len {w : World} {B n c : Nat} {l : List Dm} (h : OwnG w B (.slice none n c) l) : n = 0 := by
  rcases h.2 with ⟨h1, h0⟩ | ⟨g, cap, cur, h1, _⟩
  · cases h1; rfl
  · cases h1

theorem infoDm3 : (Try.prog.info? DT3).map (fun i => (i.zero, i.size, i.bytes)) = some (some (.agg #[.int .i64 0, .int .i64 0, .int .i64 0]), 3, 24) := by kernel_rfl
theorem zeroDm3 (w : World) : (zeroValue DT3).run Try.prog w = .ok (.agg #[.int .i64 0, .int .i64 0, .int .i64 0]) w := by kernel_rfl
theorem ginfoParts : ∃ i, Try.prog.info? DT3 = some i ∧ i.zero = some (.agg #[.int .i64 0, .int .i64 0, .int .i64 0]) ∧ i.size = 3 ∧ i.bytes = 24 := by
  obtain ⟨i, h1, h2⟩ := Option.map_eq_some_iff.1 infoDm3
  simp only [Prod.mk.injEq] at h2
  exact ⟨i, h1, h2.1, h2.2.1, h2.2.2⟩

/-- A row that was appended to: what it holds, where it lies. -/
theorem append_gview {w : World} {B m c : Nat} {v : Value} {q l : List Dm} {ad : Option Addr} (h : OwnG w B v q) (hB : B ≤ w.heap.size) (hv : GView w ad l) (hl : l.length = m) (hs : q.length + m ≤ 1000000) (hn : ad = none → m = 0) (ty : TypeId) :
    ∃ v' w', (Builtin.append_ #[24, 24] ty #[v, .slice ad m c]).run Try.prog w = .ok v' w' ∧ OwnG w' B v' (q ++ l) ∧ w.grownBy w' v.ownBlock ∧ ∀ k, v'.ownBlock = some k → v.ownBlock = some k ∨ w.heap.size ≤ k := by
  obtain ⟨i0, hi, hz0, hz1, hz2⟩ := ginfoParts
  cases ad with
  | none =>
    obtain rfl := hn rfl
    obtain rfl : l = [] := List.length_eq_zero_iff.1 hl
    refine ⟨v, w, ?_, by rw [List.append_nil]; exact h, ⟨rfl, rfl, rfl, Nat.le_refl _, fun _ _ _ => rfl⟩, fun k hk => .inl hk⟩
    rcases h.2 with ⟨rfl, h0⟩ | ⟨g, cap, cur, rfl, _, h3, h1, h2, h4, h5⟩
    · have hs := Src.ofNil (w := w) (size := i0.size) Try.underlying24 c
      simp [Builtin.append_, run_underlying Try.underlying24, sizeOf, typeInfo, hi, hs.len, hs.cells]
    · have := run_append_room_src (P := Try.prog) (w := w) 24 24 ty DT3 i0 Try.underlying24 hi g 0 q.length cap (.slice none 0 c) 0 [] (Src.ofNil w Try.underlying24 c) (by omega) (fun j hj => absurd hj (Nat.not_lt_zero _)) (fun j hj => absurd hj (Nat.not_lt_zero _))
      simpa [World.setCells] using this
  | some x =>
    have hnews : ∀ j u, (gflat l)[j]? = some u → w.cell? (x.add j) = some u := by
      intro j u hj
      rcases hv with rfl | ⟨g, o, e, hc⟩
      · simp [gflat] at hj
      · cases e
        rw [addr_at]; exact hc j u hj
    obtain ⟨v', w', h1, h2, h3, _, h5⟩ := run_append_own_at (P := Try.prog) w B 24 ty DT3 i0 _ 3 24 Try.underlying24 hi hz0 hz1 hz2 rfl (by decide) v q.length (gflat q) h x m c (gflat l) (by rw [gflat_len, hl]) hnews (gflat_one l) (by unfold maxLen; omega) (by omega) hB
    refine ⟨v', w', h1, ?_, h3, fun k hk => ?_⟩
    · unfold OwnG
      rw [List.length_append, gflat_append, hl]
      exact h2
    · rcases h5 with z | z
      · left; rw [← z]; exact hk
      · right; rw [z] at hk; cases hk; exact Nat.le_refl _

theorem gstep_append {w : World} {ops : Array Oper} {o : Oper} {a : Act} {K : Act → World → Prop} {Q : Exit → Act → World → Prop} {E : Prop} (hgd : o.guard = none) (s x : Operand)
    (ho : o.op = .call { callee := .builtin .append, args := #[s, x], argTypes := #[24, 24] }) {B m c : Nat} {v : Value} {q l : List Dm} {ad : Option Addr} (hs : a.eval s = v) (hx : a.eval x = .slice ad m c)
    (hown : OwnG w B v q) (hB : B ≤ w.heap.size) (hv : GView w ad l) (hl : l.length = m) (hsm : q.length + m ≤ 1000000) (hn : ad = none → m = 0) (N : Nat) (hN : q.length + m = N)
    (h : ∀ a' cp' w', OwnG w' B (.slice a' N cp') (q ++ l) → w.grownBy w' v.ownBlock → (∀ k, (Value.slice a' N cp').ownBlock = some k → v.ownBlock = some k ∨ w.heap.size ≤ k) → K (a.put o.dst (.slice a' N cp')) w') :
    if Region.wanted o (yielded ops a.tmps) = true then Oper.wp Try.prog o a w K Q else E := by
  have hw : Region.wanted o (yielded ops a.tmps) = true := by simp [Region.wanted, hgd]
  rw [if_pos hw]
  obtain ⟨v', w', hr, h2, h3, h4⟩ := append_gview (c := c) hown hB hv hl hsm hn o.type
  obtain ⟨a', cp', hv', _⟩ := h2.slice
  rw [List.length_append, hl, hN] at hv'
  subst hv'
  unfold Oper.wp execOp
  simp only [ho, resolve, invoke, builtin, Sem.run_bind, Sem.run_pure, Result.andThen_ok, List.map_toArray, List.map_cons, List.map_nil, hs, hx, hr]
  exact h a' cp' w' h2 h3 h4
theorem wp_gappend {ops : Array Oper} {rest : List Oper} {o : Oper} {a : Act} {Q : Exit → Act → World → Prop} {w : World} (hgd : o.guard = none) (s x : Operand)
    (ho : o.op = .call { callee := .builtin .append, args := #[s, x], argTypes := #[24, 24] }) {B m c : Nat} {v : Value} {q l : List Dm} {ad : Option Addr} (hs : a.eval s = v) (hx : a.eval x = .slice ad m c)
    (hown : OwnG w B v q) (hB : B ≤ w.heap.size) (hv : GView w ad l) (hl : l.length = m) (hsm : q.length + m ≤ 1000000) (hn : ad = none → m = 0) (N : Nat) (hN : q.length + m = N)
    (h : ∀ a' cp' w', OwnG w' B (.slice a' N cp') (q ++ l) → w.grownBy w' v.ownBlock → (∀ k, (Value.slice a' N cp').ownBlock = some k → v.ownBlock = some k ∨ w.heap.size ≤ k) → wpList Try.prog ops Q rest (a.put o.dst (.slice a' N cp')) w') : wpList Try.prog ops Q (o :: rest) a w :=
  wpList_step fun _ hK => gstep_append hgd s x ho hs hx hown hB hv hl hsm hn N hN (fun a' cp' w' o' g' l' => hK _ _ (h a' cp' w' o' g' l'))



end Go.Proofs.Ytpmllljlhopgbaa

/-
  Plain numbers of 64 bits: no program in this text.
-/
namespace Go.Proofs.Ytpmllljlhopgbaa
open Go.RowKit

/-- Below two to the sixty-fourth, and not below 0. -/
def U64 (x : Int) : Prop := 0 ≤ x ∧ x < 18446744073709551616

theorem U64.ge {x : Int} (h : U64 x) : 0 ≤ x := h.1
theorem U64.lt {x : Int} (h : U64 x) : x < 18446744073709551616 := h.2
theorem U64.of {x : Int} (h : 0 ≤ x) (h' : x < 18446744073709551616) : U64 x := ⟨h, h'⟩

theorem u64_of_wf {x : Int} (h : (Lit.int .u64 x).wf = true) : U64 x := by
  simp [Lit.wf, IntKind.min, IntKind.max, IntKind.signed, IntKind.bits] at h
  exact ⟨by omega, by omega⟩

def addN (a b : Int) : Int := if a + b < 18446744073709551616 then a + b else 0
def addB (a b : Int) : Bool := decide (a + b < 18446744073709551616)
def subN (a b : Int) : Int := if b ≤ a then a - b else 0
def subB (a b : Int) : Bool := decide (b ≤ a)
def mulN (a b : Int) : Int := if a * b < 18446744073709551616 then a * b else 0
def mulB (a b : Int) : Bool := decide (a * b < 18446744073709551616)
def ceilN (a b : Int) : Int := if b = 0 then 0 else if a % b = 0 then a / b else a / b + 1
def ceilB (b : Int) : Bool := decide (b ≠ 0)

theorem div_succ_le {a b : Int} (h0 : 0 ≤ a) (hb : 0 < b) (h : a % b ≠ 0) : a / b + 1 ≤ a := by
  have h1 := Int.mul_ediv_add_emod a b
  have h2 := Int.emod_nonneg a (b := b) (by omega)
  have h3 := Int.ediv_nonneg h0 (Int.le_of_lt hb)
  have h4 : 1 * (a / b) ≤ b * (a / b) := Int.mul_le_mul_of_nonneg_right (by omega) h3
  omega
theorem ceilN_u64 {a b : Int} (ha : U64 a) (hb : U64 b) : U64 (ceilN a b) := by
  obtain ⟨h0, h1⟩ := ha; obtain ⟨g0, g1⟩ := hb
  unfold ceilN
  split
  · exact ⟨by omega, by omega⟩
  · have h3 := Int.ediv_nonneg h0 g0
    have h4 := Int.ediv_le_self b h0
    split
    · exact ⟨h3, by omega⟩
    · rename_i hz hm
      have := div_succ_le h0 (b := b) (by omega) hm
      exact ⟨by omega, by omega⟩

theorem addN_u64 {a b : Int} (ha : U64 a) (hb : U64 b) : U64 (addN a b) := by
  obtain ⟨_, _⟩ := ha; obtain ⟨_, _⟩ := hb; unfold addN; split <;> constructor <;> omega
theorem subN_u64 {a b : Int} (ha : U64 a) (hb : U64 b) : U64 (subN a b) := by
  obtain ⟨_, _⟩ := ha; obtain ⟨_, _⟩ := hb; unfold subN; split <;> constructor <;> omega
theorem mulN_u64 {a b : Int} (ha : U64 a) (hb : U64 b) : U64 (mulN a b) := by
  obtain ⟨h1, _⟩ := ha; obtain ⟨h2, _⟩ := hb; have := Int.mul_nonneg h1 h2
  unfold mulN; split <;> constructor <;> omega

def gcdN (a b : Int) : Int := (Nat.gcd a.toNat b.toNat : Nat)
def lcmN (a b : Int) : Int := if b = 0 then 0 else mulN (a / (Nat.gcd a.toNat b.toNat : Nat)) b
def lcmB (a b : Int) : Bool := if b = 0 then false else mulB (a / (Nat.gcd a.toNat b.toNat : Nat)) b

theorem gcdN_u64 {a b : Int} (ha : U64 a) (hb : U64 b) : U64 (gcdN a b) := by
  obtain ⟨a0, a1⟩ := ha; obtain ⟨b0, b1⟩ := hb
  unfold gcdN
  refine ⟨by omega, ?_⟩
  rcases Nat.eq_zero_or_pos a.toNat with h | h
  · rw [h, Nat.gcd_zero_left]; omega
  · have := Nat.gcd_le_left b.toNat h; omega
theorem lcmN_good {a b : Int} (ha : U64 a) (h0 : 0 < a) (hb : U64 b) (h : lcmB a b = true) : U64 (lcmN a b) ∧ 0 < lcmN a b := by
  obtain ⟨a0, a1⟩ := ha; obtain ⟨b0, b1⟩ := hb
  unfold lcmB at h; unfold lcmN
  by_cases hz : b = 0
  · simp [hz] at h
  · rw [if_neg hz] at h ⊢
    unfold mulB at h; unfold mulN
    have h := of_decide_eq_true h
    rw [if_pos h]
    have hg : 0 < Nat.gcd a.toNat b.toNat := Nat.gcd_pos_of_pos_left _ (by omega)
    have hq : 0 < a / (Nat.gcd a.toNat b.toNat : Nat) := by
      refine Int.ediv_pos_of_pos_of_dvd h0 (by omega) ?_
      have := Nat.gcd_dvd_left a.toNat b.toNat
      have e : a = (a.toNat : Int) := by omega
      rw [e]; exact Int.natCast_dvd_natCast.2 this
    have := Int.mul_pos hq (show 0 < b by omega)
    exact ⟨⟨by omega, h⟩, this⟩

/-- A fold that ends at the first number that can't be joined. -/
def foldR (jN : Int → Int → Int) (jB : Int → Int → Bool) (so : Int) : List Int → Int × Bool
  | [] => (so, true)
  | z :: r => if jB so z = true then foldR jN jB (jN so z) r else (jN so z, false)

theorem foldR_nil (jN : Int → Int → Int) (jB : Int → Int → Bool) (so : Int) : foldR jN jB so [] = (so, true) := rfl
theorem foldR_yes {jN : Int → Int → Int} {jB : Int → Int → Bool} {so z : Int} {r : List Int} (h : jB so z = true) : foldR jN jB so (z :: r) = foldR jN jB (jN so z) r := by
  simp [foldR, h]
theorem foldR_no {jN : Int → Int → Int} {jB : Int → Int → Bool} {so z : Int} {r : List Int} (h : jB so z = false) : foldR jN jB so (z :: r) = (jN so z, false) := by
  simp [foldR, h]
theorem drop_cons (zs : List Int) (k : Nat) (h : k < zs.length) : zs.drop k = zs.getD k 0 :: zs.drop (k + 1) := by
  rw [List.drop_eq_getElem_cons h, List.getD_eq_getElem?_getD, List.getElem?_eq_getElem h]; rfl

/-- What a slice's cells hold: blocks below B alone. -/
def Reads (w : World) (B : Nat) (ao : Option Addr) (zs : List Int) : Prop :=
  zs = [] ∨ ∃ b off, ao = some ⟨b, off, none⟩ ∧ b < B ∧ ∀ k, k < zs.length → w.cell? ⟨b, off + k, none⟩ = some (.int .u64 (zs.getD k 0))

theorem Reads.below {w w' : World} {B : Nat} {ao : Option Addr} {zs : List Int} (h : Reads w B ao zs) (hb : Below B w w') : Reads w' B ao zs := by
  rcases h with h | ⟨b, off, h1, h2, h3⟩
  · exact .inl h
  · exact .inr ⟨b, off, h1, h2, fun k hk => by rw [hb.cell (p := ⟨b, off + k, none⟩) h2]; exact h3 k hk⟩

/-- What is known behind one round: the counter was written, then a call made blocks of its own. -/
theorem each_step {w wr w' : World} {B pi pl : Nat} {u v x : Value} (hsi : pi < w.heap.size) (hsl : pl < w.heap.size) (hsz : w.heap.size ≤ wr.heap.size)
    (hci : wr.cell? ⟨pi, 0, none⟩ = some x) (hcl : wr.cell? ⟨pl, 0, none⟩ = some v) (hfi : wr.frozen? ⟨pi, 0, none⟩ = false) (hpl : pl ≠ pi) (hbi : B ≤ pi) (hbel : Below B w wr)
    (hw : Below (wr.setCell ⟨pi, 0, none⟩ u).heap.size (wr.setCell ⟨pi, 0, none⟩ u) w') :
    w'.cell? ⟨pi, 0, none⟩ = some u ∧ w'.cell? ⟨pl, 0, none⟩ = some v ∧ w'.frozen? ⟨pi, 0, none⟩ = false ∧ w.heap.size ≤ w'.heap.size ∧ Below B w w' := by
  have hs : (wr.setCell ⟨pi, 0, none⟩ u).heap.size = wr.heap.size := by simp
  have hz := hw.size
  have hB0 := hbel.size
  refine ⟨?_, ?_, ?_, by omega, ?_⟩
  · rw [hw.cell (p := ⟨pi, 0, none⟩) (by rw [hs]; show pi < _; omega), World.cell?_setCell_same _ _ _ hci]
  · rw [hw.cell (p := ⟨pl, 0, none⟩) (by rw [hs]; show pl < _; omega), World.cell?_setCell_far _ _ _ _ (by show pi ≠ pl; omega), hcl]
  · rw [hw.frozen (p := ⟨pi, 0, none⟩) (by rw [hs]; show pi < _; omega)]; simpa using hfi
  · exact (hbel.setCell (p := ⟨pi, 0, none⟩) hbi u).trans (hw.mono (by rw [hs]; omega))

end Go.Proofs.Ytpmllljlhopgbaa

/-
  The walks over the document's own answers, the simple ones.
-/
namespace Go.Proofs.Ytpmllljlhopgbaa
open Go.RowKit

theorem bcell {W w1 : World} (hb : Below W.heap.size W w1) : (∀ b o, b < W.heap.size → w1.cell? ⟨b, o, none⟩ = W.cell? ⟨b, o, none⟩) ∧ (∀ b o, b < W.heap.size → w1.frozen? ⟨b, o, none⟩ = W.frozen? ⟨b, o, none⟩) :=
  ⟨fun b o h => hb.cell (p := ⟨b, o, none⟩) h, fun b o h => hb.frozen (p := ⟨b, o, none⟩) h⟩

/-- A cell that was there reads as it did. -/
theorem l_kept_cell {w w' : World} (hb : Below w.heap.size w w') {b o : Nat} {v : Value} (h : w.cell? ⟨b, o, none⟩ = some v) : w'.cell? ⟨b, o, none⟩ = some v := by
  rw [hb.cell (p := ⟨b, o, none⟩) (block_of_cell h)]; exact h
theorem kept_frozen {w w' : World} (hb : Below w.heap.size w w') {b o : Nat} {v : Value} (h : w.cell? ⟨b, o, none⟩ = some v) (hf : w.frozen? ⟨b, o, none⟩ = false) : w'.frozen? ⟨b, o, none⟩ = false := by
  rw [hb.frozen (p := ⟨b, o, none⟩) (block_of_cell h)]; exact hf

/-- Both fields of a block of two are written. -/
theorem two_set {w : World} {b : Nat} {x y : Value} (u v : Value) (h0 : w.cell? ⟨b, 0, none⟩ = some x) (h1 : w.cell? ⟨b, 1, none⟩ = some y) :
    ((w.setCell ⟨b, 0, none⟩ u).setCell ⟨b, 1, none⟩ v).cell? ⟨b, 0, none⟩ = some u ∧ ((w.setCell ⟨b, 0, none⟩ u).setCell ⟨b, 1, none⟩ v).cell? ⟨b, 1, none⟩ = some v ∧
    (∀ b' o, b' ≠ b → ((w.setCell ⟨b, 0, none⟩ u).setCell ⟨b, 1, none⟩ v).cell? ⟨b', o, none⟩ = w.cell? ⟨b', o, none⟩) ∧
    (∀ a, ((w.setCell ⟨b, 0, none⟩ u).setCell ⟨b, 1, none⟩ v).frozen? a = w.frozen? a) ∧
    ((w.setCell ⟨b, 0, none⟩ u).setCell ⟨b, 1, none⟩ v).heap.size = w.heap.size ∧
    ∀ B W, Below B W w → B ≤ b → Below B W ((w.setCell ⟨b, 0, none⟩ u).setCell ⟨b, 1, none⟩ v) := by
  refine ⟨?_, ?_, ?_, ?_, ?_, ?_⟩
  · rw [World.cell?_setCell_other _ _ _ _ (by simp), World.cell?_setCell_same _ _ _ h0]
  · have : (w.setCell ⟨b, 0, none⟩ u).cell? ⟨b, 1, none⟩ = some y := by rw [World.cell?_setCell_other _ _ _ _ (by simp)]; exact h1
    rw [World.cell?_setCell_same _ _ _ this]
  · intro b' o hne
    rw [World.cell?_setCell_far _ _ _ _ (by simp; omega), World.cell?_setCell_far _ _ _ _ (by simp; omega)]
  · intro a; simp
  · simp
  · intro B W h hB
    exact (h.setCell (p := ⟨b, 0, none⟩) hB u).setCell (p := ⟨b, 1, none⟩) hB v

end Go.Proofs.Ytpmllljlhopgbaa

/-
  What every walk of this stage asks of worlds.
-/
namespace Go.Proofs.Ytpmllljlhopgbaa
open Go.RowKit Go.Maps

theorem bw_alloc {W w : World} (h : Below W.heap.size W w) (o : Obj) : Below W.heap.size W (w.alloc o) := h.alloc h.size o
theorem bw_drew {W w : World} (h : Below W.heap.size W w) : Below W.heap.size W w.drew := h.drew
theorem kept_objB {B : Nat} {w w' : World} (hb : Below B w w') {b : Nat} {o : Obj} (hl : b < B) (h : w.heap[b]? = some o) : w'.heap[b]? = some o := (hb.block b hl).trans h
theorem two_boxes (W : World) {N : Nat} (hN : W.heap.size = N) (c1 c2 : Obj) : ((W.alloc c1).alloc c2).heap[N]? = some c1 ∧ ((W.alloc c1).alloc c2).heap[N + 1]? = some c2 := by
  subst hN
  refine ⟨kept_obj ((Below.refl _ _).alloc (Nat.le_refl _) _) (heap_alloc_new W _), ?_⟩
  have := heap_alloc_new (W.alloc c1) c2
  rwa [World.size_alloc] at this
theorem Calls.upV {P : Program} {f : FuncId} {args : Array Value} {V w : World} {R : Ending → World → Prop} (h : Below V.heap.size V w) (c : Calls P f args w fun e w' => R e w' ∧ Below w.heap.size w w') : Calls P f args w fun e w' => R e w' ∧ Below w.heap.size w w' ∧ Below V.heap.size V w' :=
  c.mono fun _ _ ⟨h1, h2⟩ => ⟨h1, h2, below_up h h2⟩
end Go.Proofs.Ytpmllljlhopgbaa

/-
  The walks over the document's check of demands, of times, and over how many jobs are due.
-/
namespace Go.Proofs.Ytpmllljlhopgbaa
open Go.RowKit Go.Maps

theorem okL_take {l : List Dm} {k : Nat} {x : Dm} (h : (l.take k).all okD = true) (hx : l[k]? = some x) (ho : okD x = true) : (l.take (k + 1)).all okD = true := by
  rw [List.take_add_one, hx, List.all_append, h]
  simp [ho]
theorem okL_not {l : List Dm} {x : Dm} (hx : x ∈ l) (ho : ¬ x.ok) : okL l = false := by
  cases e : okL l with
  | false => rfl
  | true => exact absurd ((okL_iff.1 e).1 x hx) ho
theorem okL_end {l : List Dm} (h : (l.take l.length).all okD = true) : okL l = decide (l.length ≤ 64) := by
  rw [List.take_of_length_le (Nat.le_refl _)] at h
  unfold okL
  rw [h, Bool.true_and]

def timeB (t : Int) : Bool := decide (0 ≤ t) && decide (t ≤ 2199023255552)
theorem timeB_iff {t : Int} : timeB t = true ↔ timeOk t := by
  unfold timeB timeOk; rw [Bool.and_eq_true, decide_eq_true_eq, decide_eq_true_eq]
theorem jobs_top {x : Dm} (h : x.ok) {t : Int} (ht : t ≤ 2199023255552) : jobsD x t ≤ 2199023255553 := by
  have h1 := h.d1; have h2 := h.d2
  unfold jobsD
  split
  · omega
  · have : (t - x.d) / x.t ≤ t - x.d := Int.ediv_le_self _ (by omega)
    omega
end Go.Proofs.Ytpmllljlhopgbaa

/-
  The walks over the demands that plain numbers mean, and over a row that is cut.
-/
namespace Go.Proofs.Ytpmllljlhopgbaa
open Go.RowKit Go.Maps

/-- A row of triples. -/
structure Trips (W : World) (a : Option Addr) (n : Nat) (l : Nat → Int × Int × Int) : Prop where
  small : (n : Int) ≤ 9223372036854775807
  at_ : ∀ k, k < n → ∃ g o, a = some ⟨g, o, none⟩ ∧ W.cell? ⟨g, o + k * 3, none⟩ = some (.int .i64 (l k).1) ∧ W.cell? ⟨g, o + k * 3 + 1, none⟩ = some (.int .i64 (l k).2.1) ∧ W.cell? ⟨g, o + k * 3 + 2, none⟩ = some (.int .i64 (l k).2.2)
theorem Trips.below {w w' : World} {a : Option Addr} {n : Nat} {l : Nat → Int × Int × Int} (h : Trips w a n l) (hb : Below w.heap.size w w') : Trips w' a n l :=
  ⟨h.small, fun k hk => by obtain ⟨g, o, e, c0, c1, c2⟩ := h.at_ k hk; exact ⟨g, o, e, kept_cell hb c0, kept_cell hb c1, kept_cell hb c2⟩⟩
/-- What a demand is that numbers mean. -/
structure GoodD (x : Dm) : Prop where
  per : x.t = 4 ∨ x.t = 5 ∨ x.t = 6 ∨ x.t = 8 ∨ x.t = 10 ∨ x.t = 12 ∨ x.t = 20 ∨ x.t = 24
  d1 : 1 ≤ x.d
  d2 : x.d ≤ x.t
  c0 : 0 ≤ x.c
  c1 : x.c ≤ x.d
theorem GoodD.ok {x : Dm} (h : GoodD x) : x.ok := by
  have := h.per; have := h.d2; have := h.c1
  exact ⟨h.c0, by omega, h.d1, h.d2, by omega⟩
def AllGood (M : List Dm) : Prop := ∀ x ∈ M, GoodD x
theorem AllGood.ok {M : List Dm} (h : AllGood M) : ∀ x ∈ M, x.ok := fun x hx => (h x hx).ok
theorem AllGood.more {M : List Dm} {x : Dm} (h : AllGood M) (hx : GoodD x) : AllGood (M ++ [x]) := fun y hy => (List.mem_append.1 hy).elim (h y) (fun z => by rw [List.mem_singleton.1 z]; exact hx)
theorem and_small (n : Int) (m : Nat) (hm : m < 1000) : ∃ j : Nat, j ≤ m ∧ bits .and .i64 n (m : Int) = (j : Int) := by
  have hm2 : (BitVec.ofInt 64 (m : Int)).toNat = m := by
    rw [BitVec.toNat_ofInt]; omega
  have h : (BitVec.ofInt 64 n &&& BitVec.ofInt 64 (m : Int)).toNat ≤ m := by
    rw [BitVec.toNat_and, hm2]; exact Nat.and_le_right
  refine ⟨_, h, ?_⟩
  show IntKind.i64.wrap _ = _
  exact IntWalk.i64_in _ (by show _ ∧ ((BitVec.ofInt 64 n &&& BitVec.ofInt 64 (m : Int)).toNat : Int) ≤ _; omega)
theorem and7 (n : Int) : ∃ j : Nat, j < 8 ∧ bits .and .i64 n 7 = (j : Int) := by
  obtain ⟨j, h1, h2⟩ := and_small n 7 (by omega)
  exact ⟨j, by omega, h2⟩
def per8 : Array Value := #[.int .i64 4, .int .i64 5, .int .i64 6, .int .i64 8, .int .i64 10, .int .i64 12, .int .i64 20, .int .i64 24]
theorem period (j : Nat) (hj : j < 8) : ∃ t : Int, per8[j]? = some (.int .i64 t) ∧ (t = 4 ∨ t = 5 ∨ t = 6 ∨ t = 8 ∨ t = 10 ∨ t = 12 ∨ t = 20 ∨ t = 24) := by
  match j, hj with
  | 0, _ => exact ⟨4, rfl, by omega⟩
  | 1, _ => exact ⟨5, rfl, by omega⟩
  | 2, _ => exact ⟨6, rfl, by omega⟩
  | 3, _ => exact ⟨8, rfl, by omega⟩
  | 4, _ => exact ⟨10, rfl, by omega⟩
  | 5, _ => exact ⟨12, rfl, by omega⟩
  | 6, _ => exact ⟨20, rfl, by omega⟩
  | 7, _ => exact ⟨24, rfl, by omega⟩
theorem dm_new (w : World) (x : Dm) (T : TypeId) : GView (w.alloc (.cells #[.int .i64 x.c, .int .i64 x.d, .int .i64 x.t] T)) (some ⟨w.heap.size, 0, none⟩) [x] :=
  GView.of_at ⟨by rw [World.cell?_alloc_new]; rfl, by rw [World.cell?_alloc_new]; rfl, by rw [World.cell?_alloc_new]; rfl⟩
/-- The boxes: the periods, a row of one's own. -/
structure MdAt (w : World) (v : Value) (M : List Dm) (V : World) : Prop where
  low : Below w.heap.size w V
  per : V.heap[w.heap.size]? = some (.cells per8 37 (0, 0))
  own : OwnG V (w.heap.size + 1) v M
theorem MdAt.sz {w V : World} {v : Value} {M : List Dm} (h : MdAt w v M V) : w.heap.size + 1 ≤ V.heap.size := lt_of_block h.per
theorem MdAt.below {w V V' : World} {v : Value} {M : List Dm} (h : MdAt w v M V) (hb : Below V.heap.size V V') : MdAt w v M V' := ⟨below_up h.low hb, kept_obj hb h.per, h.own.below hb⟩
theorem MdAt.push {w V V' : World} {v v' : Value} {M M' : List Dm} (h : MdAt w v M V) (hg : V.grownBy V' v.ownBlock) (ho : OwnG V' (w.heap.size + 1) v' M') : MdAt w v' M' V' := by
  have hb : Below (w.heap.size + 1) V V' := (Below.refl _ V).grown hg h.sz (fun k hk => (h.own.new hk).1)
  exact ⟨h.low.trans (hb.mono (Nat.le_succ _)), kept_objB hb (Nat.lt_succ_self _) h.per, ho⟩

set_option maxRecDepth 100000 in
set_option maxHeartbeats 8000000 in
theorem made11_any {w : World} {a : Option Addr} {n : Nat} {l : Nat → Int × Int × Int} (hn : Trips w a n l) (cap : Nat) :
    Calls Try.prog 8 #[.slice a n cap] w fun e w' => (∃ (a' : Option Addr) (N c' : Nat) (M : List Dm), e = .returned (.slice a' N c') ∧ GView w' a' M ∧ M.length = N ∧ N = min n 6 ∧ N ≤ c' ∧ (c' : Int) ≤ 9223372036854775807 ∧ AllGood M) ∧ Below w.heap.size w w' := by
  have HN := Lib.hid hn
  have hn9 := hn.small
  clear hn
  obtain ⟨m, hm⟩ : ∃ m, min n 6 = m := ⟨_, rfl⟩
  have HM := Lib.hid hm
  have hm1 : m ≤ n := by omega
  have hm2 : m ≤ 6 := by omega
  have hor : m = n ∨ (m = 6 ∧ 6 < n) := by omega
  have HG : Hid (min n 6 = m) := hm
  clear hm
  go_enter Try.func8, Try.ntmps8
  go_upto_region 2 with fail
  refine gen_world (MdAt w (.slice none 0 0) []) ⟨(by repeat (first | exact Below.refl _ _ | (with_reducible assumption) | refine bw_alloc ?_ _ | refine bw_drew ?_)), heap_alloc_new w _, World.ownsRow_nil _ _ _ _⟩ ?_
  intro V0 hv0
  have HV0 := Lib.hid hv0
  clear hv0
  go_wp2
  go_loopw [4, 5] (fun g u wr => ∃ (k : Nat) (a' : Option Addr) (c' : Nat) (M : List Dm), k ≤ m ∧ u = .int .i64 k ∧ g = .slice a' k c' ∧ Hid (MdAt w (.slice a' k c') M wr) ∧ Hid (M.length = k) ∧ Hid (AllGood M)) (fun _ u _ => (m - intOf u).toNat)
  case atStart => exact ⟨0, none, 0, [], Nat.zero_le _, rfl, rfl, HV0, rfl, fun x hx => by cases hx⟩
  case round =>
    obtain ⟨k, a', c', M, hk, rfl, rfl, HP, HL, HA⟩ := hrel
    clear HV0
    by_cases hlt : k < m
    · obtain ⟨g, o, rfl, c0, c1, c2⟩ := (HN.out.below HP.out.low).at_ k (by omega)
      have hk1 : (k : Int) < (n : Int) := by omega
      have hk2 : (k : Int) < 6 := by omega
      have hk0 : (0 : Int) ≤ (k : Int) := by omega
      obtain ⟨q, hq⟩ : ∃ q, l k = q := ⟨_, rfl⟩
      rw [hq] at c0 c1 c2
      clear hq
      obtain ⟨q1, q2, q3⟩ := q
      dsimp only at c0 c1 c2
      obtain ⟨j, hj, hband⟩ := and7 q3
      obtain ⟨T, hT, hTs⟩ := period j hj
      have p0 : wr.cell? ⟨w.heap.size, j, none⟩ = some (.int .i64 T) := by rw [blk_cell HP.out.per]; exact hT
      have hj0 : (0 : Int) ≤ (j : Int) := by omega
      have hj8 : (j : Int) < 8 := by omega
      have hT4 : 4 ≤ T ∧ T ≤ 24 := by omega
      have z1 : (T == 0) = false := by rw [beq_eq_false_iff_ne]; omega
      have z2 : ¬ T = 0 := by omega
      have r1a := Int.tmod_lt_of_pos q2 (show 0 < T by omega)
      have r1b := Int.lt_tmod_of_pos q2 (show 0 < T by omega)
      obtain ⟨R1, hR1⟩ : ∃ R, q2.tmod T = R := ⟨_, rfl⟩
      rw [hR1] at r1a r1b
      have e1 : IntKind.i64.wrap (R1 + T) = R1 + T := IntWalk.i64_in _ (by omega)
      have d1a := Int.emod_nonneg (R1 + T) (show T ≠ 0 by omega)
      have d1b := Int.emod_lt_of_pos (R1 + T) (show 0 < T by omega)
      have e1t : (R1 + T).tmod T = (R1 + T) % T := Int.tmod_eq_emod_of_nonneg (by omega)
      obtain ⟨D0, hD0⟩ : ∃ D, (R1 + T) % T = D := ⟨_, rfl⟩
      rw [hD0] at d1a d1b e1t
      have e2 : IntKind.i64.wrap (1 + D0) = 1 + D0 := IntWalk.i64_in _ (by omega)
      obtain ⟨D, hD⟩ : ∃ D, 1 + D0 = D := ⟨_, rfl⟩
      rw [hD] at e2
      have hDD : 1 ≤ D ∧ D ≤ T := by omega
      have e3 : IntKind.i64.wrap (D + 1) = D + 1 := IntWalk.i64_in _ (by omega)
      obtain ⟨D2, hD2⟩ : ∃ D2, D + 1 = D2 := ⟨_, rfl⟩
      rw [hD2] at e3
      have z3 : (D2 == 0) = false := by rw [beq_eq_false_iff_ne]; omega
      have z4 : ¬ D2 = 0 := by omega
      have r2a := Int.tmod_lt_of_pos q1 (show 0 < D2 by omega)
      have r2b := Int.lt_tmod_of_pos q1 (show 0 < D2 by omega)
      obtain ⟨R2, hR2⟩ : ∃ R, q1.tmod D2 = R := ⟨_, rfl⟩
      rw [hR2] at r2a r2b
      have e4 : IntKind.i64.wrap (R2 + D) = R2 + D := IntWalk.i64_in _ (by omega)
      have e5 : IntKind.i64.wrap (R2 + D + 1) = R2 + D + 1 := IntWalk.i64_in _ (by omega)
      have c1a := Int.emod_nonneg (R2 + D + 1) (show D2 ≠ 0 by omega)
      have c1b := Int.emod_lt_of_pos (R2 + D + 1) (show 0 < D2 by omega)
      have e5t : (R2 + D + 1).tmod D2 = (R2 + D + 1) % D2 := Int.tmod_eq_emod_of_nonneg (by omega)
      obtain ⟨C, hC⟩ : ∃ C, (R2 + D + 1) % D2 = C := ⟨_, rfl⟩
      rw [hC] at c1a c1b e5t
      have HGD : Hid (GoodD ⟨C, D, T⟩) := ⟨hTs, by show 1 ≤ D; omega, by show D ≤ T; omega, c1a, by show C ≤ D; omega⟩
      have HAA := Lib.hid (HA.out.more HGD.out)
      have HLL : Hid ((M ++ [(⟨C, D, T⟩ : Dm)]).length = k + 1) := by show _ = _; rw [List.length_append, HL.out]; rfl
      have HSM : Hid (M.length + 1 ≤ 1000000) := by have := HL.out; show _ ≤ _; omega
      have HNN : Hid (M.length + 1 = k + 1) := by have := HL.out; show _ = _; omega
      have u1 : (1 : Int) + D0 = D := hD
      clear hT hTs hj hT4 r1a r1b d1a d1b hDD r2a r2b c1a c1b HGD HA HL
      clear hD
      go_wp2_with (at_builtin; refine wp_gappend (m := 1) (l := [(⟨C, D, T⟩ : Dm)]) rfl _ _ rfl rfl rfl ((HP.out.below (by repeat (first | exact Below.refl _ _ | (with_reducible assumption) | refine bw_alloc ?_ _ | refine bw_drew ?_))).own) (HP.out.below (by repeat (first | exact Below.refl _ _ | (with_reducible assumption) | refine bw_alloc ?_ _ | refine bw_drew ?_))).sz (dm_new wr ⟨C, D, T⟩ _) rfl HSM.out (fun z => by cases z) (k + 1) HNN.out ?_; intro a6 c6 w6 o6 n6 l6; have HP6 := Lib.hid ((HP.out.below (by repeat (first | exact Below.refl _ _ | (with_reducible assumption) | refine bw_alloc ?_ _ | refine bw_drew ?_))).push n6 o6); clear o6 n6 l6)
      go_roundw
      case rel => exact ⟨k + 1, a6, c6, _, by omega, by go_num, rfl, HP6, HLL, HAA⟩
      case measure => simp [intOf]; omega
    · obtain rfl : m = k := by omega
      have HO := Lib.hid HP.out.own.slice
      have HQ : Hid (∀ w', w' = wr → (∃ (a9 : Option Addr) (N c9 : Nat) (M9 : List Dm), Ending.returned (.slice a' m c') = .returned (.slice a9 N c9) ∧ GView w' a9 M9 ∧ M9.length = N ∧ N = min n 6 ∧ N ≤ c9 ∧ (c9 : Int) ≤ 9223372036854775807 ∧ AllGood M9) ∧ Below w.heap.size w w') := by
        rintro w' rfl
        obtain ⟨a9, c9, e9, hv, h1, h2⟩ := HO.out
        obtain ⟨rfl, hN, rfl⟩ := Value.slice.inj e9
        exact ⟨⟨_, _, _, M, rfl, hv, HL.out, HG.out.symm, by rw [hN]; exact h1, h2, HA.out⟩, HP.out.low⟩
      clear HG HM
      rcases hor with rfl | ⟨rfl, hh⟩
      · go_wp2
        go_ret
        exact HQ.out _ rfl
      · have h66 : (6 : Int) < (n : Int) := by omega
        go_wp2
        go_ret
        exact HQ.out _ rfl
end Go.Proofs.Ytpmllljlhopgbaa
