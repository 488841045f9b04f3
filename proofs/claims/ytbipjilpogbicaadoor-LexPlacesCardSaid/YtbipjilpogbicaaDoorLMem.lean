/-
  What rows of numbers, words and rows of words hold, in a world and in later ones.
-/
import Derived.Test.YtbipjilpogbicaaDoorChecked
import Derived.WalkKit
import Derived.WalkSpells
import Derived.WalkLawsBesides
import Derived.Lib.Hide
import Derived.Lib.SmallJoins
import Derived.Below
import Derived.IntWalk
import Derived.WalkMore
import Derived.Deep.QuietTactic
import Derived.Deep.RegionLaw
import Derived.BigQuiet
import Derived.BigRegion
import Derived.RegionTactic
import Derived.Maps.AppendAt
import Derived.Deep.AppendSrc
import Derived.Deep.DeepCutAuto
import Derived.Deep.LoopGhost
import Derived.Deep.CutRange
import Derived.Deep.CutBlock
import Derived.Deep.Cut
import Derived.Tactics2
import Derived.OwnWalk
import Derived.Maps.OwnSet
import Derived.Laws.EntriesVeiled
import Derived.Deep.RegionWith
import Derived.Deep.RegionHeld3
import Derived.StillTailTactics
namespace Go.Proofs.YtbipjilpogbicaaDoor
open Go.RowKit Go.Maps

theorem block_of_cell {w : World} {a : Addr} {v : Value} (h : w.cell? a = some v) : a.block < w.heap.size := by
  rcases Nat.lt_or_ge a.block w.heap.size with g | g
  · exact g
  · simp [World.cell?, Array.getElem?_eq_none g] at h
theorem lt_of_block {w : World} {b : Nat} {o : Obj} (h : w.heap[b]? = some o) : b < w.heap.size := (Array.getElem?_eq_some_iff.1 h).1
theorem addr_at (g o t : Nat) : (⟨g, o, none⟩ : Addr).add t = ⟨g, o + t, none⟩ := by
  unfold Addr.add; split <;> simp_all
theorem kept_cell {w w' : World} (hb : Below w.heap.size w w') {b o : Nat} {v : Value} (h : w.cell? ⟨b, o, none⟩ = some v) : w'.cell? ⟨b, o, none⟩ = some v := by
  rw [hb.cell (p := ⟨b, o, none⟩) (block_of_cell h)]; exact h
theorem kept_obj {w w' : World} (hb : Below w.heap.size w w') {b : Nat} {o : Obj} (h : w.heap[b]? = some o) : w'.heap[b]? = some o := (hb.block b (lt_of_block h)).trans h
/-- The walk goes on in a world of which only so much is known. -/
theorem gen_world {P : Program} {c : Code} {Q : Exit → Act → World → Prop} {a : Act} {w : World} (S : World → Prop) (h : S w) (k : ∀ w', S w' → c.wp P Q a w') : c.wp P Q a w := k w h
theorem blk_set {w : World} {b o : Nat} {cs : Array Value} {T : TypeId} {fr : Nat × Nat} (h : w.heap[b]? = some (.cells cs T fr)) (v : Value) : (w.setCell ⟨b, o, none⟩ v).heap[b]? = some (.cells (cs.setIfInBounds o v) T fr) := by
  simp [World.setCell, Array.getElem?_modify, h]
theorem blk_far {w : World} {b : Nat} {a : Addr} (hne : b ≠ a.block) (v : Value) : (w.setCell a v).heap[b]? = w.heap[b]? := Below.heap_setCell w a v b hne
theorem blk_cell {w : World} {b : Nat} {cs : Array Value} {T : TypeId} {fr : Nat × Nat} (h : w.heap[b]? = some (.cells cs T fr)) (o : Nat) : w.cell? ⟨b, o, none⟩ = cs[o]? := cell_of_row w b o cs T fr h
theorem blk_free {w : World} {b : Nat} {cs : Array Value} {T : TypeId} (h : w.heap[b]? = some (.cells cs T (0, 0))) (o : Nat) : w.frozen? ⟨b, o, none⟩ = false := by
  simp [World.frozen?, h]
theorem below_same {B : Nat} {W w w' : World} (h : Below B W w) (e : w'.heap = w.heap) (e1 : w'.os = w.os) (e2 : w'.tape = w.tape) (e3 : w'.output = w.output) : Below B W w' :=
  ⟨e1.trans h.os, e2.trans h.tape, e3.trans h.output, by rw [e]; exact h.size, fun k hk => by rw [e]; exact h.block k hk⟩
theorem bw_alloc {W w : World} (h : Below W.heap.size W w) (o : Obj) : Below W.heap.size W (w.alloc o) := h.alloc h.size o
theorem bw_drew {W w : World} (h : Below W.heap.size W w) : Below W.heap.size W w.drew := h.drew
theorem below_up {W w w' : World} (h : Below W.heap.size W w) (k : Below w.heap.size w w') : Below W.heap.size W w' := h.trans (k.mono h.size)

/-! ### rows of numbers -/
/-- A row of numbers that can be read. -/
def Ints (w : World) (a : Option Addr) (l : List Int) : Prop :=
  l = [] ∨ ∃ g o, a = some ⟨g, o, none⟩ ∧ ∀ (j : Nat) (u : Int), l[j]? = some u → w.cell? ⟨g, o + j, none⟩ = some (.int .i64 u)
theorem Ints.nil {w : World} {a : Option Addr} : Ints w a [] := .inl rfl
theorem Ints.at_ {w : World} {a : Option Addr} {l : List Int} (h : Ints w a l) {k : Nat} {x : Int} (hx : l[k]? = some x) : ∃ g o, a = some ⟨g, o, none⟩ ∧ w.cell? ⟨g, o + k, none⟩ = some (.int .i64 x) := by
  rcases h with rfl | ⟨g, o, rfl, hc⟩
  · simp at hx
  · exact ⟨g, o, rfl, hc _ _ hx⟩
theorem Ints.below {w w' : World} {a : Option Addr} {l : List Int} (h : Ints w a l) (hb : Below w.heap.size w w') : Ints w' a l := by
  rcases h with rfl | ⟨g, o, rfl, hc⟩
  · exact .inl rfl
  · exact .inr ⟨g, o, rfl, fun j u hj => kept_cell hb (hc j u hj)⟩
theorem Ints.take {w : World} {a : Option Addr} {l : List Int} (h : Ints w a l) (k : Nat) : Ints w a (l.take k) := by
  rcases h with rfl | ⟨g, o, rfl, hc⟩
  · left; simp
  · refine .inr ⟨g, o, rfl, fun j u hj => ?_⟩
    rw [List.getElem?_take] at hj
    split at hj
    · exact hc j u hj
    · cases hj
theorem Ints.nothing {w : World} {l : List Int} (h : Ints w none l) : l = [] := by
  rcases h with rfl | ⟨g, o, e, _⟩
  · rfl
  · cases e
theorem Ints.of_block {w : World} {g : Nat} {l : List Int} {cs : Array Value} {T : TypeId} {fr : Nat × Nat} (h : w.heap[g]? = some (.cells cs T fr)) (hl : ∀ (j : Nat) (u : Int), l[j]? = some u → cs[j]? = some (.int .i64 u)) : Ints w (some ⟨g, 0, none⟩) l :=
  .inr ⟨g, 0, rfl, fun j u hj => by rw [Nat.zero_add, blk_cell h]; exact hl j u hj⟩
def I64 (x : Int) : Prop := -9223372036854775808 ≤ x ∧ x ≤ 9223372036854775807
theorem i64_of_wf {x : Int} (h : (Lit.int .i64 x).wf = true) : I64 x := by
  simp [Lit.wf, IntKind.min, IntKind.max, IntKind.signed, IntKind.bits] at h
  unfold I64; omega

/-! ### words -/
/-- A word: where it begins, on which line, what it is. -/
structure WV where
  at_ : Int
  ln : Int
  tx : ByteArray
deriving DecidableEq
def WV.cells (x : WV) : List Value := [.int .i64 x.at_, .int .i64 x.ln, .string x.tx]
def WV.val (x : WV) : Value := .agg #[.int .i64 x.at_, .int .i64 x.ln, .string x.tx]
/-- The cells of a row of words. -/
def wflat : List WV → List Value
  | [] => []
  | x :: l => x.cells ++ wflat l
theorem wcells_len (x : WV) : x.cells.length = 3 := rfl
theorem wflat_len : ∀ l : List WV, (wflat l).length = l.length * 3
  | [] => rfl
  | x :: l => by simp [wflat, wflat_len l, wcells_len]; omega
theorem wflat_append : ∀ l m : List WV, wflat (l ++ m) = wflat l ++ wflat m
  | [], _ => rfl
  | x :: l, m => by simp [wflat, wflat_append l m]
theorem wflat_at : ∀ (l : List WV) (k : Nat) (x : WV), l[k]? = some x → ∀ i, i < 3 → (wflat l)[k * 3 + i]? = x.cells[i]?
  | [], k, x, h => by simp at h
  | y :: l, 0, x, h => by
    simp at h; subst h
    intro i hi
    rw [Nat.zero_mul, Nat.zero_add, wflat, List.getElem?_append_left (by rw [wcells_len]; exact hi)]
  | y :: l, k + 1, x, h => by
    intro i hi
    have := wflat_at l k x (by simpa using h) i hi
    rw [show (k + 1) * 3 + i = 3 + (k * 3 + i) by omega, wflat, List.getElem?_append_right (by rw [wcells_len]; omega), wcells_len, ← this]
    congr 1; omega
theorem wflat_one : ∀ (l : List WV), ∀ u ∈ wflat l, u.oneCell' = true
  | [], u, h => by simp [wflat] at h
  | x :: l, u, h => by
    rcases List.mem_append.1 h with h | h
    · simp [WV.cells] at h
      rcases h with rfl | rfl | rfl <;> rfl
    · exact wflat_one l u h
theorem wflat_drop : ∀ (k : Nat) (l : List WV), wflat (l.drop k) = (wflat l).drop (k * 3)
  | 0, l => by simp
  | k + 1, [] => by simp [wflat]
  | k + 1, x :: l => by
    rw [List.drop_succ_cons, wflat_drop k l, wflat, List.drop_append, show (k + 1) * 3 = 3 + k * 3 by omega]
    simp [wcells_len]
theorem wflat_take : ∀ (k : Nat) (l : List WV), wflat (l.take k) = (wflat l).take (k * 3)
  | 0, l => by simp [wflat]
  | k + 1, [] => by simp [wflat]
  | k + 1, x :: l => by
    rw [List.take_succ_cons, wflat, wflat, wflat_take k l, List.take_append, show (k + 1) * 3 = 3 + k * 3 by omega]
    simp [wcells_len]
    rw [List.take_of_length_le (by rw [wcells_len]; omega)]

/-- The cells of one word, from a place on. -/
structure WAt (w : World) (g o : Nat) (x : WV) : Prop where
  c0 : w.cell? ⟨g, o, none⟩ = some (.int .i64 x.at_)
  c1 : w.cell? ⟨g, o + 1, none⟩ = some (.int .i64 x.ln)
  c2 : w.cell? ⟨g, o + 2, none⟩ = some (.string x.tx)
theorem WAt.below {w w' : World} {g o : Nat} {x : WV} (h : WAt w g o x) (hb : Below w.heap.size w w') : WAt w' g o x :=
  ⟨kept_cell hb h.c0, kept_cell hb h.c1, kept_cell hb h.c2⟩
/-- A row of words that can be read. -/
def WView (w : World) (a : Option Addr) (l : List WV) : Prop :=
  l = [] ∨ ∃ g o, a = some ⟨g, o, none⟩ ∧ ∀ j u, (wflat l)[j]? = some u → w.cell? ⟨g, o + j, none⟩ = some u
theorem WView.nil {w : World} {a : Option Addr} : WView w a [] := .inl rfl
theorem WView.at_ {w : World} {a : Option Addr} {l : List WV} (h : WView w a l) {k : Nat} {x : WV} (hx : l[k]? = some x) : ∃ g o, a = some ⟨g, o, none⟩ ∧ WAt w g (o + k * 3) x := by
  rcases h with rfl | ⟨g, o, rfl, hc⟩
  · simp at hx
  · have f := wflat_at l k x hx
    refine ⟨g, o, rfl, ⟨?_, ?_, ?_⟩⟩
    · exact hc _ _ (f 0 (by omega))
    · exact hc _ _ (f 1 (by omega))
    · exact hc _ _ (f 2 (by omega))
theorem WView.below {w w' : World} {a : Option Addr} {l : List WV} (h : WView w a l) (hb : Below w.heap.size w w') : WView w' a l := by
  rcases h with rfl | ⟨g, o, rfl, hc⟩
  · exact .inl rfl
  · exact .inr ⟨g, o, rfl, fun j u hj => kept_cell hb (hc j u hj)⟩
theorem WView.drop {w : World} {g o : Nat} {l : List WV} (h : WView w (some ⟨g, o, none⟩) l) (k : Nat) : WView w (some ⟨g, o + k * 3, none⟩) (l.drop k) := by
  rcases h with rfl | ⟨g', o', e, hc⟩
  · left; simp
  · cases e
    refine .inr ⟨_, _, rfl, fun j u hj => ?_⟩
    rw [wflat_drop, List.getElem?_drop] at hj
    rw [Nat.add_assoc]
    exact hc _ u hj
theorem WView.take {w : World} {a : Option Addr} {l : List WV} (h : WView w a l) (k : Nat) : WView w a (l.take k) := by
  rcases h with rfl | ⟨g, o, rfl, hc⟩
  · left; simp
  · refine .inr ⟨g, o, rfl, fun j u hj => ?_⟩
    rw [wflat_take, List.getElem?_take] at hj
    split at hj
    · exact hc j u hj
    · cases hj
theorem WView.of_at {w : World} {g o : Nat} {x : WV} (h : WAt w g o x) : WView w (some ⟨g, o, none⟩) [x] := by
  refine .inr ⟨g, o, rfl, fun j u hj => ?_⟩
  simp only [wflat, List.append_nil, WV.cells] at hj
  match j, hj with
  | 0, hj => simp at hj; subst hj; exact h.c0
  | 1, hj => simp at hj; subst hj; exact h.c1
  | 2, hj => simp at hj; subst hj; exact h.c2
  | j + 3, hj => simp at hj
/-- A slice of words that can be read. -/
structure Words (w : World) (a : Option Addr) (n cap : Nat) (L : List WV) : Prop where
  len : L.length = n
  view : WView w a L
  le : n ≤ cap
  small : (cap : Int) ≤ 9223372036854775807
theorem Words.below {w w' : World} {a : Option Addr} {n cap : Nat} {L : List WV} (h : Words w a n cap L) (hb : Below w.heap.size w w') : Words w' a n cap L := ⟨h.len, h.view.below hb, h.le, h.small⟩
theorem nth_of {α : Type} {l : List α} {i m : Nat} (h : l.length = m) (hi : i < m) : ∃ x, l[i]? = some x := ⟨l[i]'(by rw [h]; exact hi), by simp [h, hi]⟩

/-! ### rows of one's own -/
abbrev WT : TypeId := 50
def OwnW (w : World) (B : Nat) (v : Value) (l : List WV) : Prop := w.ownsRow B WT 3 v l.length (wflat l)
theorem OwnW.nil (w : World) (B : Nat) : OwnW w B (.slice none 0 0) [] := World.ownsRow_nil _ _ _ _
theorem OwnW.made (w : World) : OwnW (w.alloc (.cells #[] WT)) w.heap.size (.slice (some ⟨w.heap.size, 0, none⟩) 0 0) [] :=
  World.ownsRow_made (w := w) #[] 0 (Nat.le_refl _) (by decide) rfl
theorem OwnW.low {w : World} {B B' : Nat} {v : Value} {l : List WV} (h : OwnW w B v l) (hB : B' ≤ B) : OwnW w B' v l := by
  rcases h with ⟨h0, h | ⟨g, cap, cur, rfl, hb, r⟩⟩
  · exact ⟨h0, .inl h⟩
  · exact ⟨h0, .inr ⟨g, cap, cur, rfl, by omega, r⟩⟩
theorem OwnW.slice {w : World} {B : Nat} {v : Value} {l : List WV} (h : OwnW w B v l) : ∃ a cap, v = .slice a l.length cap ∧ WView w a l ∧ l.length ≤ cap ∧ (cap : Int) ≤ 9223372036854775807 := by
  rcases h.2 with ⟨rfl, h0⟩ | ⟨g, cap, cur, rfl, _, h3, h1, h2, h4, h5⟩
  · exact ⟨none, 0, by rw [h0], .inl (List.length_eq_zero_iff.1 h0), by omega, by omega⟩
  · refine ⟨_, cap, rfl, .inr ⟨g, 0, rfl, fun j u hj => ?_⟩, h1, by unfold maxLen at h2; omega⟩
    rw [Nat.zero_add, blk_cell h3]
    rw [← h5] at hj
    rw [List.getElem?_take] at hj
    split at hj
    · simpa using hj
    · cases hj
theorem OwnW.words {w : World} {B : Nat} {a : Option Addr} {n cap : Nat} {l : List WV} (h : OwnW w B (.slice a n cap) l) : Words w a n cap l := by
  obtain ⟨a', cap', e, hv, hl, hm⟩ := h.slice
  cases e
  exact ⟨rfl, hv, hl, hm⟩
theorem OwnW.new {w : World} {B : Nat} {v : Value} {l : List WV} (h : OwnW w B v l) {k : Nat} (hk : v.ownBlock = some k) : B ≤ k ∧ k < w.heap.size := World.ownsRow.lt h k hk
theorem OwnW.below {w w' : World} {B : Nat} {v : Value} {l : List WV} (h : OwnW w B v l) (hb : Below w.heap.size w w') : OwnW w' B v l := by
  rcases h with ⟨h0, h | ⟨g, cap, cur, rfl, hB, h3, r⟩⟩
  · exact ⟨h0, .inl h⟩
  · exact ⟨h0, .inr ⟨g, cap, cur, rfl, hB, kept_obj hb h3, r⟩⟩
theorem OwnW.none_len {w : World} {B n c : Nat} {l : List WV} (h : OwnW w B (.slice none n c) l) : n = 0 := by
  rcases h.2 with ⟨h1, h0⟩ | ⟨g, cap, cur, h1, _⟩
  · cases h1; rfl
  · cases h1

theorem infoWord : (Tryd.prog.info? WT).map (fun i => (i.zero, i.size, i.bytes)) = some (some (.agg #[.int .i64 0, .int .i64 0, .string ⟨#[]⟩]), 3, 32) := by kernel_rfl
theorem zeroWord (w : World) : (zeroValue WT).run Tryd.prog w = .ok (.agg #[.int .i64 0, .int .i64 0, .string ⟨#[]⟩]) w := by kernel_rfl
theorem winfoParts : ∃ i, Tryd.prog.info? WT = some i ∧ i.zero = some (.agg #[.int .i64 0, .int .i64 0, .string ⟨#[]⟩]) ∧ i.size = 3 ∧ i.bytes = 32 := by
  obtain ⟨i, h1, h2⟩ := Option.map_eq_some_iff.1 infoWord
  simp only [Prod.mk.injEq] at h2
  exact ⟨i, h1, h2.1, h2.2.1, h2.2.2⟩

/-- A row that was appended to: what it holds, where it lies. -/
theorem append_wview {w : World} {B m c : Nat} {v : Value} {q l : List WV} {ad : Option Addr} (h : OwnW w B v q) (hB : B ≤ w.heap.size) (hv : WView w ad l) (hl : l.length = m) (hs : q.length + m ≤ 1000000) (hn : ad = none → m = 0) (ty : TypeId) :
    ∃ v' w', (Builtin.append_ #[27, 27] ty #[v, .slice ad m c]).run Tryd.prog w = .ok v' w' ∧ OwnW w' B v' (q ++ l) ∧ w.grownBy w' v.ownBlock ∧ ∀ k, v'.ownBlock = some k → v.ownBlock = some k ∨ w.heap.size ≤ k := by
  obtain ⟨i0, hi, hz0, hz1, hz2⟩ := winfoParts
  cases ad with
  | none =>
    obtain rfl := hn rfl
    obtain rfl : l = [] := List.length_eq_zero_iff.1 hl
    refine ⟨v, w, ?_, by rw [List.append_nil]; exact h, ⟨rfl, rfl, rfl, Nat.le_refl _, fun _ _ _ => rfl⟩, fun k hk => .inl hk⟩
    rcases h.2 with ⟨rfl, h0⟩ | ⟨g, cap, cur, rfl, _, h3, h1, h2, h4, h5⟩
    · have hs := Src.ofNil (w := w) (size := i0.size) Tryd.underlying27 c
      simp [Builtin.append_, run_underlying Tryd.underlying27, sizeOf, typeInfo, hi, hs.len, hs.cells]
    · have := run_append_room_src (P := Tryd.prog) (w := w) 27 27 ty WT i0 Tryd.underlying27 hi g 0 q.length cap (.slice none 0 c) 0 [] (Src.ofNil w Tryd.underlying27 c) (by omega) (fun j hj => absurd hj (Nat.not_lt_zero _)) (fun j hj => absurd hj (Nat.not_lt_zero _))
      simpa [World.setCells] using this
  | some x =>
    have hnews : ∀ j u, (wflat l)[j]? = some u → w.cell? (x.add j) = some u := by
      intro j u hj
      rcases hv with rfl | ⟨g, o, e, hc⟩
      · simp [wflat] at hj
      · cases e
        rw [addr_at]; exact hc j u hj
    obtain ⟨v', w', h1, h2, h3, _, h5⟩ := run_append_own_at (P := Tryd.prog) w B 27 ty WT i0 _ 3 32 Tryd.underlying27 hi hz0 hz1 hz2 rfl (by decide) v q.length (wflat q) h x m c (wflat l) (by rw [wflat_len, hl]) hnews (wflat_one l) (by unfold maxLen; omega) (by omega) hB
    refine ⟨v', w', h1, ?_, h3, fun k hk => ?_⟩
    · unfold OwnW
      rw [List.length_append, wflat_append, hl]
      exact h2
    · rcases h5 with z | z
      · left; rw [← z]; exact hk
      · right; rw [z] at hk; cases hk; exact Nat.le_refl _

theorem step_wappend {w : World} {ops : Array Oper} {o : Oper} {a : Act} {K : Act → World → Prop} {Q : Exit → Act → World → Prop} {E : Prop} (hgd : o.guard = none) (s x : Operand)
    (ho : o.op = .call { callee := .builtin .append, args := #[s, x], argTypes := #[27, 27] }) {B m c : Nat} {v : Value} {q l : List WV} {ad : Option Addr} (hs : a.eval s = v) (hx : a.eval x = .slice ad m c)
    (hown : OwnW w B v q) (hB : B ≤ w.heap.size) (hv : WView w ad l) (hl : l.length = m) (hsm : q.length + m ≤ 1000000) (hn : ad = none → m = 0) (N : Nat) (hN : q.length + m = N)
    (h : ∀ a' cp' w', OwnW w' B (.slice a' N cp') (q ++ l) → w.grownBy w' v.ownBlock → (∀ k, (Value.slice a' N cp').ownBlock = some k → v.ownBlock = some k ∨ w.heap.size ≤ k) → K (a.put o.dst (.slice a' N cp')) w') :
    if Region.wanted o (yielded ops a.tmps) = true then Oper.wp Tryd.prog o a w K Q else E := by
  have hw : Region.wanted o (yielded ops a.tmps) = true := by simp [Region.wanted, hgd]
  rw [if_pos hw]
  obtain ⟨v', w', hr, h2, h3, h4⟩ := append_wview (c := c) hown hB hv hl hsm hn o.type
  obtain ⟨a', cp', hv', _⟩ := h2.slice
  rw [List.length_append, hl, hN] at hv'
  subst hv'
  unfold Oper.wp execOp
  simp only [ho, resolve, invoke, builtin, Sem.run_bind, Sem.run_pure, Result.andThen_ok, List.map_toArray, List.map_cons, List.map_nil, hs, hx, hr]
  exact h a' cp' w' h2 h3 h4
theorem wp_wappend {ops : Array Oper} {rest : List Oper} {o : Oper} {a : Act} {Q : Exit → Act → World → Prop} {w : World} (hgd : o.guard = none) (s x : Operand)
    (ho : o.op = .call { callee := .builtin .append, args := #[s, x], argTypes := #[27, 27] }) {B m c : Nat} {v : Value} {q l : List WV} {ad : Option Addr} (hs : a.eval s = v) (hx : a.eval x = .slice ad m c)
    (hown : OwnW w B v q) (hB : B ≤ w.heap.size) (hv : WView w ad l) (hl : l.length = m) (hsm : q.length + m ≤ 1000000) (hn : ad = none → m = 0) (N : Nat) (hN : q.length + m = N)
    (h : ∀ a' cp' w', OwnW w' B (.slice a' N cp') (q ++ l) → w.grownBy w' v.ownBlock → (∀ k, (Value.slice a' N cp').ownBlock = some k → v.ownBlock = some k ∨ w.heap.size ≤ k) → wpList Tryd.prog ops Q rest (a.put o.dst (.slice a' N cp')) w') : wpList Tryd.prog ops Q (o :: rest) a w :=
  wpList_step fun _ hK => step_wappend hgd s x ho hs hx hown hB hv hl hsm hn N hN (fun a' cp' w' o' g' l' => hK _ _ (h a' cp' w' o' g' l'))

/-! ### rows of numbers of one's own -/
def vi (l : List Int) : List Value := l.map (Value.int .i64)
theorem vi_one (l : List Int) : ∀ u ∈ vi l, u.oneCell' = true := by
  intro u hu
  obtain ⟨_, _, rfl⟩ := List.mem_map.1 hu
  rfl
theorem vi_at {l : List Int} {j : Nat} {u : Int} (h : l[j]? = some u) : (vi l)[j]? = some (.int .i64 u) := by simp [vi, h]
def OwnI (w : World) (e : TypeId) (B : Nat) (v : Value) (l : List Int) : Prop := w.ownsRow B e 1 v l.length (vi l)
theorem OwnI.nil (w : World) (e : TypeId) (B : Nat) : OwnI w e B (.slice none 0 0) [] := World.ownsRow_nil _ _ _ _
theorem OwnI.made (w : World) (e : TypeId) : OwnI (w.alloc (.cells #[] e)) e w.heap.size (.slice (some ⟨w.heap.size, 0, none⟩) 0 0) [] :=
  World.ownsRow_made (w := w) #[] 0 (Nat.le_refl _) (by decide) rfl
theorem OwnI.slice {w : World} {e : TypeId} {B : Nat} {v : Value} {l : List Int} (h : OwnI w e B v l) : ∃ a cap, v = .slice a l.length cap ∧ Ints w a l ∧ l.length ≤ cap ∧ (cap : Int) ≤ 9223372036854775807 := by
  rcases h.2 with ⟨rfl, h0⟩ | ⟨g, cap, cur, rfl, _, h3, h1, h2, h4, h5⟩
  · exact ⟨none, 0, by rw [h0], .inl (List.length_eq_zero_iff.1 h0), by omega, by omega⟩
  · refine ⟨_, cap, rfl, .inr ⟨g, 0, rfl, fun j u hj => ?_⟩, h1, by unfold maxLen at h2; omega⟩
    rw [Nat.zero_add, blk_cell h3]
    have := vi_at hj
    rw [← h5, List.getElem?_take] at this
    split at this
    · simpa using this
    · cases this
theorem OwnI.new {w : World} {e : TypeId} {B : Nat} {v : Value} {l : List Int} (h : OwnI w e B v l) {k : Nat} (hk : v.ownBlock = some k) : B ≤ k ∧ k < w.heap.size := World.ownsRow.lt h k hk
theorem OwnI.below {w w' : World} {e : TypeId} {B : Nat} {v : Value} {l : List Int} (h : OwnI w e B v l) (hb : Below w.heap.size w w') : OwnI w' e B v l := by
  rcases h with ⟨h0, h | ⟨g, cap, cur, rfl, hB, h3, r⟩⟩
  · exact ⟨h0, .inl h⟩
  · exact ⟨h0, .inr ⟨g, cap, cur, rfl, hB, kept_obj hb h3, r⟩⟩
theorem OwnI.low {w : World} {e : TypeId} {B B' : Nat} {v : Value} {l : List Int} (h : OwnI w e B v l) (hB : B' ≤ B) : OwnI w e B' v l := by
  rcases h with ⟨h0, h | ⟨g, cap, cur, rfl, hb, r⟩⟩
  · exact ⟨h0, .inl h⟩
  · exact ⟨h0, .inr ⟨g, cap, cur, rfl, by omega, r⟩⟩

/-- A slice type of numbers. -/
structure IsNum (t e : TypeId) : Prop where
  und : Tryd.prog.underlying t = some (.slice e)
  info : ∃ i, Tryd.prog.info? e = some i ∧ i.zero = some (.int .i64 0) ∧ i.size = 1 ∧ i.bytes = 8
theorem num_of {t e : TypeId} (h : Tryd.prog.underlying t = some (.slice e)) (h2 : (Tryd.prog.info? e).map (fun i => (i.zero, i.size, i.bytes)) = some (some (.int .i64 0), 1, 8)) : IsNum t e := by
  obtain ⟨i, h1, h2⟩ := Option.map_eq_some_iff.1 h2
  simp only [Prod.mk.injEq] at h2
  exact ⟨h, i, h1, h2.1, h2.2.1, h2.2.2⟩
theorem numL : IsNum 30 2 := num_of Tryd.underlying30 (by kernel_rfl)

theorem append_ints {w : World} {t e : TypeId} (ht : IsNum t e) {B m c : Nat} {v : Value} {q l : List Int} {ad : Option Addr} (h : OwnI w e B v q) (hB : B ≤ w.heap.size) (hv : Ints w ad l) (hl : l.length = m) (hs : (q.length + m : Int) ≤ 17592186044416) (hn : ad = none → m = 0) (ty : TypeId) :
    ∃ v' w', (Builtin.append_ #[t, t] ty #[v, .slice ad m c]).run Tryd.prog w = .ok v' w' ∧ OwnI w' e B v' (q ++ l) ∧ w.grownBy w' v.ownBlock ∧ ∀ k, v'.ownBlock = some k → v.ownBlock = some k ∨ w.heap.size ≤ k := by
  obtain ⟨i0, hi, hz0, hz1, hz2⟩ := ht.info
  cases ad with
  | none =>
    obtain rfl := hn rfl
    obtain rfl : l = [] := List.length_eq_zero_iff.1 hl
    refine ⟨v, w, ?_, by rw [List.append_nil]; exact h, ⟨rfl, rfl, rfl, Nat.le_refl _, fun _ _ _ => rfl⟩, fun k hk => .inl hk⟩
    rcases h.2 with ⟨rfl, h0⟩ | ⟨g, cap, cur, rfl, _, h3, h1, h2, h4, h5⟩
    · have hs := Src.ofNil (w := w) (size := i0.size) ht.und c
      simp [Builtin.append_, run_underlying ht.und, sizeOf, typeInfo, hi, hs.len, hs.cells]
    · have := run_append_room_src (P := Tryd.prog) (w := w) t t ty e i0 ht.und hi g 0 q.length cap (.slice none 0 c) 0 [] (Src.ofNil w ht.und c) (by omega) (fun j hj => absurd hj (Nat.not_lt_zero _)) (fun j hj => absurd hj (Nat.not_lt_zero _))
      simpa [World.setCells] using this
  | some x =>
    have hnews : ∀ j u, (vi l)[j]? = some u → w.cell? (x.add j) = some u := by
      intro j u hj
      rcases hv with rfl | ⟨g, o, e, hc⟩
      · simp [vi] at hj
      · cases e
        simp only [vi, List.getElem?_map, Option.map_eq_some_iff] at hj
        obtain ⟨y, hy, rfl⟩ := hj
        rw [addr_at]; exact hc j y hy
    obtain ⟨v', w', h1, h2, h3, _, h5⟩ := run_append_own_at (P := Tryd.prog) w B t ty e i0 _ 1 8 ht.und hi hz0 hz1 hz2 rfl (by decide) v q.length (vi q) h x m c (vi l) (by simp [vi, hl]) hnews (vi_one l) (by unfold maxLen; omega) (by omega) hB
    refine ⟨v', w', h1, ?_, h3, fun k hk => ?_⟩
    · unfold OwnI
      rw [List.length_append, hl]
      unfold vi at h2 ⊢
      rw [List.map_append]
      exact h2
    · rcases h5 with z | z
      · left; rw [← z]; exact hk
      · right; rw [z] at hk; cases hk; exact Nat.le_refl _

theorem step_ints {w : World} {t e : TypeId} (ht : IsNum t e) {ops : Array Oper} {o : Oper} {a : Act} {K : Act → World → Prop} {Q : Exit → Act → World → Prop} {E : Prop} (hgd : o.guard = none) (s x : Operand)
    (ho : o.op = .call { callee := .builtin .append, args := #[s, x], argTypes := #[t, t] }) {B m c : Nat} {v : Value} {q l : List Int} {ad : Option Addr} (hs : a.eval s = v) (hx : a.eval x = .slice ad m c)
    (hown : OwnI w e B v q) (hB : B ≤ w.heap.size) (hv : Ints w ad l) (hl : l.length = m) (hsm : (q.length + m : Int) ≤ 17592186044416) (hn : ad = none → m = 0) (N : Nat) (hN : q.length + m = N)
    (h : ∀ a' cp' w', OwnI w' e B (.slice a' N cp') (q ++ l) → w.grownBy w' v.ownBlock → (∀ k, (Value.slice a' N cp').ownBlock = some k → v.ownBlock = some k ∨ w.heap.size ≤ k) → K (a.put o.dst (.slice a' N cp')) w') :
    if Region.wanted o (yielded ops a.tmps) = true then Oper.wp Tryd.prog o a w K Q else E := by
  have hw : Region.wanted o (yielded ops a.tmps) = true := by simp [Region.wanted, hgd]
  rw [if_pos hw]
  obtain ⟨v', w', hr, h2, h3, h4⟩ := append_ints ht (c := c) hown hB hv hl hsm hn o.type
  obtain ⟨a', cp', hv', _⟩ := h2.slice
  rw [List.length_append, hl, hN] at hv'
  subst hv'
  unfold Oper.wp execOp
  simp only [ho, resolve, invoke, builtin, Sem.run_bind, Sem.run_pure, Result.andThen_ok, List.map_toArray, List.map_cons, List.map_nil, hs, hx, hr]
  exact h a' cp' w' h2 h3 h4
theorem wp_ints {t e : TypeId} (ht : IsNum t e) {ops : Array Oper} {rest : List Oper} {o : Oper} {a : Act} {Q : Exit → Act → World → Prop} {w : World} (hgd : o.guard = none) (s x : Operand)
    (ho : o.op = .call { callee := .builtin .append, args := #[s, x], argTypes := #[t, t] }) {B m c : Nat} {v : Value} {q l : List Int} {ad : Option Addr} (hs : a.eval s = v) (hx : a.eval x = .slice ad m c)
    (hown : OwnI w e B v q) (hB : B ≤ w.heap.size) (hv : Ints w ad l) (hl : l.length = m) (hsm : (q.length + m : Int) ≤ 17592186044416) (hn : ad = none → m = 0) (N : Nat) (hN : q.length + m = N)
    (h : ∀ a' cp' w', OwnI w' e B (.slice a' N cp') (q ++ l) → w.grownBy w' v.ownBlock → (∀ k, (Value.slice a' N cp').ownBlock = some k → v.ownBlock = some k ∨ w.heap.size ≤ k) → wpList Tryd.prog ops Q rest (a.put o.dst (.slice a' N cp')) w') : wpList Tryd.prog ops Q (o :: rest) a w :=
  wpList_step fun _ hK => step_ints ht hgd s x ho hs hx hown hB hv hl hsm hn N hN (fun a' cp' w' o' g' l' => hK _ _ (h a' cp' w' o' g' l'))
theorem ints_new (w : World) (x : Int) (T : TypeId) : Ints (w.alloc (.cells #[.int .i64 x] T)) (some ⟨w.heap.size, 0, none⟩) [x] :=
  .inr ⟨_, 0, rfl, fun j u hj => by
    match j, hj with
    | 0, hj => simp at hj; subst hj; rw [World.cell?_alloc_new]; rfl
    | j + 1, hj => simp at hj⟩
theorem wat_new (w : World) (x : WV) (T : TypeId) : WAt (w.alloc (.cells #[.int .i64 x.at_, .int .i64 x.ln, .string x.tx] T)) w.heap.size 0 x :=
  ⟨by rw [World.cell?_alloc_new]; rfl, by rw [World.cell?_alloc_new]; rfl, by rw [World.cell?_alloc_new]; rfl⟩
end Go.Proofs.YtbipjilpogbicaaDoor
