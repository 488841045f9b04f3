/-
  What a heap's blocks hold, and what of memory a call may turn.
-/
import Derived.Test.YtbmmigaabhnnfaaHNum
import Derived.Test.YtbmmigaabhnnfaaChecked
import Derived.WalkKit
import Derived.WalkSpells
import Derived.WalkLawsBesides
import Derived.Lib.Hide
import Derived.Below
import Derived.Maps.OwnSet
import Derived.Deep.QuietTactic
import Derived.BigQuiet
namespace Go.Proofs.Ytbmmigaabhnnfaa
open Go.RowKit Go.Maps

/-- What may have turned of what was there: the blocks of S alone. -/
structure Turn (S : Nat → Prop) (w w' : World) : Prop where
  os : w'.os = w.os
  tape : w'.tape = w.tape
  output : w'.output = w.output
  size : w.heap.size ≤ w'.heap.size
  block : ∀ k, k < w.heap.size → ¬ S k → w'.heap[k]? = w.heap[k]?

theorem Turn.refl (S : Nat → Prop) (w : World) : Turn S w w := ⟨rfl, rfl, rfl, Nat.le_refl _, fun _ _ _ => rfl⟩
theorem Turn.trans {S S' : Nat → Prop} {a b c : World} (h : Turn S a b) (k : Turn S' b c) (hs : ∀ i, i < a.heap.size → S' i → S i) : Turn S a c :=
  ⟨k.os.trans h.os, k.tape.trans h.tape, k.output.trans h.output, Nat.le_trans h.size k.size, fun i hi hn => (k.block i (Nat.lt_of_lt_of_le hi h.size) (fun q => hn (hs i hi q))).trans (h.block i hi hn)⟩
theorem Turn.then {S : Nat → Prop} {a b c : World} (h : Turn S a b) (k : Turn S b c) : Turn S a c := h.trans k fun _ _ q => q
theorem Turn.mono {S S' : Nat → Prop} {a b : World} (h : Turn S a b) (hs : ∀ i, i < a.heap.size → S i → S' i) : Turn S' a b :=
  ⟨h.os, h.tape, h.output, h.size, fun i hi hn => h.block i hi (fun q => hn (hs i hi q))⟩
theorem Turn.of_below {S : Nat → Prop} {w w' : World} (h : Below w.heap.size w w') : Turn S w w' := ⟨h.os, h.tape, h.output, h.size, fun k hk _ => h.block k hk⟩
theorem Turn.of_same {S : Nat → Prop} {w w1 w' : World} (h : Turn S w1 w') (e : w1.heap = w.heap) (e1 : w1.os = w.os) (e2 : w1.tape = w.tape) (e3 : w1.output = w.output) : Turn S w w' :=
  ⟨h.os.trans e1, h.tape.trans e2, h.output.trans e3, by rw [← e]; exact h.size, fun k hk hn => by rw [← e]; exact h.block k (by rw [e]; exact hk) hn⟩
theorem Turn.below {S : Nat → Prop} {w w' : World} {B : Nat} (h : Turn S w w') (hB : B ≤ w.heap.size) (hs : ∀ i, S i → B ≤ i) : Below B w w' :=
  ⟨h.os, h.tape, h.output, h.size, fun k hk => h.block k (by omega) (fun q => by have := hs k q; omega)⟩
theorem Turn.drew {S : Nat → Prop} {a w : World} (h : Turn S a w) : Turn S a w.drew := ⟨h.os, h.tape, h.output, h.size, h.block⟩
theorem Turn.alloc {S : Nat → Prop} {a w : World} (h : Turn S a w) (o : Obj) : Turn S a (w.alloc o) :=
  h.then (Turn.of_below ((Below.refl _ _).alloc (Nat.le_refl _) o))
theorem Turn.setCell {S : Nat → Prop} {a w : World} (h : Turn S a w) {p : Addr} (hp : p.block < a.heap.size → S p.block) (u : Value) : Turn S a (w.setCell p u) :=
  ⟨h.os, h.tape, h.output, by simp [World.setCell]; exact h.size, fun k hk hn => by
    rw [Below.heap_setCell _ _ _ _ (fun e => hn (by rw [e]; exact hp (by omega)))]; exact h.block k hk hn⟩
theorem Turn.grown {S : Nat → Prop} {a w w' : World} {row : Option Nat} (h : Turn S a w) (hg : w.grownBy w' row) (hr : ∀ k, row = some k → k < a.heap.size → S k) : Turn S a w' :=
  ⟨hg.os.trans h.os, hg.tape.trans h.tape, hg.output.trans h.output, Nat.le_trans h.size hg.size, fun k hk hn => (hg.block k (Nat.lt_of_lt_of_le hk h.size) (fun e => hn (hr k e.symm hk))).trans (h.block k hk hn)⟩

theorem block_of_cell {w : World} {a : Addr} {v : Value} (h : w.cell? a = some v) : a.block < w.heap.size := by
  rcases Nat.lt_or_ge a.block w.heap.size with g | g
  · exact g
  · simp [World.cell?, Array.getElem?_eq_none g] at h
theorem lt_of_block {w : World} {b : Nat} {o : Obj} (h : w.heap[b]? = some o) : b < w.heap.size := (Array.getElem?_eq_some_iff.1 h).1
theorem Turn.obj {S : Nat → Prop} {w w' : World} (h : Turn S w w') {b : Nat} {o : Obj} (ho : w.heap[b]? = some o) (hn : ¬ S b) : w'.heap[b]? = some o := (h.block b (lt_of_block ho) hn).trans ho

/-- The walk goes on in a world of which only so much is known. -/
theorem gen_world {P : Program} {c : Code} {Q : Exit → Act → World → Prop} {a : Act} {w : World} (S : World → Prop) (h : S w) (k : ∀ w', S w' → c.wp P Q a w') : c.wp P Q a w := k w h

theorem blk_set {w : World} {b o : Nat} {cs : Array Value} {T : TypeId} {fr : Nat × Nat} (h : w.heap[b]? = some (.cells cs T fr)) (v : Value) : (w.setCell ⟨b, o, none⟩ v).heap[b]? = some (.cells (cs.setIfInBounds o v) T fr) := by
  simp [World.setCell, Array.getElem?_modify, h]
theorem blk_far {w : World} {b : Nat} {a : Addr} (hne : b ≠ a.block) (v : Value) : (w.setCell a v).heap[b]? = w.heap[b]? := Below.heap_setCell w a v b hne
theorem blk_cell {w : World} {b : Nat} {cs : Array Value} {T : TypeId} {fr : Nat × Nat} (h : w.heap[b]? = some (.cells cs T fr)) (o : Nat) : w.cell? ⟨b, o, none⟩ = cs[o]? := cell_of_row w b o cs T fr h
theorem blk_free {w : World} {b : Nat} {cs : Array Value} {T : TypeId} (h : w.heap[b]? = some (.cells cs T (0, 0))) (o : Nat) : w.frozen? ⟨b, o, none⟩ = false := by
  simp [World.frozen?, h]

/-- A cell that was there reads as it did. -/
theorem kept_cell {w w' : World} (hb : Below w.heap.size w w') {b o : Nat} {v : Value} (h : w.cell? ⟨b, o, none⟩ = some v) : w'.cell? ⟨b, o, none⟩ = some v := by
  rw [hb.cell (p := ⟨b, o, none⟩) (block_of_cell h)]; exact h
theorem below_draws {B : Nat} {W w w' : World} (h : Below B W w) (e : w'.heap = w.heap) (e1 : w'.os = w.os) (e2 : w'.tape = w.tape) (e3 : w'.output = w.output) : Below B W w' :=
  ⟨e1.trans h.os, e2.trans h.tape, e3.trans h.output, by rw [e]; exact h.size, fun k hk => by rw [e]; exact h.block k hk⟩
theorem new_first (w : World) (cs : Array Value) (T : TypeId) (o : Obj) (i : Nat) : ((w.alloc (.cells cs T)).alloc o).cell? ⟨w.heap.size, i, none⟩ = cs[i]? := by
  rw [World.cell?_alloc_lt _ _ _ (by simp), World.cell?_alloc_new]
theorem new_second (w : World) (cs : Array Value) (T : TypeId) (o : Obj) (i : Nat) : ((w.alloc o).alloc (.cells cs T)).cell? ⟨w.heap.size + 1, i, none⟩ = cs[i]? := by
  have := World.cell?_alloc_new (w.alloc o) cs T i
  rwa [World.size_alloc] at this

/-- The order that the statements hand over. -/
def lessV : Value := .func (.func 11) #[] #[]

/-- A heap's own struct. -/
def Str (w : World) (sb : Nat) (v m : Value) : Prop := w.heap[sb]? = some (.cells #[lessV, v, m] 61 (0, 0))
/-- A block of keys with their numbers. -/
def Row (w : World) (g n cap : Nat) (e : Nat → Int × Int) : Prop :=
  n ≤ cap ∧ cap ≤ maxLen ∧ ∃ cur : Array Value, w.heap[g]? = some (.cells cur 64 (0, 0)) ∧ cur.size = cap * 2 ∧
    ∀ i, i < n → cur[i * 2]? = some (.int .i64 (e i).1) ∧ cur[i * 2 + 1]? = some (.int .i64 (e i).2)

theorem Row.lt {w : World} {g n cap : Nat} {e : Nat → Int × Int} (h : Row w g n cap e) : g < w.heap.size := by
  obtain ⟨_, _, cur, h3, _⟩ := h; exact lt_of_block h3
theorem Str.lt {w : World} {sb : Nat} {v m : Value} (h : Str w sb v m) : sb < w.heap.size := lt_of_block h
theorem Str.cells {w : World} {sb : Nat} {v m : Value} (h : Str w sb v m) : w.cell? ⟨sb, 0, none⟩ = some lessV ∧ w.cell? ⟨sb, 1, none⟩ = some v ∧ w.cell? ⟨sb, 2, none⟩ = some m :=
  ⟨by rw [blk_cell h]; rfl, by rw [blk_cell h]; rfl, by rw [blk_cell h]; rfl⟩
theorem Str.free {w : World} {sb : Nat} {v m : Value} (h : Str w sb v m) (o : Nat) : w.frozen? ⟨sb, o, none⟩ = false := blk_free h o
theorem Row.cells {w : World} {g n cap : Nat} {e : Nat → Int × Int} (h : Row w g n cap e) {i : Nat} (hi : i < n) : w.cell? ⟨g, i * 2, none⟩ = some (.int .i64 (e i).1) ∧ w.cell? ⟨g, i * 2 + 1, none⟩ = some (.int .i64 (e i).2) := by
  obtain ⟨_, _, cur, h3, _, h5⟩ := h
  exact ⟨by rw [blk_cell h3]; exact (h5 i hi).1, by rw [blk_cell h3]; exact (h5 i hi).2⟩
theorem Row.free {w : World} {g n cap : Nat} {e : Nat → Int × Int} (h : Row w g n cap e) (o : Nat) : w.frozen? ⟨g, o, none⟩ = false := by
  obtain ⟨_, _, cur, h3, _⟩ := h; exact blk_free h3 o
theorem Row.congr {w : World} {g n cap : Nat} {e e' : Nat → Int × Int} (h : Row w g n cap e) (he : ∀ i, i < n → e i = e' i) : Row w g n cap e' := by
  obtain ⟨h1, h2, cur, h3, h4, h5⟩ := h
  exact ⟨h1, h2, cur, h3, h4, fun i hi => by rw [← he i hi]; exact h5 i hi⟩
theorem Row.less {w : World} {g n m cap : Nat} {e : Nat → Int × Int} (h : Row w g n cap e) (hm : m ≤ n) : Row w g m cap e := by
  obtain ⟨h1, h2, cur, h3, h4, h5⟩ := h
  exact ⟨by omega, h2, cur, h3, h4, fun i hi => h5 i (by omega)⟩
theorem Row.kept {S : Nat → Prop} {w w' : World} {g n cap : Nat} {e : Nat → Int × Int} (h : Row w g n cap e) (ht : Turn S w w') (hn : ¬ S g) : Row w' g n cap e := by
  obtain ⟨h1, h2, cur, h3, h4, h5⟩ := h
  exact ⟨h1, h2, cur, ht.obj h3 hn, h4, h5⟩
theorem Str.kept {S : Nat → Prop} {w w' : World} {sb : Nat} {v m : Value} (h : Str w sb v m) (ht : Turn S w w') (hn : ¬ S sb) : Str w' sb v m := ht.obj h hn
theorem Str.far {w : World} {sb : Nat} {v m : Value} (h : Str w sb v m) {a : Addr} (hne : sb ≠ a.block) (u : Value) : Str (w.setCell a u) sb v m := (blk_far hne u).trans h
theorem Row.far {w : World} {g n cap : Nat} {e : Nat → Int × Int} (h : Row w g n cap e) {a : Addr} (hne : g ≠ a.block) (u : Value) : Row (w.setCell a u) g n cap e := by
  obtain ⟨h1, h2, cur, h3, h4, h5⟩ := h
  exact ⟨h1, h2, cur, (blk_far hne u).trans h3, h4, h5⟩
theorem Str.set {w : World} {sb : Nat} {v m : Value} (h : Str w sb v m) (u : Value) : Str (w.setCell ⟨sb, 1, none⟩ u) sb u m := (blk_set h u).trans rfl
/-- An entry stored. -/
def setE (w : World) (g i : Nat) (x : Int × Int) : World := (w.setCell ⟨g, i * 2, none⟩ (.int .i64 x.1)).setCell ⟨g, i * 2 + 1, none⟩ (.int .i64 x.2)
def upd (e : Nat → Int × Int) (i : Nat) (x : Int × Int) (k : Nat) : Int × Int := if k = i then x else e k
theorem Row.set {w : World} {g n cap : Nat} {e : Nat → Int × Int} (h : Row w g n cap e) {i : Nat} (hi : i < n) (x : Int × Int) : Row (setE w g i x) g n cap (upd e i x) := by
  obtain ⟨h1, h2, cur, h3, h4, h5⟩ := h
  refine ⟨h1, h2, (cur.setIfInBounds (i * 2) (.int .i64 x.1)).setIfInBounds (i * 2 + 1) (.int .i64 x.2), blk_set (blk_set h3 _) _, by simp [h4], fun k hk => ?_⟩
  have hs : i * 2 + 1 < cur.size := by omega
  unfold upd
  by_cases e : k = i
  · subst e
    simp [Array.getElem?_setIfInBounds, hs]
    omega
  · rw [if_neg e]
    have := h5 k hk
    simp only [Array.getElem?_setIfInBounds, Array.size_setIfInBounds]
    rw [if_neg (by omega), if_neg (by omega), if_neg (by omega), if_neg (by omega)]
    exact this
theorem setE_size (w : World) (g i : Nat) (x : Int × Int) : (setE w g i x).heap.size = w.heap.size := by simp [setE]
theorem Turn.setE {S : Nat → Prop} {a w : World} (h : Turn S a w) {g : Nat} (hp : g < a.heap.size → S g) (i : Nat) (x : Int × Int) : Turn S a (setE w g i x) :=
  Turn.setCell (Turn.setCell h (p := ⟨g, i * 2, none⟩) hp _) (p := ⟨g, i * 2 + 1, none⟩) hp _

end Go.Proofs.Ytbmmigaabhnnfaa
