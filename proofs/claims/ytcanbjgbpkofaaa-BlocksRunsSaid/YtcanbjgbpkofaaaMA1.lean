/- Texts of this claim, put together: CArr, CPl, CTk, COpen2, CLaw4, ELaw5, ERow5. -/
import Derived.Test.YtcanbjgbpkofaaaM95
import Derived.Deep.RegionHeld3
import Derived.Deep.CutBlock
import Derived.Deep.CutRange
import Derived.Deep.DeepCutAuto
set_option linter.unusedVariables false
set_option linter.unusedSimpArgs false

/-
  Rows of works, in a box.
-/
namespace Go.Proofs.Ytcanbjgbpkofaaa
open Go.RowKit Go.Maps

instance : Inhabited WK := ⟨⟨0, 0, 0, 0, fun _ => false⟩⟩
def WK.cells (k : WK) : List Value := [.int .i64 k.dn, .int .i64 k.dm, .int .i64 k.db, .int .i64 k.rl, .int .u64 (wd k.sn 0), .int .u64 (wd k.sn 1), .int .u64 (wd k.sn 2), .int .u64 (wd k.sn 3)]
/-- A row of m works. -/
def Arr (T : TypeId) (w : World) (g m : Nat) (f : Nat → WK) : Prop :=
  ∃ cur : Array Value, w.heap[g]? = some (.cells cur T (0, 0)) ∧ cur.size = m * 8 ∧ ∀ k, k < m → ∀ j u, (f k).cells[j]? = some u → cur[k * 8 + j]? = some u
theorem Arr.lt {T : TypeId} {w : World} {g m : Nat} {f : Nat → WK} (h : Arr T w g m f) : g < w.heap.size := let ⟨_, hb, _⟩ := h; lt_of_block hb
theorem Arr.free {T : TypeId} {w : World} {g m : Nat} {f : Nat → WK} (h : Arr T w g m f) (o : Nat) : w.frozen? ⟨g, o, none⟩ = false := let ⟨_, hb, _⟩ := h; blk_free hb o
theorem Arr.cells {T : TypeId} {w : World} {g m : Nat} {f : Nat → WK} (h : Arr T w g m f) {k : Nat} (hk : k < m) : w.cell? ⟨g, k * 8, none⟩ = some (.int .i64 (f k).dn) ∧ w.cell? ⟨g, k * 8 + 1, none⟩ = some (.int .i64 (f k).dm) ∧ w.cell? ⟨g, k * 8 + 2, none⟩ = some (.int .i64 (f k).db) ∧ w.cell? ⟨g, k * 8 + 3, none⟩ = some (.int .i64 (f k).rl) ∧ w.cell? ⟨g, k * 8 + 4, none⟩ = some (.int .u64 (wd (f k).sn 0)) ∧ w.cell? ⟨g, k * 8 + 5, none⟩ = some (.int .u64 (wd (f k).sn 1)) ∧ w.cell? ⟨g, k * 8 + 6, none⟩ = some (.int .u64 (wd (f k).sn 2)) ∧ w.cell? ⟨g, k * 8 + 7, none⟩ = some (.int .u64 (wd (f k).sn 3)) := by
  obtain ⟨cur, hb, _, hc⟩ := h
  refine ⟨?_, ?_, ?_, ?_, ?_, ?_, ?_, ?_⟩ <;> rw [blk_cell hb]
  · exact hc k hk 0 _ rfl
  · exact hc k hk 1 _ rfl
  · exact hc k hk 2 _ rfl
  · exact hc k hk 3 _ rfl
  · exact hc k hk 4 _ rfl
  · exact hc k hk 5 _ rfl
  · exact hc k hk 6 _ rfl
  · exact hc k hk 7 _ rfl
theorem Arr.turn {T : TypeId} {S : Nat → Prop} {w w' : World} {g m : Nat} {f : Nat → WK} (h : Arr T w g m f) (ht : Turn S w w') (hn : ¬ S g) : Arr T w' g m f := by
  obtain ⟨cur, hb, h1, h2⟩ := h
  exact ⟨cur, ht.obj hb hn, h1, h2⟩
theorem Arr.below {T : TypeId} {w w' : World} {g m : Nat} {f : Nat → WK} (h : Arr T w g m f) (hb : Below w.heap.size w w') : Arr T w' g m f := h.turn (S := fun _ => False) (Turn.of_below hb) (fun q => q)
theorem Arr.congr {T : TypeId} {w : World} {g m : Nat} {f f' : Nat → WK} (h : Arr T w g m f) (he : ∀ k, k < m → f' k = f k) : Arr T w g m f' := by
  obtain ⟨cur, hb, h1, h2⟩ := h
  exact ⟨cur, hb, h1, fun k hk j u hj => h2 k hk j u (by rw [← he k hk]; exact hj)⟩
def setW (f : Nat → WK) (k : Nat) (x : WK) (i : Nat) : WK := if i = k then x else f i
theorem setW_at (f : Nat → WK) (k : Nat) (x : WK) : setW f k x k = x := if_pos rfl
theorem set8 (cur : Array Value) (b : Nat) (y0 y1 y2 y3 y4 y5 y6 y7 : Value) (hb : b + 8 ≤ cur.size) :
    let c := (((((((cur.setIfInBounds b y0).setIfInBounds (b + 1) y1).setIfInBounds (b + 2) y2).setIfInBounds (b + 3) y3).setIfInBounds (b + 4) y4).setIfInBounds (b + 5) y5).setIfInBounds (b + 6) y6).setIfInBounds (b + 7) y7
    c.size = cur.size ∧ (∀ j u, [y0, y1, y2, y3, y4, y5, y6, y7][j]? = some u → c[b + j]? = some u) ∧ ∀ i, i < b ∨ b + 8 ≤ i → c[i]? = cur[i]? := by
  intro c
  refine ⟨by simp [c], fun j u hj => ?_, fun i hi => ?_⟩
  · match j, hj with
    | 0, hj => simp at hj; subst hj; simp [c, Array.getElem?_setIfInBounds]; omega
    | 1, hj => simp at hj; subst hj; simp [c, Array.getElem?_setIfInBounds]; omega
    | 2, hj => simp at hj; subst hj; simp [c, Array.getElem?_setIfInBounds]; omega
    | 3, hj => simp at hj; subst hj; simp [c, Array.getElem?_setIfInBounds]; omega
    | 4, hj => simp at hj; subst hj; simp [c, Array.getElem?_setIfInBounds]; omega
    | 5, hj => simp at hj; subst hj; simp [c, Array.getElem?_setIfInBounds]; omega
    | 6, hj => simp at hj; subst hj; simp [c, Array.getElem?_setIfInBounds]; omega
    | 7, hj => simp at hj; subst hj; simp [c, Array.getElem?_setIfInBounds]; omega
    | j + 8, hj => simp at hj
  · simp only [c]
    rw [Array.getElem?_setIfInBounds_ne (by omega), Array.getElem?_setIfInBounds_ne (by omega), Array.getElem?_setIfInBounds_ne (by omega), Array.getElem?_setIfInBounds_ne (by omega), Array.getElem?_setIfInBounds_ne (by omega), Array.getElem?_setIfInBounds_ne (by omega), Array.getElem?_setIfInBounds_ne (by omega), Array.getElem?_setIfInBounds_ne (by omega)]
theorem Arr.set {T : TypeId} {w : World} {g m : Nat} {f : Nat → WK} (h : Arr T w g m f) {k : Nat} (hk : k < m) (x : WK) :
    Arr T ((((((((w.setCell ⟨g, k * 8, none⟩ (.int .i64 x.dn)).setCell ⟨g, k * 8 + 1, none⟩ (.int .i64 x.dm)).setCell ⟨g, k * 8 + 2, none⟩ (.int .i64 x.db)).setCell ⟨g, k * 8 + 3, none⟩ (.int .i64 x.rl)).setCell ⟨g, k * 8 + 4, none⟩ (.int .u64 (wd x.sn 0))).setCell ⟨g, k * 8 + 5, none⟩ (.int .u64 (wd x.sn 1))).setCell ⟨g, k * 8 + 6, none⟩ (.int .u64 (wd x.sn 2))).setCell ⟨g, k * 8 + 7, none⟩ (.int .u64 (wd x.sn 3))) g m (setW f k x) := by
  obtain ⟨cur, hb, h1, h2⟩ := h
  have hsz : k * 8 + 8 ≤ cur.size := by rw [h1]; have := Nat.mul_le_mul_right 8 (show k + 1 ≤ m from hk); omega
  obtain ⟨s1, s2, s3⟩ := set8 cur (k * 8) (.int .i64 x.dn) (.int .i64 x.dm) (.int .i64 x.db) (.int .i64 x.rl) (.int .u64 (wd x.sn 0)) (.int .u64 (wd x.sn 1)) (.int .u64 (wd x.sn 2)) (.int .u64 (wd x.sn 3)) hsz
  have b0 : (w.setCell ⟨g, k * 8, none⟩ (.int .i64 x.dn)).heap[g]? = some (.cells (cur.setIfInBounds (k * 8) (.int .i64 x.dn)) T (0, 0)) := blk_set (o := k * 8) hb _
  generalize w.setCell ⟨g, k * 8, none⟩ (.int .i64 x.dn) = w0 at b0 ⊢
  have b1 : (w0.setCell ⟨g, k * 8 + 1, none⟩ (.int .i64 x.dm)).heap[g]? = some (.cells ((cur.setIfInBounds (k * 8) (.int .i64 x.dn)).setIfInBounds (k * 8 + 1) (.int .i64 x.dm)) T (0, 0)) := blk_set (o := k * 8 + 1) b0 _
  generalize w0.setCell ⟨g, k * 8 + 1, none⟩ (.int .i64 x.dm) = w1 at b1 ⊢
  have b2 : (w1.setCell ⟨g, k * 8 + 2, none⟩ (.int .i64 x.db)).heap[g]? = some (.cells (((cur.setIfInBounds (k * 8) (.int .i64 x.dn)).setIfInBounds (k * 8 + 1) (.int .i64 x.dm)).setIfInBounds (k * 8 + 2) (.int .i64 x.db)) T (0, 0)) := blk_set (o := k * 8 + 2) b1 _
  generalize w1.setCell ⟨g, k * 8 + 2, none⟩ (.int .i64 x.db) = w2 at b2 ⊢
  have b3 : (w2.setCell ⟨g, k * 8 + 3, none⟩ (.int .i64 x.rl)).heap[g]? = some (.cells ((((cur.setIfInBounds (k * 8) (.int .i64 x.dn)).setIfInBounds (k * 8 + 1) (.int .i64 x.dm)).setIfInBounds (k * 8 + 2) (.int .i64 x.db)).setIfInBounds (k * 8 + 3) (.int .i64 x.rl)) T (0, 0)) := blk_set (o := k * 8 + 3) b2 _
  generalize w2.setCell ⟨g, k * 8 + 3, none⟩ (.int .i64 x.rl) = w3 at b3 ⊢
  have b4 : (w3.setCell ⟨g, k * 8 + 4, none⟩ (.int .u64 (wd x.sn 0))).heap[g]? = some (.cells (((((cur.setIfInBounds (k * 8) (.int .i64 x.dn)).setIfInBounds (k * 8 + 1) (.int .i64 x.dm)).setIfInBounds (k * 8 + 2) (.int .i64 x.db)).setIfInBounds (k * 8 + 3) (.int .i64 x.rl)).setIfInBounds (k * 8 + 4) (.int .u64 (wd x.sn 0))) T (0, 0)) := blk_set (o := k * 8 + 4) b3 _
  generalize w3.setCell ⟨g, k * 8 + 4, none⟩ (.int .u64 (wd x.sn 0)) = w4 at b4 ⊢
  have b5 : (w4.setCell ⟨g, k * 8 + 5, none⟩ (.int .u64 (wd x.sn 1))).heap[g]? = some (.cells ((((((cur.setIfInBounds (k * 8) (.int .i64 x.dn)).setIfInBounds (k * 8 + 1) (.int .i64 x.dm)).setIfInBounds (k * 8 + 2) (.int .i64 x.db)).setIfInBounds (k * 8 + 3) (.int .i64 x.rl)).setIfInBounds (k * 8 + 4) (.int .u64 (wd x.sn 0))).setIfInBounds (k * 8 + 5) (.int .u64 (wd x.sn 1))) T (0, 0)) := blk_set (o := k * 8 + 5) b4 _
  generalize w4.setCell ⟨g, k * 8 + 5, none⟩ (.int .u64 (wd x.sn 1)) = w5 at b5 ⊢
  have b6 : (w5.setCell ⟨g, k * 8 + 6, none⟩ (.int .u64 (wd x.sn 2))).heap[g]? = some (.cells (((((((cur.setIfInBounds (k * 8) (.int .i64 x.dn)).setIfInBounds (k * 8 + 1) (.int .i64 x.dm)).setIfInBounds (k * 8 + 2) (.int .i64 x.db)).setIfInBounds (k * 8 + 3) (.int .i64 x.rl)).setIfInBounds (k * 8 + 4) (.int .u64 (wd x.sn 0))).setIfInBounds (k * 8 + 5) (.int .u64 (wd x.sn 1))).setIfInBounds (k * 8 + 6) (.int .u64 (wd x.sn 2))) T (0, 0)) := blk_set (o := k * 8 + 6) b5 _
  generalize w5.setCell ⟨g, k * 8 + 6, none⟩ (.int .u64 (wd x.sn 2)) = w6 at b6 ⊢
  have b7 : (w6.setCell ⟨g, k * 8 + 7, none⟩ (.int .u64 (wd x.sn 3))).heap[g]? = some (.cells ((((((((cur.setIfInBounds (k * 8) (.int .i64 x.dn)).setIfInBounds (k * 8 + 1) (.int .i64 x.dm)).setIfInBounds (k * 8 + 2) (.int .i64 x.db)).setIfInBounds (k * 8 + 3) (.int .i64 x.rl)).setIfInBounds (k * 8 + 4) (.int .u64 (wd x.sn 0))).setIfInBounds (k * 8 + 5) (.int .u64 (wd x.sn 1))).setIfInBounds (k * 8 + 6) (.int .u64 (wd x.sn 2))).setIfInBounds (k * 8 + 7) (.int .u64 (wd x.sn 3))) T (0, 0)) := blk_set (o := k * 8 + 7) b6 _
  refine ⟨_, b7, by rw [s1, h1], fun i hi j u hj => ?_⟩
  unfold setW at hj
  by_cases e : i = k
  · subst e
    rw [if_pos rfl] at hj
    exact s2 j u hj
  · rw [if_neg e] at hj
    have hj8 : j < 8 := (List.getElem?_eq_some_iff.1 hj).1
    rw [s3 (i * 8 + j) (by
      rcases Nat.lt_or_gt_of_ne e with q | q
      · left; have := Nat.mul_le_mul_right 8 (show i + 1 ≤ k from q); omega
      · right; have := Nat.mul_le_mul_right 8 (show k + 1 ≤ i from q); omega)]
    exact h2 i hi j u hj
theorem Arr.far {T : TypeId} {w : World} {g m : Nat} {f : Nat → WK} (h : Arr T w g m f) {b o : Nat} (hne : g ≠ b) (v : Value) : Arr T (w.setCell ⟨b, o, none⟩ v) g m f := by
  obtain ⟨cur, hb, h1, h2⟩ := h
  exact ⟨cur, (blk_far (a := ⟨b, o, none⟩) hne v).trans hb, h1, h2⟩
theorem wd_false (k : Nat) : wd (fun _ => false) k = 0 := wd_none k
/-- No work at all. -/
def noWork : WK := ⟨0, 0, 0, 0, fun _ => false⟩
theorem noWork_cells : noWork.cells = [.int .i64 0, .int .i64 0, .int .i64 0, .int .i64 0, .int .u64 0, .int .u64 0, .int .u64 0, .int .u64 0] := by
  unfold WK.cells noWork
  dsimp only
  rw [wd_false, wd_false, wd_false, wd_false]
  rfl
theorem zeros2 (k : Nat) (hk : k < 2) (j : Nat) (u : Value) (hj : noWork.cells[j]? = some u) : (#[Value.int .i64 0, Value.int .i64 0, Value.int .i64 0, Value.int .i64 0, Value.int .u64 0, Value.int .u64 0, Value.int .u64 0, Value.int .u64 0, Value.int .i64 0, Value.int .i64 0, Value.int .i64 0, Value.int .i64 0, Value.int .u64 0, Value.int .u64 0, Value.int .u64 0, Value.int .u64 0] : Array Value)[k * 8 + j]? = some u := by
  rw [noWork_cells] at hj
  match k, hk with
  | 0, _ =>
    match j, hj with
    | 0, hj => exact hj
    | 1, hj => exact hj
    | 2, hj => exact hj
    | 3, hj => exact hj
    | 4, hj => exact hj
    | 5, hj => exact hj
    | 6, hj => exact hj
    | 7, hj => exact hj
    | j + 8, hj => simp at hj
  | 1, _ =>
    match j, hj with
    | 0, hj => exact hj
    | 1, hj => exact hj
    | 2, hj => exact hj
    | 3, hj => exact hj
    | 4, hj => exact hj
    | 5, hj => exact hj
    | 6, hj => exact hj
    | 7, hj => exact hj
    | j + 8, hj => simp at hj
  | k + 2, hk => omega
theorem arr_new2 (T : TypeId) (w : World) : Arr T (w.alloc (.cells #[Value.int .i64 0, Value.int .i64 0, Value.int .i64 0, Value.int .i64 0, Value.int .u64 0, Value.int .u64 0, Value.int .u64 0, Value.int .u64 0, Value.int .i64 0, Value.int .i64 0, Value.int .i64 0, Value.int .i64 0, Value.int .u64 0, Value.int .u64 0, Value.int .u64 0, Value.int .u64 0] T)) w.heap.size 2 (fun _ => noWork) :=
  ⟨_, heap_alloc_new w _, rfl, fun k hk j u hj => zeros2 k hk j u hj⟩
theorem zeros6 (k : Nat) (hk : k < 6) (j : Nat) (u : Value) (hj : noWork.cells[j]? = some u) : (#[Value.int .i64 0, Value.int .i64 0, Value.int .i64 0, Value.int .i64 0, Value.int .u64 0, Value.int .u64 0, Value.int .u64 0, Value.int .u64 0, Value.int .i64 0, Value.int .i64 0, Value.int .i64 0, Value.int .i64 0, Value.int .u64 0, Value.int .u64 0, Value.int .u64 0, Value.int .u64 0, Value.int .i64 0, Value.int .i64 0, Value.int .i64 0, Value.int .i64 0, Value.int .u64 0, Value.int .u64 0, Value.int .u64 0, Value.int .u64 0, Value.int .i64 0, Value.int .i64 0, Value.int .i64 0, Value.int .i64 0, Value.int .u64 0, Value.int .u64 0, Value.int .u64 0, Value.int .u64 0, Value.int .i64 0, Value.int .i64 0, Value.int .i64 0, Value.int .i64 0, Value.int .u64 0, Value.int .u64 0, Value.int .u64 0, Value.int .u64 0, Value.int .i64 0, Value.int .i64 0, Value.int .i64 0, Value.int .i64 0, Value.int .u64 0, Value.int .u64 0, Value.int .u64 0, Value.int .u64 0] : Array Value)[k * 8 + j]? = some u := by
  rw [noWork_cells] at hj
  match k, hk with
  | 0, _ =>
    match j, hj with
    | 0, hj => exact hj
    | 1, hj => exact hj
    | 2, hj => exact hj
    | 3, hj => exact hj
    | 4, hj => exact hj
    | 5, hj => exact hj
    | 6, hj => exact hj
    | 7, hj => exact hj
    | j + 8, hj => simp at hj
  | 1, _ =>
    match j, hj with
    | 0, hj => exact hj
    | 1, hj => exact hj
    | 2, hj => exact hj
    | 3, hj => exact hj
    | 4, hj => exact hj
    | 5, hj => exact hj
    | 6, hj => exact hj
    | 7, hj => exact hj
    | j + 8, hj => simp at hj
  | 2, _ =>
    match j, hj with
    | 0, hj => exact hj
    | 1, hj => exact hj
    | 2, hj => exact hj
    | 3, hj => exact hj
    | 4, hj => exact hj
    | 5, hj => exact hj
    | 6, hj => exact hj
    | 7, hj => exact hj
    | j + 8, hj => simp at hj
  | 3, _ =>
    match j, hj with
    | 0, hj => exact hj
    | 1, hj => exact hj
    | 2, hj => exact hj
    | 3, hj => exact hj
    | 4, hj => exact hj
    | 5, hj => exact hj
    | 6, hj => exact hj
    | 7, hj => exact hj
    | j + 8, hj => simp at hj
  | 4, _ =>
    match j, hj with
    | 0, hj => exact hj
    | 1, hj => exact hj
    | 2, hj => exact hj
    | 3, hj => exact hj
    | 4, hj => exact hj
    | 5, hj => exact hj
    | 6, hj => exact hj
    | 7, hj => exact hj
    | j + 8, hj => simp at hj
  | 5, _ =>
    match j, hj with
    | 0, hj => exact hj
    | 1, hj => exact hj
    | 2, hj => exact hj
    | 3, hj => exact hj
    | 4, hj => exact hj
    | 5, hj => exact hj
    | 6, hj => exact hj
    | 7, hj => exact hj
    | j + 8, hj => simp at hj
  | k + 6, hk => omega
theorem arr_new6 (T : TypeId) (w : World) : Arr T (w.alloc (.cells #[Value.int .i64 0, Value.int .i64 0, Value.int .i64 0, Value.int .i64 0, Value.int .u64 0, Value.int .u64 0, Value.int .u64 0, Value.int .u64 0, Value.int .i64 0, Value.int .i64 0, Value.int .i64 0, Value.int .i64 0, Value.int .u64 0, Value.int .u64 0, Value.int .u64 0, Value.int .u64 0, Value.int .i64 0, Value.int .i64 0, Value.int .i64 0, Value.int .i64 0, Value.int .u64 0, Value.int .u64 0, Value.int .u64 0, Value.int .u64 0, Value.int .i64 0, Value.int .i64 0, Value.int .i64 0, Value.int .i64 0, Value.int .u64 0, Value.int .u64 0, Value.int .u64 0, Value.int .u64 0, Value.int .i64 0, Value.int .i64 0, Value.int .i64 0, Value.int .i64 0, Value.int .u64 0, Value.int .u64 0, Value.int .u64 0, Value.int .u64 0, Value.int .i64 0, Value.int .i64 0, Value.int .i64 0, Value.int .i64 0, Value.int .u64 0, Value.int .u64 0, Value.int .u64 0, Value.int .u64 0] T)) w.heap.size 6 (fun _ => noWork) :=
  ⟨_, heap_alloc_new w _, rfl, fun k hk j u hj => zeros6 k hk j u hj⟩
end Go.Proofs.Ytcanbjgbpkofaaa

/-
  What a tick makes of a work, in plain words.
-/
namespace Go.Proofs.Ytcanbjgbpkofaaa
open Go.RowKit Go.Maps

theorem wUp_small {x : Int} (h0 : 0 ≤ x) (h1 : x ≤ 4611686018427387904) : wUp x = x + 1 := by unfold wUp; exact IntWalk.i64_in _ (by omega)
/-- One tick of a work that may be stepped. -/
theorem tick_facts {n : Nat} {L : Nat → Int} {id s : Int} {u : Bool} {rel : Int} {k : WK} (hf : Fits id rel k) (h0 : 0 ≤ k.rl) (h1 : k.rl ≤ 4611686018427387904) :
    ∃ dn db rl p q, stepW n L id s u rel k = (⟨dn, k.dm, db, rl, p⟩, q) ∧
      ((q = false ∧ dn = k.dn + 1 ∧ db = 0 ∧ k.db = 0 ∧ rl = k.rl) ∨ (q = true ∧ dn = k.dn ∧ rl = k.rl + 1 ∧ 0 < k.db ∧ db = k.db - 1) ∨ (q = true ∧ dn = k.dn ∧ rl = k.rl + 1 ∧ k.db = 0 ∧ 0 < rel ∧ db = rel - 1)) := by
  have hd : 0 ≤ k.db := hf.2.2.2.2.2
  unfold stepW
  rw [if_pos hf]
  by_cases hp : 0 < k.db
  · rw [if_pos hp]
    exact ⟨_, _, _, _, _, rfl, .inr (.inl ⟨rfl, rfl, wUp_small h0 h1, hp, rfl⟩)⟩
  · rw [if_neg hp]
    have hz : k.db = 0 := by omega
    unfold workW
    split
    · split
      · rename_i hq
        exact ⟨_, _, _, _, _, rfl, .inr (.inr ⟨rfl, rfl, wUp_small h0 h1, hz, hq.2.1, rfl⟩)⟩
      · exact ⟨_, _, _, _, _, rfl, .inl ⟨rfl, rfl, hz, hz, rfl⟩⟩
    · exact ⟨_, _, _, _, _, rfl, .inl ⟨rfl, rfl, hz, hz, rfl⟩⟩
/-- How far a job may have come by the i-th tick. -/
structure Inv (rel : Int) (i : Nat) (k : WK) : Prop where
  d0 : 0 ≤ k.dn
  d1 : k.dn ≤ k.dm
  d2 : k.dm ≤ 24
  b0 : 0 ≤ k.db
  b1 : k.db = 0 ∨ k.db < rel
  r0 : 0 ≤ k.rl
  r1 : k.rl ≤ i
theorem Inv.up {rel : Int} {i : Nat} {k : WK} (h : Inv rel i k) : Inv rel (i + 1) k := ⟨h.d0, h.d1, h.d2, h.b0, h.b1, h.r0, by have := h.r1; omega⟩
theorem inv_none (rel : Int) (i : Nat) : Inv rel i noWork := by
  refine ⟨?_, ?_, ?_, ?_, .inl rfl, ?_, ?_⟩ <;> unfold noWork <;> dsimp only <;> omega
/-- A work that has all to do. -/
def freshW (c : Int) : WK := ⟨0, c, 0, 0, fun _ => false⟩
theorem inv_fresh (rel : Int) (i : Nat) {c : Int} (h0 : 0 ≤ c) (h1 : c ≤ 24) : Inv rel i (freshW c) := by
  refine ⟨?_, ?_, ?_, ?_, .inl rfl, ?_, ?_⟩ <;> unfold freshW <;> dsimp only <;> omega
end Go.Proofs.Ytcanbjgbpkofaaa

/-
  A system, a cache and a row of works in memory; the start of the statements that step works.
-/
namespace Go.Proofs.Ytcanbjgbpkofaaa
open Go.RowKit Go.Maps

/-- A system in a box, a cache, a row of works: all newer than w5. -/
structure TickAt (T : TypeId) (m : Nat) (w5 : World) (s r : Int) (a5 : Option Addr) (N c5 : Nat) (b rr n : Nat) (Lc : Nat → Int) (g2 : Nat) (f : Nat → WK) (w : World) : Prop where
  low : Below w5.heap.size w5 w
  sb : w.heap[w5.heap.size]? = some (.cells #[.int .i64 s, .int .i64 r, .slice a5 N c5] 28 (0, 0))
  ch : Ch CT w b rr n Lc
  ar : Arr T w g2 m f
  lb : w5.heap.size < b
  lr : w5.heap.size < rr
  lg : w5.heap.size < g2
  gb : g2 ≠ b
  gr : g2 ≠ rr
theorem TickAt.below {T : TypeId} {m : Nat} {w5 : World} {s r : Int} {a5 : Option Addr} {N c5 b rr n : Nat} {Lc : Nat → Int} {g2 : Nat} {f : Nat → WK} {w w' : World} (h : TickAt T m w5 s r a5 N c5 b rr n Lc g2 f w) (hb : Below w.heap.size w w') : TickAt T m w5 s r a5 N c5 b rr n Lc g2 f w' :=
  ⟨below_up h.low hb, kept_obj hb h.sb, h.ch.below hb, h.ar.below hb, h.lb, h.lr, h.lg, h.gb, h.gr⟩
theorem TickAt.turn {T : TypeId} {m : Nat} {w5 : World} {s r : Int} {a5 : Option Addr} {N c5 b rr n : Nat} {Lc Lc' : Nat → Int} {g2 : Nat} {f : Nat → WK} {w w' : World} (h : TickAt T m w5 s r a5 N c5 b rr n Lc g2 f w) (ht : Turn (fun k => k = rr) w w') (hc : Ch CT w' b rr n Lc') : TickAt T m w5 s r a5 N c5 b rr n Lc' g2 f w' :=
  ⟨h.low.trans (ht.below (B := w5.heap.size) h.low.size (fun i q => by subst q; exact Nat.le_of_lt h.lr)), ht.obj h.sb (Nat.ne_of_lt h.lr), hc, h.ar.turn ht h.gr, h.lb, h.lr, h.lg, h.gb, h.gr⟩
theorem TickAt.congr {T : TypeId} {m : Nat} {w5 : World} {s r : Int} {a5 : Option Addr} {N c5 b rr n : Nat} {Lc : Nat → Int} {g2 : Nat} {f f' : Nat → WK} {w : World} (h : TickAt T m w5 s r a5 N c5 b rr n Lc g2 f w) (he : ∀ k, k < m → f' k = f k) : TickAt T m w5 s r a5 N c5 b rr n Lc g2 f' w :=
  ⟨h.low, h.sb, h.ch, h.ar.congr he, h.lb, h.lr, h.lg, h.gb, h.gr⟩
theorem TickAt.new {T : TypeId} {m : Nat} {w5 w w' : World} {s r : Int} {a5 : Option Addr} {N c5 b rr n : Nat} {Lc : Nat → Int} {f : Nat → WK} (low : Below w5.heap.size w5 w) (sb : w.heap[w5.heap.size]? = some (.cells #[.int .i64 s, .int .i64 r, .slice a5 N c5] 28 (0, 0))) (hc : Ch CT w b rr n Lc) (lb : w5.heap.size < b) (lr : w5.heap.size < rr) (hb : Below w.heap.size w w') (ha : Arr T w' w.heap.size m f) :
    TickAt T m w5 s r a5 N c5 b rr n Lc w.heap.size f w' :=
  ⟨below_up low hb, kept_obj hb sb, hc.below hb, ha, lb, lr, lt_of_block sb, (Nat.ne_of_lt hc.lt.1).symm, (Nat.ne_of_lt hc.lt.2).symm⟩
theorem TickAt.set {T : TypeId} {m : Nat} {w5 : World} {s r : Int} {a5 : Option Addr} {N c5 b rr n : Nat} {Lc : Nat → Int} {g2 : Nat} {f : Nat → WK} {w : World} (h : TickAt T m w5 s r a5 N c5 b rr n Lc g2 f w) {k : Nat} (hk : k < m) (x : WK) :
    TickAt T m w5 s r a5 N c5 b rr n Lc g2 (setW f k x) ((((((((w.setCell ⟨g2, k * 8, none⟩ (.int .i64 x.dn)).setCell ⟨g2, k * 8 + 1, none⟩ (.int .i64 x.dm)).setCell ⟨g2, k * 8 + 2, none⟩ (.int .i64 x.db)).setCell ⟨g2, k * 8 + 3, none⟩ (.int .i64 x.rl)).setCell ⟨g2, k * 8 + 4, none⟩ (.int .u64 (wd x.sn 0))).setCell ⟨g2, k * 8 + 5, none⟩ (.int .u64 (wd x.sn 1))).setCell ⟨g2, k * 8 + 6, none⟩ (.int .u64 (wd x.sn 2))).setCell ⟨g2, k * 8 + 7, none⟩ (.int .u64 (wd x.sn 3))) := by
  have hs : ∀ (o : Nat) (v : Value) (w : World), Below w5.heap.size w5 w → Below w5.heap.size w5 (w.setCell ⟨g2, o, none⟩ v) := fun o v w hw => hw.setCell (p := ⟨g2, o, none⟩) (Nat.le_of_lt h.lg) v
  have hf : ∀ (o : Nat) (v : Value) (w : World), w.heap[w5.heap.size]? = some (.cells #[.int .i64 s, .int .i64 r, .slice a5 N c5] 28 (0, 0)) → (w.setCell ⟨g2, o, none⟩ v).heap[w5.heap.size]? = some (.cells #[.int .i64 s, .int .i64 r, .slice a5 N c5] 28 (0, 0)) := fun o v w hw => (blk_far (a := ⟨g2, o, none⟩) (Nat.ne_of_lt h.lg) v).trans hw
  have hc : ∀ (o : Nat) (v : Value) (w : World), Ch CT w b rr n Lc → Ch CT (w.setCell ⟨g2, o, none⟩ v) b rr n Lc := fun o v w hw => by
    obtain ⟨cur, h1, h2, h3⟩ := hw.row
    exact ⟨(blk_far (a := ⟨g2, o, none⟩) h.gb.symm v).trans hw.str, ⟨cur, (blk_far (a := ⟨g2, o, none⟩) h.gr.symm v).trans h1, h2, h3⟩, hw.ne, hw.few, hw.wf⟩
  exact ⟨hs _ _ _ (hs _ _ _ (hs _ _ _ (hs _ _ _ (hs _ _ _ (hs _ _ _ (hs _ _ _ (hs _ _ _ (h.low)))))))), hf _ _ _ (hf _ _ _ (hf _ _ _ (hf _ _ _ (hf _ _ _ (hf _ _ _ (hf _ _ _ (hf _ _ _ (h.sb)))))))), hc _ _ _ (hc _ _ _ (hc _ _ _ (hc _ _ _ (hc _ _ _ (hc _ _ _ (hc _ _ _ (hc _ _ _ (h.ch)))))))), h.ar.set hk x, h.lb, h.lr, h.lg, h.gb, h.gr⟩
theorem TickAt.far {T : TypeId} {m : Nat} {w5 : World} {s r : Int} {a5 : Option Addr} {N c5 b rr n : Nat} {Lc : Nat → Int} {g2 : Nat} {f : Nat → WK} {w : World} (h : TickAt T m w5 s r a5 N c5 b rr n Lc g2 f w) {g : Nat} (hg : w5.heap.size < g) (hb : g ≠ b) (hr : g ≠ rr) (h2 : g ≠ g2) (o : Nat) (v : Value) :
    TickAt T m w5 s r a5 N c5 b rr n Lc g2 f (w.setCell ⟨g, o, none⟩ v) := by
  obtain ⟨cur, h3, h4, h5⟩ := h.ch.row
  exact ⟨h.low.setCell (p := ⟨g, o, none⟩) (Nat.le_of_lt hg) v, (blk_far (a := ⟨g, o, none⟩) (Nat.ne_of_lt hg) v).trans h.sb, ⟨(blk_far (a := ⟨g, o, none⟩) hb.symm v).trans h.ch.str, ⟨cur, (blk_far (a := ⟨g, o, none⟩) hr.symm v).trans h3, h4, h5⟩, h.ch.ne, h.ch.few, h.ch.wf⟩, h.ar.far h2.symm v, h.lb, h.lr, h.lg, h.gb, h.gr⟩
/-- A work of one's own, stored in a new box. -/
theorem TickAt.put {T : TypeId} {m : Nat} {w5 : World} {s r : Int} {a5 : Option Addr} {N c5 b rr n : Nat} {Lc Lc' : Nat → Int} {g2 : Nat} {f : Nat → WK} {w w' : World} (h : TickAt T m w5 s r a5 N c5 b rr n Lc g2 f w) (ht : Turn (fun k => k = rr) w w') (hc : Ch CT w' b rr n Lc') {z0 z1 z2 z3 z4 z5 z6 z7 : Value} (hq : w'.heap[w.heap.size]? = some (.cells #[z0, z1, z2, z3, z4, z5, z6, z7] WT (0, 0))) (y0 y1 y2 y3 y4 y5 y6 y7 : Value) :
    TickAt T m w5 s r a5 N c5 b rr n Lc' g2 f ((((((((w'.setCell ⟨w.heap.size, 0, none⟩ y0).setCell ⟨w.heap.size, 1, none⟩ y1).setCell ⟨w.heap.size, 2, none⟩ y2).setCell ⟨w.heap.size, 3, none⟩ y3).setCell ⟨w.heap.size, 4, none⟩ y4).setCell ⟨w.heap.size, 5, none⟩ y5).setCell ⟨w.heap.size, 6, none⟩ y6).setCell ⟨w.heap.size, 7, none⟩ y7) ∧ ((((((((w'.setCell ⟨w.heap.size, 0, none⟩ y0).setCell ⟨w.heap.size, 1, none⟩ y1).setCell ⟨w.heap.size, 2, none⟩ y2).setCell ⟨w.heap.size, 3, none⟩ y3).setCell ⟨w.heap.size, 4, none⟩ y4).setCell ⟨w.heap.size, 5, none⟩ y5).setCell ⟨w.heap.size, 6, none⟩ y6).setCell ⟨w.heap.size, 7, none⟩ y7).heap[w.heap.size]? = some (.cells #[y0, y1, y2, y3, y4, y5, y6, y7] WT (0, 0)) := by
  have h1 := h.turn ht hc
  have l0 := lt_of_block h.sb
  have l1 := h.ch.lt
  have l2 := h.ar.lt
  have key : ∀ (o : Nat) (v : Value) (x : World), TickAt T m w5 s r a5 N c5 b rr n Lc' g2 f x → TickAt T m w5 s r a5 N c5 b rr n Lc' g2 f (x.setCell ⟨w.heap.size, o, none⟩ v) := fun o v x hx => hx.far (by omega) (by omega) (by omega) (by omega) o v
  exact ⟨key _ _ _ (key _ _ _ (key _ _ _ (key _ _ _ (key _ _ _ (key _ _ _ (key _ _ _ (key _ _ _ (h1)))))))), box_set8 hq y0 y1 y2 y3 y4 y5 y6 y7⟩
end Go.Proofs.Ytcanbjgbpkofaaa

/-
  Rows of pairs that came in, opened.
-/
namespace Go.Proofs.Ytcanbjgbpkofaaa
open Go.ChangeShapes Go.WideShapes Go.ChangeAt Go.RowKit

/-- A row of pairs. -/
structure Pairs (W : World) (a : Option Addr) (n : Nat) (l : Nat → Int × Int) : Prop where
  small : (n : Int) ≤ 9223372036854775807
  at_ : ∀ k, k < n → ∃ g o, a = some ⟨g, o, none⟩ ∧ W.cell? ⟨g, o + k * 2, none⟩ = some (.int .i64 (l k).1) ∧ W.cell? ⟨g, o + k * 2 + 1, none⟩ = some (.int .i64 (l k).2)
  wf : ∀ k, k < n → I64 (l k).1 ∧ I64 (l k).2
section
variable {H : Type} {enc : TypeId × Value → H} {W : World} {base : Nat} {spare : Nat → Bool} {held : Bool}
set_option maxRecDepth 100000 in
theorem Pairs.below {w w' : World} {a : Option Addr} {n : Nat} {l : Nat → Int × Int} (h : Pairs w a n l) (hb : Below w.heap.size w w') : Pairs w' a n l :=
  ⟨h.small, fun k hk => by obtain ⟨g, o, e, c0, c1⟩ := h.at_ k hk; exact ⟨g, o, e, kept_cell hb c0, kept_cell hb c1⟩, h.wf⟩
end
end Go.Proofs.Ytcanbjgbpkofaaa

/-
  The walk over the statement that who runs alone reloads nothing.
-/
namespace Go.Proofs.Ytcanbjgbpkofaaa
open Go.RowKit Go.Maps
attribute [-go_sem] run_eql_struct run_neq_struct
attribute [local go_sem] work_eql workGuard bits_eql bitsGuard

/-- What was seen belongs to one. -/
def SeenOwn (n : Nat) (L : Nat → Int) (id : Int) (p : Nat → Bool) : Prop := ∀ j, j < 256 → p j = true → j < n ∧ L j = id
/-- Who runs alone does a piece of work. -/
theorem alone_step {n : Nat} {L : Nat → Int} {id s : Int} {u : Bool} {rel dn dm : Int} {p : Nat → Bool} (hn : n ≤ 256) (hf : Fits id rel ⟨dn, dm, 0, 0, p⟩) (hs : SeenOwn n L id p) :
    ∃ p', stepW n L id s u rel ⟨dn, dm, 0, 0, p⟩ = (⟨dn + 1, dm, 0, 0, p'⟩, false) ∧ SeenOwn n (stepL n L id s u rel ⟨dn, dm, 0, 0, p⟩) id p' := by
  unfold stepW stepL
  rw [if_pos hf, if_neg (show ¬ (0 : Int) < 0 by omega), if_pos ⟨hf, show ¬ (0 : Int) < 0 by omega⟩]
  unfold workW workL
  by_cases hq : u = true ∧ okSet n s
  · rw [if_pos hq, if_pos hq]
    obtain ⟨h0, h1⟩ := hq.2
    have hno : ¬ (¬ L s.toNat = id ∧ 0 < rel ∧ hasP p s = true) := by
      rintro ⟨a, _, c⟩
      unfold hasP at c
      rw [Bool.and_eq_true] at c
      exact a (hs s.toNat (by omega) c.2).2
    rw [if_neg hno]
    refine ⟨_, rfl, fun j hj hp => ?_⟩
    unfold putL
    by_cases e : (j : Int) = s
    · rw [if_pos e]; exact ⟨by omega, rfl⟩
    · rw [if_neg e]
      unfold bitUp orP oneP at hp
      rw [decide_eq_false e, Bool.or_false] at hp
      exact hs j hj hp
  · rw [if_neg hq, if_neg hq]
    exact ⟨_, rfl, hs⟩
theorem seen_and {n : Nat} {L : Nat → Int} {id : Int} {p : Nat → Bool} (ho : okOwn id) (hs : SeenOwn n L id p) {k : Nat} (hk : k < 4) : wd (andP p (ofP n L id)) k = wd p k := natOf_congr fun j hj => by
  unfold andP ofP
  rw [decide_eq_true ho, Bool.true_and]
  cases h : p (64 * k + j) with
  | false => rfl
  | true =>
    obtain ⟨h1, h2⟩ := hs (64 * k + j) (by omega) h
    simp [h1, h2]

/-- The boxes of the statement: a system, a cache, a task, a work. -/
structure AloAt (w5 : World) (s r : Int) (a5 : Option Addr) (N c5 : Nat) (b rr n : Nat) (Lc : Nat → Int) (gt : Nat) (T : TV) (gw : Nat) (a bb c d : Int) (y : Nat → Nat) (w : World) : Prop where
  low : Below w5.heap.size w5 w
  sb : w.heap[w5.heap.size]? = some (.cells #[.int .i64 s, .int .i64 r, .slice a5 N c5] 28 (0, 0))
  ch : Ch CT w b rr n Lc
  tb : w.heap[gt]? = some (.cells #[.int .i64 T.id, .int .i64 T.c, .int .i64 T.d, .int .i64 T.t, .int .i64 T.p, .slice T.a1 T.ch.length T.c1, .slice T.a2 T.us.length T.c2] TT (0, 0))
  wb : w.heap[gw]? = some (.cells #[.int .i64 a, .int .i64 bb, .int .i64 c, .int .i64 d, .int .u64 (y 0), .int .u64 (y 1), .int .u64 (y 2), .int .u64 (y 3)] WT (0, 0))
  lr : w5.heap.size < rr
  tr : gt ≠ rr
  wr : gw ≠ rr
  wb2 : gw ≠ b
  wt : gw ≠ gt
  ws : w5.heap.size < gw
theorem AloAt.below {w5 : World} {s r : Int} {a5 : Option Addr} {N c5 b rr n : Nat} {Lc : Nat → Int} {gt : Nat} {T : TV} {gw : Nat} {a bb c d : Int} {y : Nat → Nat} {w w' : World} (h : AloAt w5 s r a5 N c5 b rr n Lc gt T gw a bb c d y w) (hb : Below w.heap.size w w') : AloAt w5 s r a5 N c5 b rr n Lc gt T gw a bb c d y w' :=
  ⟨below_up h.low hb, kept_obj hb h.sb, h.ch.below hb, kept_obj hb h.tb, kept_obj hb h.wb, h.lr, h.tr, h.wr, h.wb2, h.wt, h.ws⟩
theorem AloAt.turn {w5 : World} {s r : Int} {a5 : Option Addr} {N c5 b rr n : Nat} {Lc : Nat → Int} {gt : Nat} {T : TV} {gw : Nat} {a bb c d : Int} {y : Nat → Nat} {Lc' : Nat → Int} {w w' : World} (h : AloAt w5 s r a5 N c5 b rr n Lc gt T gw a bb c d y w) (ht : Turn (fun k => k = rr) w w') (hc : Ch CT w' b rr n Lc') : AloAt w5 s r a5 N c5 b rr n Lc' gt T gw a bb c d y w' :=
  ⟨h.low.trans (ht.below (B := w5.heap.size) h.low.size (fun i q => by subst q; exact Nat.le_of_lt h.lr)), ht.obj h.sb (Nat.ne_of_lt h.lr), hc, ht.obj h.tb h.tr, ht.obj h.wb h.wr, h.lr, h.tr, h.wr, h.wb2, h.wt, h.ws⟩
theorem AloAt.put {w5 : World} {s r : Int} {a5 : Option Addr} {N c5 b rr n : Nat} {Lc : Nat → Int} {gt : Nat} {T : TV} {gw : Nat} {a bb c d : Int} {y : Nat → Nat} {w : World} (h : AloAt w5 s r a5 N c5 b rr n Lc gt T gw a bb c d y w) (a' b' c' d' : Int) (y' : Nat → Nat) : AloAt w5 s r a5 N c5 b rr n Lc gt T gw a' b' c' d' y' ((((((((w.setCell ⟨gw, 0, none⟩ (.int .i64 a')).setCell ⟨gw, 1, none⟩ (.int .i64 b')).setCell ⟨gw, 2, none⟩ (.int .i64 c')).setCell ⟨gw, 3, none⟩ (.int .i64 d')).setCell ⟨gw, 4, none⟩ (.int .u64 (y' 0))).setCell ⟨gw, 5, none⟩ (.int .u64 (y' 1))).setCell ⟨gw, 6, none⟩ (.int .u64 (y' 2))).setCell ⟨gw, 7, none⟩ (.int .u64 (y' 3))) := by
  have hs : ∀ (o : Nat) (v : Value) (w : World), Below w5.heap.size w5 w → Below w5.heap.size w5 (w.setCell ⟨gw, o, none⟩ v) := fun o v w hw => hw.setCell (p := ⟨gw, o, none⟩) (Nat.le_of_lt h.ws) v
  obtain ⟨cur, h3, h4, h5⟩ := h.ch.row
  exact ⟨hs _ _ _ (hs _ _ _ (hs _ _ _ (hs _ _ _ (hs _ _ _ (hs _ _ _ (hs _ _ _ (hs _ _ _ (h.low)))))))), (far8 (Nat.ne_of_lt h.ws) (.int .i64 a') (.int .i64 b') (.int .i64 c') (.int .i64 d') (.int .u64 (y' 0)) (.int .u64 (y' 1)) (.int .u64 (y' 2)) (.int .u64 (y' 3))).trans h.sb, ⟨(far8 h.wb2.symm (.int .i64 a') (.int .i64 b') (.int .i64 c') (.int .i64 d') (.int .u64 (y' 0)) (.int .u64 (y' 1)) (.int .u64 (y' 2)) (.int .u64 (y' 3))).trans h.ch.str, ⟨cur, (far8 h.wr.symm (.int .i64 a') (.int .i64 b') (.int .i64 c') (.int .i64 d') (.int .u64 (y' 0)) (.int .u64 (y' 1)) (.int .u64 (y' 2)) (.int .u64 (y' 3))).trans h3, h4, h5⟩, h.ch.ne, h.ch.few, h.ch.wf⟩, (far8 h.wt.symm (.int .i64 a') (.int .i64 b') (.int .i64 c') (.int .i64 d') (.int .u64 (y' 0)) (.int .u64 (y' 1)) (.int .u64 (y' 2)) (.int .u64 (y' 3))).trans h.tb, box_set8 h.wb (.int .i64 a') (.int .i64 b') (.int .i64 c') (.int .i64 d') (.int .u64 (y' 0)) (.int .u64 (y' 1)) (.int .u64 (y' 2)) (.int .u64 (y' 3)), h.lr, h.tr, h.wr, h.wb2, h.wt, h.ws⟩

end Go.Proofs.Ytcanbjgbpkofaaa

/-
  The walk over the statement of what a job that runs alone has in the cache.
-/
namespace Go.Proofs.Ytcanbjgbpkofaaa
open Go.RowKit Go.Maps Go.Shelf
attribute [-go_sem] run_min_int2 run_eql_struct run_neq_struct
attribute [local go_sem] bits_eql bits_neq none_eql none_neq bitsGuard

/-- The sets that are one's are just these. -/
def RunOwn (n : Nat) (L : Nat → Int) (id : Int) (p : Nat → Bool) : Prop := ∀ j, j < 256 → (p j = true ↔ j < n ∧ L j = id)
theorem run_no {n : Nat} {L : Nat → Int} {id s : Int} {rel dn dm : Int} {p : Nat → Bool} (hf : Fits id rel ⟨dn, dm, 0, 0, p⟩) :
    stepW n L id s false rel ⟨dn, dm, 0, 0, p⟩ = (⟨dn + 1, dm, 0, 0, p⟩, false) ∧ stepL n L id s false rel ⟨dn, dm, 0, 0, p⟩ = L := by
  have hq : ¬ (false = true ∧ okSet n s) := fun h => by cases h.1
  unfold stepW stepL
  rw [if_pos hf, if_neg (show ¬ (0 : Int) < 0 by omega), if_pos ⟨hf, show ¬ (0 : Int) < 0 by omega⟩]
  unfold workW workL
  rw [if_neg hq, if_neg hq]
  exact ⟨rfl, rfl⟩
theorem run_yes {n : Nat} {L : Nat → Int} {id s : Int} {rel dn dm : Int} {p : Nat → Bool} (hn : n ≤ 256) (hf : Fits id rel ⟨dn, dm, 0, 0, p⟩) (ho : RunOwn n L id p) (hs : okSet n s) :
    stepW n L id s true rel ⟨dn, dm, 0, 0, p⟩ = (⟨dn + 1, dm, 0, 0, orP p (oneP s)⟩, false) ∧ RunOwn n (stepL n L id s true rel ⟨dn, dm, 0, 0, p⟩) id (orP p (oneP s)) := by
  have hq : true = true ∧ okSet n s := ⟨rfl, hs⟩
  unfold stepW stepL
  rw [if_pos hf, if_neg (show ¬ (0 : Int) < 0 by omega), if_pos ⟨hf, show ¬ (0 : Int) < 0 by omega⟩]
  unfold workW workL
  rw [if_pos hq, if_pos hq]
  obtain ⟨h0, h1⟩ := hs
  have hno : ¬ (¬ L s.toNat = id ∧ 0 < rel ∧ hasP p s = true) := by
    rintro ⟨a, _, c⟩
    unfold hasP at c
    rw [Bool.and_eq_true] at c
    exact a ((ho s.toNat (by omega)).1 c.2).2
  rw [if_neg hno]
  refine ⟨rfl, fun j hj => ?_⟩
  unfold putL orP oneP
  by_cases e : (j : Int) = s
  · rw [if_pos e, decide_eq_true e, Bool.or_true]
    exact ⟨fun _ => ⟨by omega, rfl⟩, fun _ => rfl⟩
  · rw [if_neg e, decide_eq_false e, Bool.or_false]
    exact ho j hj
theorem run_of {n : Nat} {L : Nat → Int} {id : Int} {p : Nat → Bool} (hi : okOwn id) (ho : RunOwn n L id p) {k : Nat} (hk : k < 4) : wd (ofP n L id) k = wd p k := natOf_congr fun j hj => by
  have h := ho (64 * k + j) (by omega)
  unfold ofP
  rw [decide_eq_true hi, Bool.true_and]
  cases hp : p (64 * k + j) with
  | false =>
    rw [hp] at h
    rw [← Bool.decide_and, decide_eq_false_iff_not]
    exact fun q => by cases h.2 q
  | true =>
    obtain ⟨a, b⟩ := h.1 hp
    simp [a, b]
/-- The next tick of a job that runs alone. -/
theorem run_next {n : Nat} {L : Nat → Int} {T : TV} {rel dm : Int} {a i : Nat} (hai : a ≤ i) (hn : n ≤ 256) (hT : ∀ u ∈ T.us, 0 ≤ u ∧ u < n) (hf : Fits T.id rel ⟨i, dm, 0, 0, inP T.us a i⟩) (ho : RunOwn n L T.id (inP T.us a i)) :
    stepW n L T.id (accOf T i).1 (accOf T i).2 rel ⟨i, dm, 0, 0, inP T.us a i⟩ = (⟨i + 1, dm, 0, 0, inP T.us a (i + 1)⟩, false) ∧ RunOwn n (stepL n L T.id (accOf T i).1 (accOf T i).2 rel ⟨i, dm, 0, 0, inP T.us a i⟩) T.id (inP T.us a (i + 1)) := by
  by_cases hu : T.us = []
  · rw [acc_nil (by omega) hu]
    have h := run_no (n := n) (L := L) (s := 0) hf
    have e : inP T.us a (i + 1) = inP T.us a i := by rw [hu]; funext x; rw [inP_nil, inP_nil]
    rw [e]
    exact ⟨h.1, by rw [h.2]; exact ho⟩
  · rw [access_use T i hu]
    have hin : okSet n (useI T.us i) := by
      unfold useI
      have h0 : 0 < T.us.length := List.length_pos_iff.2 hu
      have hl := Nat.mod_lt i h0
      rw [List.getD_eq_getElem?_getD, List.getElem?_eq_getElem hl]
      exact hT _ (List.getElem_mem hl)
    have h := run_yes (s := useI T.us i) hn hf ho hin
    rw [← inP_next T.us i hai] at h
    exact h
theorem AloAt.seen {w5 : World} {s r : Int} {a5 : Option Addr} {N c5 b rr n : Nat} {Lc : Nat → Int} {gt : Nat} {T : TV} {gw : Nat} {a bb c d : Int} {y : Nat → Nat} {w : World} (h : AloAt w5 s r a5 N c5 b rr n Lc gt T gw a bb c d y w) (y' : Nat → Nat) :
    AloAt w5 s r a5 N c5 b rr n Lc gt T gw a bb c d y' ((((w.setCell ⟨gw, 4, none⟩ (.int .u64 (y' 0))).setCell ⟨gw, 5, none⟩ (.int .u64 (y' 1))).setCell ⟨gw, 6, none⟩ (.int .u64 (y' 2))).setCell ⟨gw, 7, none⟩ (.int .u64 (y' 3))) := by
  have hs : ∀ (o : Nat) (v : Value) (w : World), Below w5.heap.size w5 w → Below w5.heap.size w5 (w.setCell ⟨gw, o, none⟩ v) := fun o v w hw => hw.setCell (p := ⟨gw, o, none⟩) (Nat.le_of_lt h.ws) v
  have hfar : ∀ (k : Nat), k ≠ gw → ((((w.setCell ⟨gw, 4, none⟩ (.int .u64 (y' 0))).setCell ⟨gw, 5, none⟩ (.int .u64 (y' 1))).setCell ⟨gw, 6, none⟩ (.int .u64 (y' 2))).setCell ⟨gw, 7, none⟩ (.int .u64 (y' 3))).heap[k]? = w.heap[k]? := fun k hk => by
    rw [blk_far (a := ⟨gw, 7, none⟩) hk, blk_far (a := ⟨gw, 6, none⟩) hk, blk_far (a := ⟨gw, 5, none⟩) hk, blk_far (a := ⟨gw, 4, none⟩) hk]
  obtain ⟨cur, h3, h4, h5⟩ := h.ch.row
  exact ⟨hs _ _ _ (hs _ _ _ (hs _ _ _ (hs _ _ _ h.low))), (hfar _ (Nat.ne_of_lt h.ws)).trans h.sb, ⟨(hfar _ h.wb2.symm).trans h.ch.str, ⟨cur, (hfar _ h.wr.symm).trans h3, h4, h5⟩, h.ch.ne, h.ch.few, h.ch.wf⟩, (hfar _ h.wt.symm).trans h.tb,
    (blk_set ((blk_set ((blk_set ((blk_set h.wb _).trans rfl) _).trans rfl) _).trans rfl) _).trans rfl, h.lr, h.tr, h.wr, h.wb2, h.wt, h.ws⟩
theorem AloAt.words {w5 : World} {s r : Int} {a5 : Option Addr} {N c5 b rr n : Nat} {Lc : Nat → Int} {gt : Nat} {T : TV} {gw : Nat} {a bb c d : Int} {y y' : Nat → Nat} {w : World} (h : AloAt w5 s r a5 N c5 b rr n Lc gt T gw a bb c d y w) (e : ∀ k, y k = y' k) :
    AloAt w5 s r a5 N c5 b rr n Lc gt T gw a bb c d y' w := by
  obtain rfl : y = y' := funext e
  exact h
theorem run_none (n : Nat) {id : Int} (hi : okOwn id) : RunOwn n (fun _ => 0) id noneP := fun j _ => ⟨fun h => (by cases h), fun h => by have h2 := h.2; dsimp only at h2; unfold okOwn at hi; omega⟩

set_option maxRecDepth 100000 in
set_option maxHeartbeats 16000000 in
theorem law_runs (W : World) (S R : Int) (a : Option Addr) (n cap : Nat) (L : List NV) (hn : Nums W a n cap L) (which at_ : Int) :
    Calls Try.prog 5 #[.agg #[.int .i64 S, .int .i64 R, .slice a n cap], .int .i64 which, .int .i64 at_] W fun e w' => e = .returned (.bool true) ∧ Below W.heap.size W w' := by
  have HN := Lib.hid hn
  have hz2 := zeroSys
  clear hn
  go_enter Try.func5, Try.ntmps5
  go_upto_region 1 with fail
  refine gen_world (fun v => Below W.heap.size W v ∧ v.heap[W.heap.size]? = some (.cells #[.int .i64 S, .int .i64 R, .slice a n cap] 24 (0, 0))) ⟨(by repeat (first | exact Below.refl _ _ | (with_reducible assumption) | refine bw_alloc ?_ _ | refine bw_drew ?_)), heap_alloc_new W _⟩ ?_
  intro W1 ⟨hl1, hb0⟩
  have HL1 := Lib.hid hl1
  have HB0 := Lib.hid hb0
  clear hl1 hb0
  go_upto_region 2 with (go_at_call 8; (with_reducible refine (awake_any _).mono ?_); rintro e w1 ⟨rfl, b1⟩; have HL2 := Lib.hid (below_up HL1.out b1); have HB1 := Lib.hid (kept_obj b1 HB0.out); clear b1)
  have d0 : w1.cell? ⟨W.heap.size, 0, none⟩ = some (.int .i64 S) := by rw [blk_cell HB1.out]; rfl
  have d1 : w1.cell? ⟨W.heap.size, 1, none⟩ = some (.int .i64 R) := by rw [blk_cell HB1.out]; rfl
  have d2 : w1.cell? ⟨W.heap.size, 2, none⟩ = some (.slice a n cap) := by rw [blk_cell HB1.out]; rfl
  have C := Lib.hid (made5_any S R (HN.out.below HL2.out))
  go_upto_region 3 with (go_at_call 9; (with_reducible refine (C.out).mono ?_); rintro e w5 ⟨s, r, a5, N, c5, M, rfl, ho5, hok5, hi5, hm5, b5⟩; have HT5 := Lib.hid (ho5.tasks hok5); have HM := Lib.hid hm5; have HL5 := Lib.hid (below_up HL2.out b5); clear ho5 hok5 hi5 hm5 b5)
  have hN1 : 0 < N := by have := HM.out.pos; have := HT5.out.len; omega
  have hN6 : N ≤ 6 := by have := HM.out.six; have := HT5.out.len; omega
  obtain ⟨ns, rfl⟩ : ∃ ns : Nat, s = (ns : Int) := ⟨s.toNat, by have := HM.out.s1; omega⟩
  have hns : ns ≤ 8 := by have := HM.out.s8; omega
  have hr0 := HM.out.r0
  have hr3 := HM.out.r3
  obtain ⟨g5, o5, rfl⟩ : ∃ g o, a5 = some ⟨g, o, none⟩ := by
    obtain ⟨t0, ht0⟩ := nth_of HT5.out.len hN1
    obtain ⟨g, o, e, _⟩ := HT5.out.view.at_ ht0
    exact ⟨g, o, e⟩
  refine gen_world (fun v => Below w5.heap.size w5 v ∧ v.heap[w5.heap.size]? = some (.cells #[.int .i64 (ns : Int), .int .i64 r, .slice (some ⟨g5, o5, none⟩) N c5] 28 (0, 0))) ⟨(by repeat (first | exact Below.refl _ _ | (with_reducible assumption) | refine bw_alloc ?_ _ | refine bw_drew ?_)), heap_alloc_new w5 _⟩ ?_
  intro W6 ⟨hl6, hs6⟩
  have HL6 := Lib.hid hl6
  have HS6 := Lib.hid hs6
  have HTL : Hid (∀ i T, M[i]? = some T → Told T ∧ T.ok w5 ∧ At w5 g5 (o5 + i * 7) T ∧ T.id = (i : Int) + 1 ∧ ∃ C : Nat, T.c = (C : Int) ∧ 1 ≤ C ∧ C ≤ 24) := fun i T hT => by
    have hg := HM.out.good i T hT
    refine ⟨hg.told HM.out.s8, HT5.out.ok.at_ hT, ?_, hg.id, T.c.toNat, by have := hg.c1; omega, by have := hg.c1; omega, by have := hg.cd; have := hg.dt; have := hg.t24; omega⟩
    obtain ⟨g, o, e, h⟩ := HT5.out.view.at_ hT
    cases e
    exact h
  clear hl6 hs6 C d0 d1 d2 HL1 HL2 HB0 HB1 hz2
  obtain ⟨P, hP, hP2⟩ := and_small at_ 31 (by omega)
  have HPE : Hid (bits .and .i64 at_ 31 = (P : Int)) := hP2
  clear hP2
  obtain ⟨t, k, e1, v2, v3, v4, v5⟩ : ∃ (t : Int) (k : Nat), which.tmod N = t ∧ -(N : Int) < t ∧ t < N ∧ (t + N) % N = (k : Int) ∧ k < N := by
    have a := Int.tmod_lt_of_pos which (show (0 : Int) < N by omega)
    have b := Int.lt_tmod_of_pos which (show (0 : Int) < N by omega)
    have c := Int.emod_nonneg (which.tmod N + N) (show (N : Int) ≠ 0 by omega)
    have d := Int.emod_lt_of_pos (which.tmod N + N) (show (0 : Int) < N by omega)
    exact ⟨which.tmod N, ((which.tmod N + N) % N).toNat, rfl, b, a, by omega, by omega⟩
  have x1 : IntKind.i64.wrap (t + (N : Int)) = t + N := IntWalk.i64_in _ (by omega)
  have x2 : (t + (N : Int)).tmod N = (k : Int) := by rw [Int.tmod_eq_emod_of_nonneg (by omega)]; exact v4
  have z1 : ((N : Int) == 0) = false := by rw [beq_eq_false_iff_ne]; omega
  have z2 : ¬ (N : Int) = 0 := by omega
  have z3 : ¬ N = 0 := by omega
  have z4 : 0 ≤ t + (N : Int) := by omega
  have s2 : W6.cell? ⟨w5.heap.size, 2, none⟩ = some (.slice (some ⟨g5, o5, none⟩) N c5) := by rw [blk_cell HS6.out]; rfl
  clear v4
  go_quiet (fail)
  obtain ⟨T, hT⟩ := nth_of HT5.out.len v5
  have HTI := Lib.hid (HTL.out k T hT)
  have HG := Lib.hid (HM.out.good k T hT)
  obtain ⟨C, hC, hC1, hC24⟩ := HTI.out.2.2.2.2
  have HC := Lib.hid hC
  have hk0 : (0 : Int) ≤ (k : Int) := by omega
  have hkN : (k : Int) < (N : Int) := by omega
  clear hC e1 v2 v3 x1 x2 z1 z2 z3 z4
  go_upto_region 4 with fail
  refine gen_world (fun v => Below w5.heap.size w5 v ∧ v.heap[w5.heap.size]? = some (.cells #[.int .i64 (ns : Int), .int .i64 r, .slice (some ⟨g5, o5, none⟩) N c5] 28 (0, 0))) ⟨below_up HL6.out ⟨rfl, rfl, rfl, Nat.le_refl _, fun _ _ => rfl⟩, HS6.out⟩ ?_
  intro V1 ⟨hl1, hs1⟩
  have HL1 := Lib.hid hl1
  have HS1 := Lib.hid hs1
  clear s2
  have s2 : V1.cell? ⟨w5.heap.size, 2, none⟩ = some (.slice (some ⟨g5, o5, none⟩) N c5) := by rw [blk_cell hs1]; rfl
  obtain ⟨y0, y1, y2, y3, y4, y5, y6⟩ := HTI.out.2.2.1
  have t0 := kept_cell hl1 y0
  have t1 := kept_cell hl1 y1
  have t2 := kept_cell hl1 y2
  have t3 := kept_cell hl1 y3
  have t4 := kept_cell hl1 y4
  have t5 := kept_cell hl1 y5
  have t6 := kept_cell hl1 y6
  clear y0 y1 y2 y3 y4 y5 y6 hl1 hs1
  go_upto_region 5 with fail
  refine gen_world (fun v => Below V1.heap.size V1 v ∧ v.heap[V1.heap.size]? = some (.cells #[.int .i64 T.id, .int .i64 T.c, .int .i64 T.d, .int .i64 T.t, .int .i64 T.p, .slice T.a1 T.ch.length T.c1, .slice T.a2 T.us.length T.c2] TT (0, 0))) ⟨(by repeat (first | exact Below.refl _ _ | (with_reducible assumption) | refine bw_alloc ?_ _ | refine bw_drew ?_)), heap_alloc_new V1 _⟩ ?_
  intro V2 ⟨hl2, ht2⟩
  have HL2 := Lib.hid (below_up HL1.out hl2)
  have HS2 := Lib.hid (kept_obj hl2 HS1.out)
  have HT2 := Lib.hid ht2
  have hsz2 := Nat.lt_of_lt_of_le (lt_of_block HS1.out) (Nat.le_refl _)
  obtain ⟨gt, hgt⟩ : ∃ gt, V1.heap.size = gt := ⟨_, rfl⟩
  rw [hgt] at HT2 hsz2 ⊢
  have HGS := Lib.hid hsz2
  clear hl2 ht2 hgt s2 t0 t1 t2 t3 t4 t5 t6 hsz2
  have z0 : V2.cell? ⟨w5.heap.size, 0, none⟩ = some (.int .i64 (ns : Int)) := by rw [blk_cell HS2.out]; rfl
  have CN := Lib.hid (cnew_some ns (by omega) V2)
  go_upto_region 8 with (go_at_call 18; (refine (CN.out).mono ?_); rintro e V3 ⟨b, rr, rfl, hc, hb, hrr, b3⟩; have HCH := Lib.hid hc; have HBB := Lib.hid hb; have HRR := Lib.hid hrr; have HL3 := Lib.hid (below_up HL2.out b3); have HS3 := Lib.hid (kept_obj b3 HS2.out); have HT3 := Lib.hid (kept_obj b3 HT2.out); clear hc hb hrr b3)
  clear CN z0
  obtain ⟨Q, hQ⟩ : ∃ Q, min P C = Q := ⟨_, rfl⟩
  have hQC : Q ≤ C := by omega
  have mn : ∀ (ts : Array TypeId) (t : TypeId) (w : World), (Builtin.min_ ts t #[.int .i64 (P : Int), .int .i64 T.c]).run Try.prog w = .ok (.int .i64 (Q : Int)) w := fun ts t w => by
    rw [run_min_int2, HC.out]
    by_cases h : (C : Int) < (P : Int)
    · rw [if_pos h, show (C : Int) = (Q : Int) by omega]
    · rw [if_neg h, show (P : Int) = (Q : Int) by omega]
  have hPE := HPE.out
  clear hQ hP
  have t0 : V3.cell? ⟨gt, 0, none⟩ = some (.int .i64 T.id) := by rw [blk_cell HT3.out]; rfl
  have t1 : V3.cell? ⟨gt, 1, none⟩ = some (.int .i64 T.c) := by rw [blk_cell HT3.out]; rfl
  have t2 : V3.cell? ⟨gt, 2, none⟩ = some (.int .i64 T.d) := by rw [blk_cell HT3.out]; rfl
  have t3 : V3.cell? ⟨gt, 3, none⟩ = some (.int .i64 T.t) := by rw [blk_cell HT3.out]; rfl
  have t4 : V3.cell? ⟨gt, 4, none⟩ = some (.int .i64 T.p) := by rw [blk_cell HT3.out]; rfl
  have t5 : V3.cell? ⟨gt, 5, none⟩ = some (.slice T.a1 T.ch.length T.c1) := by rw [blk_cell HT3.out]; rfl
  have t6 : V3.cell? ⟨gt, 6, none⟩ = some (.slice T.a2 T.us.length T.c2) := by rw [blk_cell HT3.out]; rfl
  go_upto_region 10 with fail
  have hgw1 : gt < V3.heap.size := lt_of_block HT3.out
  refine gen_world (AloAt w5 (ns : Int) r (some ⟨g5, o5, none⟩) N c5 b rr ns (fun _ => 0) gt T V3.heap.size (0 : Nat) T.c 0 0 (wd (inP T.us 0 0))) ⟨below_up HL3.out (by repeat (first | exact Below.refl _ _ | (with_reducible assumption) | refine bw_alloc ?_ _ | refine bw_drew ?_)), kept_obj (by repeat (first | exact Below.refl _ _ | (with_reducible assumption) | refine bw_alloc ?_ _ | refine bw_drew ?_)) HS3.out, HCH.out.below (by repeat (first | exact Below.refl _ _ | (with_reducible assumption) | refine bw_alloc ?_ _ | refine bw_drew ?_)), kept_obj (by repeat (first | exact Below.refl _ _ | (with_reducible assumption) | refine bw_alloc ?_ _ | refine bw_drew ?_)) HT3.out, (by rw [inP_empty T.us (Nat.le_refl 0), wd_none, wd_none, wd_none, wd_none]; exact heap_alloc_new V3 _), by have := HRR.out; have := lt_of_block HS2.out; omega, by have := HRR.out; have := lt_of_block HT2.out; omega, by have := HCH.out.lt.2; omega, by have := HCH.out.lt.1; omega, by omega, by have := HGS.out; omega⟩ ?_
  intro V4 hv4
  have H4 := Lib.hid hv4
  obtain ⟨gw, hgw⟩ : ∃ gw, V3.heap.size = gw := ⟨_, rfl⟩
  rw [hgw] at H4 ⊢
  clear hv4 mn hPE hgw hgw1 t0 t1 t2 t3 t4 t5 t6
  have HOWN : Hid (okOwn T.id) := ⟨by have := HG.out.id; omega, by have := HG.out.id; omega⟩
  have HF : Hid (∀ (i : Nat) (p : Nat → Bool), i < C → Fits T.id r ⟨i, T.c, 0, 0, p⟩) := fun i p h => ⟨HOWN.out, by omega, by omega, by show (0 : Int) ≤ i; omega, by show (i : Int) < T.c; have := HC.out; omega, by show (0 : Int) ≤ 0; omega⟩
  have HUS : Hid (∀ u ∈ T.us, 0 ≤ u ∧ u < (ns : Int)) := HG.out.us
  have HTO := Lib.hid HTI.out.2.1
  have HTT := Lib.hid HTI.out.1
  go_upto_block 0 with fail
  go_cut [14] from 50 to 63 (fun u wx => ∃ Lc : Nat → Int, Hid (AloAt w5 (ns : Int) r (some ⟨g5, o5, none⟩) N c5 b rr ns Lc gt T gw (Q : Nat) T.c 0 0 (wd (inP T.us 0 Q)) wx) ∧ Hid (RunOwn ns Lc T.id (inP T.us 0 Q)))
  case first =>
    go_wp2_with fail
    go_loopw [14] (fun u wr => ∃ (i : Nat) (Lc : Nat → Int), 0 ≤ i ∧ i ≤ Q ∧ u = .int .i64 i ∧ Hid (AloAt w5 (ns : Int) r (some ⟨g5, o5, none⟩) N c5 b rr ns Lc gt T gw (i : Nat) T.c 0 0 (wd (inP T.us 0 i)) wr) ∧ Hid (RunOwn ns Lc T.id (inP T.us 0 i))) (fun u _ => (Q - intOf u).toNat)
    case atStart => exact ⟨0, fun _ => 0, Nat.le_refl _, Nat.zero_le _, rfl, H4, by rw [inP_empty T.us (Nat.le_refl 0)]; exact run_none ns HOWN.out⟩
    case round =>
      obtain ⟨i, Lc, hia, hi, rfl, HQ, HS⟩ := hrel
      clear H4
      have s1 : wr.cell? ⟨w5.heap.size, 1, none⟩ = some (.int .i64 r) := by rw [blk_cell HQ.out.sb]; rfl
      have t0 : wr.cell? ⟨gt, 0, none⟩ = some (.int .i64 T.id) := by rw [blk_cell HQ.out.tb]; rfl
      have t1 : wr.cell? ⟨gt, 1, none⟩ = some (.int .i64 T.c) := by rw [blk_cell HQ.out.tb]; rfl
      have t2 : wr.cell? ⟨gt, 2, none⟩ = some (.int .i64 T.d) := by rw [blk_cell HQ.out.tb]; rfl
      have t3 : wr.cell? ⟨gt, 3, none⟩ = some (.int .i64 T.t) := by rw [blk_cell HQ.out.tb]; rfl
      have t4 : wr.cell? ⟨gt, 4, none⟩ = some (.int .i64 T.p) := by rw [blk_cell HQ.out.tb]; rfl
      have t5 : wr.cell? ⟨gt, 5, none⟩ = some (.slice T.a1 T.ch.length T.c1) := by rw [blk_cell HQ.out.tb]; rfl
      have t6 : wr.cell? ⟨gt, 6, none⟩ = some (.slice T.a2 T.us.length T.c2) := by rw [blk_cell HQ.out.tb]; rfl
      have q0 : wr.cell? ⟨gw, 0, none⟩ = some (.int .i64 (i : Nat)) := by rw [blk_cell HQ.out.wb]; rfl
      have q1 : wr.cell? ⟨gw, 1, none⟩ = some (.int .i64 T.c) := by rw [blk_cell HQ.out.wb]; rfl
      have q2 : wr.cell? ⟨gw, 2, none⟩ = some (.int .i64 0) := by rw [blk_cell HQ.out.wb]; rfl
      have q3 : wr.cell? ⟨gw, 3, none⟩ = some (.int .i64 0) := by rw [blk_cell HQ.out.wb]; rfl
      have q4 : wr.cell? ⟨gw, 4, none⟩ = some (.int .u64 (wd (inP T.us 0 i) 0)) := by rw [blk_cell HQ.out.wb]; rfl
      have q5 : wr.cell? ⟨gw, 5, none⟩ = some (.int .u64 (wd (inP T.us 0 i) 1)) := by rw [blk_cell HQ.out.wb]; rfl
      have q6 : wr.cell? ⟨gw, 6, none⟩ = some (.int .u64 (wd (inP T.us 0 i) 2)) := by rw [blk_cell HQ.out.wb]; rfl
      have q7 : wr.cell? ⟨gw, 7, none⟩ = some (.int .u64 (wd (inP T.us 0 i) 3)) := by rw [blk_cell HQ.out.wb]; rfl
      by_cases hlt : i < Q
      · have hi1 : (i : Int) < (Q : Int) := by have := HC.out; omega
        have hi4 : IntKind.i64.wrap ((i : Int) + 1) = (i : Int) + 1 := IntWalk.i64_in _ (by omega)
        obtain ⟨hst, hse⟩ := run_next hia HQ.out.ch.few HUS.out (HF.out i (inP T.us 0 i) (by omega)) HS.out
        have STC := Lib.hid (cstep_any T r i T.c 0 0 (inP T.us 0 i) wr HQ.out.ch (HTO.out.below HQ.out.low) (by have := HC.out; omega) (by omega))
        rw [hst] at STC
        unfold StepBack at STC
        dsimp only at STC
        generalize stepL ns Lc T.id (accOf T i).1 (accOf T i).2 r ⟨i, T.c, 0, 0, inP T.us 0 i⟩ = L2 at STC hse
        have HSE := Lib.hid hse
        clear hst hse
        go_wp2_with (go_at_call 19; (refine STC.out.mono ?_); rintro e w7 ⟨rfl, hc7, ht7⟩; have H7 := Lib.hid (HQ.out.turn ht7 hc7); clear hc7 ht7; have v0 : w7.cell? ⟨gw, 0, none⟩ = some (.int .i64 (i : Nat)) := (by rw [blk_cell H7.out.wb]; rfl); have v1 : w7.cell? ⟨gw, 1, none⟩ = some (.int .i64 T.c) := (by rw [blk_cell H7.out.wb]; rfl); have v2 : w7.cell? ⟨gw, 2, none⟩ = some (.int .i64 0) := (by rw [blk_cell H7.out.wb]; rfl); have v3 : w7.cell? ⟨gw, 3, none⟩ = some (.int .i64 0) := (by rw [blk_cell H7.out.wb]; rfl); have v4 : w7.cell? ⟨gw, 4, none⟩ = some (.int .u64 (wd (inP T.us 0 i) 0)) := (by rw [blk_cell H7.out.wb]; rfl); have v5 : w7.cell? ⟨gw, 5, none⟩ = some (.int .u64 (wd (inP T.us 0 i) 1)) := (by rw [blk_cell H7.out.wb]; rfl); have v6 : w7.cell? ⟨gw, 6, none⟩ = some (.int .u64 (wd (inP T.us 0 i) 2)) := (by rw [blk_cell H7.out.wb]; rfl); have v7 : w7.cell? ⟨gw, 7, none⟩ = some (.int .u64 (wd (inP T.us 0 i) 3)) := (by rw [blk_cell H7.out.wb]; rfl); have f0 := blk_free H7.out.wb 0; have f1 := blk_free H7.out.wb 1; have f2 := blk_free H7.out.wb 2; have f3 := blk_free H7.out.wb 3; have f4 := blk_free H7.out.wb 4; have f5 := blk_free H7.out.wb 5; have f6 := blk_free H7.out.wb 6; have f7 := blk_free H7.out.wb 7)
        go_roundw
        case rel => exact ⟨i + 1, L2, by omega, by omega, by go_num, H7.out.put ((i : Int) + 1) T.c 0 0 (wd (inP T.us 0 (i + 1))), HSE⟩
        case measure => simp [intOf]; omega
      · obtain rfl : i = Q := by omega
        have hi1 : ¬ (i : Int) < (i : Int) := by have := HC.out; omega
        go_wp2_with fail
        go_meet
        exact ⟨Lc, HQ, HS⟩
  case rest =>
    obtain ⟨L1, H5, HR5⟩ := hcut
    have OC := Lib.hid (cof_any H5.out.ch T.id)
    unfold OfBack at OC
    rw [run_of HOWN.out HR5.out (show 0 < 4 by omega), run_of HOWN.out HR5.out (show 1 < 4 by omega), run_of HOWN.out HR5.out (show 2 < 4 by omega), run_of HOWN.out HR5.out (show 3 < 4 by omega)] at OC
    have BC := Lib.hid (fun (v : World) (hv : Below wc.heap.size wc v) => before_any T HTT.out C Q HC.out v (HTO.out.below (below_up H5.out.low hv)))
    rw [Nat.min_eq_left hQC] at BC
    unfold SetBack at BC
    obtain ⟨X, hX⟩ : ∃ X, wd (inP T.us 0 Q) = X := ⟨_, rfl⟩
    have HX := Lib.hid hX
    have OC2 := Lib.hid (fun (v : World) (hv : Below wc.heap.size wc v) => cof_any (H5.out.ch.below hv) T.id)
    unfold OfBack at OC2
    rw [run_of HOWN.out HR5.out (show 0 < 4 by omega), run_of HOWN.out HR5.out (show 1 < 4 by omega), run_of HOWN.out HR5.out (show 2 < 4 by omega), run_of HOWN.out HR5.out (show 3 < 4 by omega)] at OC2
    rw [hX] at BC OC2 H5
    clear OC hX
    have QX := eq4_self (X 0) (X 1) (X 2) (X 3)
    have MK : Hid (∀ w', Below wc.heap.size wc w' → (w'.cell? ⟨gt, 0, none⟩ = some (.int .i64 T.id) ∧ w'.cell? ⟨gt, 1, none⟩ = some (.int .i64 T.c) ∧ w'.cell? ⟨gt, 2, none⟩ = some (.int .i64 T.d) ∧ w'.cell? ⟨gt, 3, none⟩ = some (.int .i64 T.t) ∧ w'.cell? ⟨gt, 4, none⟩ = some (.int .i64 T.p) ∧ w'.cell? ⟨gt, 5, none⟩ = some (.slice T.a1 T.ch.length T.c1) ∧ w'.cell? ⟨gt, 6, none⟩ = some (.slice T.a2 T.us.length T.c2) ∧ w'.cell? ⟨gw, 4, none⟩ = some (.int .u64 (X 0)) ∧ w'.cell? ⟨gw, 5, none⟩ = some (.int .u64 (X 1)) ∧ w'.cell? ⟨gw, 6, none⟩ = some (.int .u64 (X 2)) ∧ w'.cell? ⟨gw, 7, none⟩ = some (.int .u64 (X 3)))) := fun w' hb => by
      have h := H5.out.below hb
      exact ⟨by rw [blk_cell h.tb]; rfl, by rw [blk_cell h.tb]; rfl, by rw [blk_cell h.tb]; rfl, by rw [blk_cell h.tb]; rfl, by rw [blk_cell h.tb]; rfl, by rw [blk_cell h.tb]; rfl, by rw [blk_cell h.tb]; rfl, by rw [blk_cell h.wb]; rfl, by rw [blk_cell h.wb]; rfl, by rw [blk_cell h.wb]; rfl, by rw [blk_cell h.wb]; rfl⟩
    have bb := Below.refl wc.heap.size wc
    go_upto_region 14 with fail
    go_cut [79] from 64 to 79 (fun u wx => u = .bool false ∧ Hid (Below wc.heap.size wc wx))
    case first =>
      go_region_held3 (fun w' => w'.cell? ⟨gt, 0, none⟩ = some (.int .i64 T.id) ∧ w'.cell? ⟨gt, 1, none⟩ = some (.int .i64 T.c) ∧ w'.cell? ⟨gt, 2, none⟩ = some (.int .i64 T.d) ∧ w'.cell? ⟨gt, 3, none⟩ = some (.int .i64 T.t) ∧ w'.cell? ⟨gt, 4, none⟩ = some (.int .i64 T.p) ∧ w'.cell? ⟨gt, 5, none⟩ = some (.slice T.a1 T.ch.length T.c1) ∧ w'.cell? ⟨gt, 6, none⟩ = some (.slice T.a2 T.us.length T.c2) ∧ w'.cell? ⟨gw, 4, none⟩ = some (.int .u64 (X 0)) ∧ w'.cell? ⟨gw, 5, none⟩ = some (.int .u64 (X 1)) ∧ w'.cell? ⟨gw, 6, none⟩ = some (.int .u64 (X 2)) ∧ w'.cell? ⟨gw, 7, none⟩ = some (.int .u64 (X 3))) (exact MK.out _ (by repeat (first | exact Below.refl _ _ | (with_reducible assumption) | refine bw_alloc ?_ _ | refine bw_drew ?_))) (first
        | (go_at_call 20; (with_reducible refine (Calls.upV (V := wc) (by repeat (first | exact Below.refl _ _ | (with_reducible assumption) | refine bw_alloc ?_ _ | refine bw_drew ?_)) (OC2.out _ (by repeat (first | exact Below.refl _ _ | (with_reducible assumption) | refine bw_alloc ?_ _ | refine bw_drew ?_)))).mono ?_); rintro e wx ⟨rfl, b0, bx⟩; clear b0)
        | (go_at_call 10; (with_reducible refine (Calls.upV (V := wc) (by repeat (first | exact Below.refl _ _ | (with_reducible assumption) | refine bw_alloc ?_ _ | refine bw_drew ?_)) (BC.out _ (by repeat (first | exact Below.refl _ _ | (with_reducible assumption) | refine bw_alloc ?_ _ | refine bw_drew ?_)))).mono ?_); rintro e wx ⟨rfl, b0, bx⟩; clear b0))
      all_goals
        go_wp2_with fail
        go_meet
        exact ⟨rfl, by assumption⟩
    case rest =>
      obtain ⟨rfl, HB6⟩ := hcut
      have H6 := Lib.hid (H5.out.below HB6.out)
      have FC := Lib.hid (cflush_any H6.out.ch)
      clear MK bb OC2 BC H5 HB6 HR5
      go_upto_region 18 with (go_at_call 21; (refine FC.out.mono ?_); rintro e w8 ⟨rfl, hc8, ht8⟩; have H8 := Lib.hid (H6.out.turn ht8 hc8); clear hc8 ht8; have v4 : w8.cell? ⟨gw, 4, none⟩ = some (.int .u64 (X 0)) := (by rw [blk_cell H8.out.wb]; rfl); have v5 : w8.cell? ⟨gw, 5, none⟩ = some (.int .u64 (X 1)) := (by rw [blk_cell H8.out.wb]; rfl); have v6 : w8.cell? ⟨gw, 6, none⟩ = some (.int .u64 (X 2)) := (by rw [blk_cell H8.out.wb]; rfl); have v7 : w8.cell? ⟨gw, 7, none⟩ = some (.int .u64 (X 3)) := (by rw [blk_cell H8.out.wb]; rfl); have f4 := blk_free H8.out.wb 4; have f5 := blk_free H8.out.wb 5; have f6 := blk_free H8.out.wb 6; have f7 := blk_free H8.out.wb 7)
      have h9 := (H8.out.seen (fun _ => 0)).words (y' := wd (inP T.us Q Q)) (fun k => by rw [inP_empty T.us (Nat.le_refl Q), wd_none])
      refine gen_world (AloAt w5 (ns : Int) r (some ⟨g5, o5, none⟩) N c5 b rr ns (fun _ => 0) gt T gw (Q : Nat) T.c 0 0 (wd (inP T.us Q Q)) ) h9 ?_
      clear h9 v4 v5 v6 v7 f4 f5 f6 f7 H8 H6 FC
      intro V9 hv9
      have H9 := Lib.hid hv9
      clear hv9
      go_upto_block 2 with fail
      go_cut [15] from 85 to 99 (fun u wx => ∃ Lc : Nat → Int, Hid (AloAt w5 (ns : Int) r (some ⟨g5, o5, none⟩) N c5 b rr ns Lc gt T gw (C : Nat) T.c 0 0 (wd (inP T.us Q C)) wx) ∧ Hid (RunOwn ns Lc T.id (inP T.us Q C)))
      case first =>
        go_wp2_with fail
        go_loopw [15] (fun u wr => ∃ (i : Nat) (Lc : Nat → Int), Q ≤ i ∧ i ≤ C ∧ u = .int .i64 i ∧ Hid (AloAt w5 (ns : Int) r (some ⟨g5, o5, none⟩) N c5 b rr ns Lc gt T gw (i : Nat) T.c 0 0 (wd (inP T.us Q i)) wr) ∧ Hid (RunOwn ns Lc T.id (inP T.us Q i))) (fun u _ => (C - intOf u).toNat)
        case atStart => exact ⟨Q, fun _ => 0, Nat.le_refl _, hQC, rfl, H9, by rw [inP_empty T.us (Nat.le_refl Q)]; exact run_none ns HOWN.out⟩
        case round =>
          obtain ⟨i, Lc, hia, hi, rfl, HQ, HS⟩ := hrel
          clear H9
          have s1 : wr.cell? ⟨w5.heap.size, 1, none⟩ = some (.int .i64 r) := by rw [blk_cell HQ.out.sb]; rfl
          have t0 : wr.cell? ⟨gt, 0, none⟩ = some (.int .i64 T.id) := by rw [blk_cell HQ.out.tb]; rfl
          have t1 : wr.cell? ⟨gt, 1, none⟩ = some (.int .i64 T.c) := by rw [blk_cell HQ.out.tb]; rfl
          have t2 : wr.cell? ⟨gt, 2, none⟩ = some (.int .i64 T.d) := by rw [blk_cell HQ.out.tb]; rfl
          have t3 : wr.cell? ⟨gt, 3, none⟩ = some (.int .i64 T.t) := by rw [blk_cell HQ.out.tb]; rfl
          have t4 : wr.cell? ⟨gt, 4, none⟩ = some (.int .i64 T.p) := by rw [blk_cell HQ.out.tb]; rfl
          have t5 : wr.cell? ⟨gt, 5, none⟩ = some (.slice T.a1 T.ch.length T.c1) := by rw [blk_cell HQ.out.tb]; rfl
          have t6 : wr.cell? ⟨gt, 6, none⟩ = some (.slice T.a2 T.us.length T.c2) := by rw [blk_cell HQ.out.tb]; rfl
          have q0 : wr.cell? ⟨gw, 0, none⟩ = some (.int .i64 (i : Nat)) := by rw [blk_cell HQ.out.wb]; rfl
          have q1 : wr.cell? ⟨gw, 1, none⟩ = some (.int .i64 T.c) := by rw [blk_cell HQ.out.wb]; rfl
          have q2 : wr.cell? ⟨gw, 2, none⟩ = some (.int .i64 0) := by rw [blk_cell HQ.out.wb]; rfl
          have q3 : wr.cell? ⟨gw, 3, none⟩ = some (.int .i64 0) := by rw [blk_cell HQ.out.wb]; rfl
          have q4 : wr.cell? ⟨gw, 4, none⟩ = some (.int .u64 (wd (inP T.us Q i) 0)) := by rw [blk_cell HQ.out.wb]; rfl
          have q5 : wr.cell? ⟨gw, 5, none⟩ = some (.int .u64 (wd (inP T.us Q i) 1)) := by rw [blk_cell HQ.out.wb]; rfl
          have q6 : wr.cell? ⟨gw, 6, none⟩ = some (.int .u64 (wd (inP T.us Q i) 2)) := by rw [blk_cell HQ.out.wb]; rfl
          have q7 : wr.cell? ⟨gw, 7, none⟩ = some (.int .u64 (wd (inP T.us Q i) 3)) := by rw [blk_cell HQ.out.wb]; rfl
          by_cases hlt : i < C
          · have hi1 : (i : Int) < T.c := by have := HC.out; omega
            have hi4 : IntKind.i64.wrap ((i : Int) + 1) = (i : Int) + 1 := IntWalk.i64_in _ (by omega)
            obtain ⟨hst, hse⟩ := run_next hia HQ.out.ch.few HUS.out (HF.out i (inP T.us Q i) (by omega)) HS.out
            have STC := Lib.hid (cstep_any T r i T.c 0 0 (inP T.us Q i) wr HQ.out.ch (HTO.out.below HQ.out.low) (by have := HC.out; omega) (by omega))
            rw [hst] at STC
            unfold StepBack at STC
            dsimp only at STC
            generalize stepL ns Lc T.id (accOf T i).1 (accOf T i).2 r ⟨i, T.c, 0, 0, inP T.us Q i⟩ = L2 at STC hse
            have HSE := Lib.hid hse
            clear hst hse
            go_wp2_with (go_at_call 19; (refine STC.out.mono ?_); rintro e w7 ⟨rfl, hc7, ht7⟩; have H7 := Lib.hid (HQ.out.turn ht7 hc7); clear hc7 ht7; have v0 : w7.cell? ⟨gw, 0, none⟩ = some (.int .i64 (i : Nat)) := (by rw [blk_cell H7.out.wb]; rfl); have v1 : w7.cell? ⟨gw, 1, none⟩ = some (.int .i64 T.c) := (by rw [blk_cell H7.out.wb]; rfl); have v2 : w7.cell? ⟨gw, 2, none⟩ = some (.int .i64 0) := (by rw [blk_cell H7.out.wb]; rfl); have v3 : w7.cell? ⟨gw, 3, none⟩ = some (.int .i64 0) := (by rw [blk_cell H7.out.wb]; rfl); have v4 : w7.cell? ⟨gw, 4, none⟩ = some (.int .u64 (wd (inP T.us Q i) 0)) := (by rw [blk_cell H7.out.wb]; rfl); have v5 : w7.cell? ⟨gw, 5, none⟩ = some (.int .u64 (wd (inP T.us Q i) 1)) := (by rw [blk_cell H7.out.wb]; rfl); have v6 : w7.cell? ⟨gw, 6, none⟩ = some (.int .u64 (wd (inP T.us Q i) 2)) := (by rw [blk_cell H7.out.wb]; rfl); have v7 : w7.cell? ⟨gw, 7, none⟩ = some (.int .u64 (wd (inP T.us Q i) 3)) := (by rw [blk_cell H7.out.wb]; rfl); have f0 := blk_free H7.out.wb 0; have f1 := blk_free H7.out.wb 1; have f2 := blk_free H7.out.wb 2; have f3 := blk_free H7.out.wb 3; have f4 := blk_free H7.out.wb 4; have f5 := blk_free H7.out.wb 5; have f6 := blk_free H7.out.wb 6; have f7 := blk_free H7.out.wb 7)
            go_roundw
            case rel => exact ⟨i + 1, L2, by omega, by omega, by go_num, H7.out.put ((i : Int) + 1) T.c 0 0 (wd (inP T.us Q (i + 1))), HSE⟩
            case measure => simp [intOf]; omega
          · obtain rfl : i = C := by omega
            have hi1 : ¬ (i : Int) < T.c := by have := HC.out; omega
            go_wp2_with fail
            go_meet
            exact ⟨Lc, HQ, HS⟩
      case rest =>
        obtain ⟨L2, H5, HR5⟩ := hcut
        have BC := Lib.hid (fun (v : World) (hv : Below wc.heap.size wc v) => behind_any T HTT.out C Q HC.out v (HTO.out.below (below_up H5.out.low hv)))
        rw [Nat.min_eq_left hQC] at BC
        unfold SetBack at BC
        obtain ⟨Y, hY⟩ : ∃ Y, wd (inP T.us Q C) = Y := ⟨_, rfl⟩
        have OC2 := Lib.hid (fun (v : World) (hv : Below wc.heap.size wc v) => cof_any (H5.out.ch.below hv) T.id)
        unfold OfBack at OC2
        rw [run_of HOWN.out HR5.out (show 0 < 4 by omega), run_of HOWN.out HR5.out (show 1 < 4 by omega), run_of HOWN.out HR5.out (show 2 < 4 by omega), run_of HOWN.out HR5.out (show 3 < 4 by omega)] at OC2
        rw [hY] at BC OC2
        clear hY
        have QY := eq4_self (Y 0) (Y 1) (Y 2) (Y 3)
        have QC : ((C : Int) == T.c) = true := by rw [beq_iff_eq]; exact HC.out.symm
        have MK : Hid (∀ w', Below wc.heap.size wc w' → (w'.cell? ⟨gt, 0, none⟩ = some (.int .i64 T.id) ∧ w'.cell? ⟨gt, 1, none⟩ = some (.int .i64 T.c) ∧ w'.cell? ⟨gt, 2, none⟩ = some (.int .i64 T.d) ∧ w'.cell? ⟨gt, 3, none⟩ = some (.int .i64 T.t) ∧ w'.cell? ⟨gt, 4, none⟩ = some (.int .i64 T.p) ∧ w'.cell? ⟨gt, 5, none⟩ = some (.slice T.a1 T.ch.length T.c1) ∧ w'.cell? ⟨gt, 6, none⟩ = some (.slice T.a2 T.us.length T.c2) ∧ w'.cell? ⟨gw, 0, none⟩ = some (.int .i64 (C : Int)))) := fun w' hb => by
          have h := H5.out.below hb
          exact ⟨by rw [blk_cell h.tb]; rfl, by rw [blk_cell h.tb]; rfl, by rw [blk_cell h.tb]; rfl, by rw [blk_cell h.tb]; rfl, by rw [blk_cell h.tb]; rfl, by rw [blk_cell h.tb]; rfl, by rw [blk_cell h.tb]; rfl, by rw [blk_cell h.wb]; rfl⟩
        have bb := Below.refl wc.heap.size wc
        go_upto_region 22 with fail
        go_region_held3 (fun w' => w'.cell? ⟨gt, 0, none⟩ = some (.int .i64 T.id) ∧ w'.cell? ⟨gt, 1, none⟩ = some (.int .i64 T.c) ∧ w'.cell? ⟨gt, 2, none⟩ = some (.int .i64 T.d) ∧ w'.cell? ⟨gt, 3, none⟩ = some (.int .i64 T.t) ∧ w'.cell? ⟨gt, 4, none⟩ = some (.int .i64 T.p) ∧ w'.cell? ⟨gt, 5, none⟩ = some (.slice T.a1 T.ch.length T.c1) ∧ w'.cell? ⟨gt, 6, none⟩ = some (.slice T.a2 T.us.length T.c2) ∧ w'.cell? ⟨gw, 0, none⟩ = some (.int .i64 (C : Int))) (exact MK.out _ (by repeat (first | exact Below.refl _ _ | (with_reducible assumption) | refine bw_alloc ?_ _ | refine bw_drew ?_))) (first
          | (go_at_call 20; (with_reducible refine (Calls.upV (V := wc) (by repeat (first | exact Below.refl _ _ | (with_reducible assumption) | refine bw_alloc ?_ _ | refine bw_drew ?_)) (OC2.out _ (by repeat (first | exact Below.refl _ _ | (with_reducible assumption) | refine bw_alloc ?_ _ | refine bw_drew ?_)))).mono ?_); rintro e wx ⟨rfl, b0, bx⟩; clear b0)
          | (go_at_call 11; (with_reducible refine (Calls.upV (V := wc) (by repeat (first | exact Below.refl _ _ | (with_reducible assumption) | refine bw_alloc ?_ _ | refine bw_drew ?_)) (BC.out _ (by repeat (first | exact Below.refl _ _ | (with_reducible assumption) | refine bw_alloc ?_ _ | refine bw_drew ?_)))).mono ?_); rintro e wx ⟨rfl, b0, bx⟩; clear b0))
        all_goals
          go_wp2_with fail
          go_ret
          exact ⟨rfl, HL5.out.trans ((below_up H5.out.low (by assumption)).mono HL5.out.size)⟩
end Go.Proofs.Ytcanbjgbpkofaaa

/-
  The row of the statement of what a job that runs alone has in the cache.
-/
namespace Go.Proofs.Ytcanbjgbpkofaaa
open Go.RowKit
theorem row_runs (W : World) (S R : Int) (a : Option Addr) (n cap : Nat) (L : List NV) (hn : Nums W a n cap L) (x : Int) (_ : (Lit.int .i64 x).wf = true) (y : Int) (_ : (Lit.int .i64 y).wf = true) :
    Calls Try.prog 5 #[.agg #[.int .i64 S, .int .i64 R, .slice a n cap], .int .i64 x, .int .i64 y] W fun e w' => e = .returned (.bool true) ∧ Below W.heap.size W w' := law_runs W S R a n cap L hn x y
end Go.Proofs.Ytcanbjgbpkofaaa
