/- Texts of this claim, put together: CArr, CPl, CTk, CLaw4, CRow4. -/
import Derived.Test.YtfifgojbihdhcaaM91
import Derived.Deep.RegionHeld3
import Derived.Deep.CutBlock
import Derived.Deep.CutRange
import Derived.Deep.DeepCutAuto
set_option linter.unusedVariables false
set_option linter.unusedSimpArgs false

/-
  Rows of works, in a box.
-/
namespace Go.Proofs.Ytfifgojbihdhcaa
open Go.RowKit Go.Maps

instance : Inhabited WK := ⟨⟨0, 0, 0, 0, fun _ => false⟩⟩
def WK.cells (k : WK) : List Value := [.int .i64 k.dn, .int .i64 k.dm, .int .i64 k.db, .int .i64 k.rl, .int .u64 (wd k.sn 0), .int .u64 (wd k.sn 1), .int .u64 (wd k.sn 2), .int .u64 (wd k.sn 3)]
/-- A row of m works. -/
def Arr (T : TypeId) (w : World) (g m : Nat) (f : Nat → WK) : Prop :=
  ∃ cur : Array Value, w.heap[g]? = some (.cells cur T (0, 0)) ∧ cur.size = m * 8 ∧ ∀ k, k < m → ∀ j u, (f k).cells[j]? = some u → cur[k * 8 + j]? = some u
theorem Arr.lt {T : TypeId} {w : World} {g m : Nat} {f : Nat → WK} (h : Arr T w g m f) : g < w.heap.size := let ⟨_, hb, _⟩ := h; lt_of_block hb
theorem Arr.free {T : TypeId} {w : World} {g m : Nat} {f : Nat → WK} (h : Arr T w g m f) (o : Nat) : w.frozen? ⟨g, o, none⟩ = false := let ⟨_, hb, _⟩ := h; blk_free hb o
theorem Arr.cells {T : TypeId} {w : World} {g m : Nat} {f : Nat → WK} (h : Arr T w g m f) {k : Nat} (hk : k < m) : w.cell? ⟨g, k * 8, none⟩ = some (.int .i64 (f k).dn) ∧ w.cell? ⟨g, k * 8 + 1, none⟩ = some (.int .i64 (f k).dm) ∧ w.cell? ⟨g, k * 8 + 2, none⟩ = some (.int .i64 (f k).db) ∧ w.cell? ⟨g, k * 8 + 3, none⟩ = some (.int .i64 (f k).rl) ∧ w.cell? ⟨g, k * 8 + 4, none⟩ = some (.int .u64 (wd (f k).sn 0)) ∧ w.cell? ⟨g, k * 8 + 5, none⟩ = some (.int .u64 (wd (f k).sn 1)) ∧ w.cell? ⟨g, k * 8 + 6, none⟩ = some (.int .u64 (wd (f k).sn 2)) ∧ w.cell? ⟨g, k * 8 + 7, none⟩ = some (.int .u64 (wd (f k).sn 3)) := by
  obtain ⟨cur, hb, _, hc⟩ := h
  refine ⟨?_, ?_, ?_, ?_, ?_, ?_, ?_, ?_⟩ <;> rw [blk_cell hb]
  · exact hc k hk 0 _ rfl
  · exact hc k hk 1 _ rfl
  · exact hc k hk 2 _ rfl
  · exact hc k hk 3 _ rfl
  · exact hc k hk 4 _ rfl
  · exact hc k hk 5 _ rfl
  · exact hc k hk 6 _ rfl
  · exact hc k hk 7 _ rfl
theorem Arr.turn {T : TypeId} {S : Nat → Prop} {w w' : World} {g m : Nat} {f : Nat → WK} (h : Arr T w g m f) (ht : Turn S w w') (hn : ¬ S g) : Arr T w' g m f := by
  obtain ⟨cur, hb, h1, h2⟩ := h
  exact ⟨cur, ht.obj hb hn, h1, h2⟩
theorem Arr.below {T : TypeId} {w w' : World} {g m : Nat} {f : Nat → WK} (h : Arr T w g m f) (hb : Below w.heap.size w w') : Arr T w' g m f := h.turn (S := fun _ => False) (Turn.of_below hb) (fun q => q)
theorem Arr.congr {T : TypeId} {w : World} {g m : Nat} {f f' : Nat → WK} (h : Arr T w g m f) (he : ∀ k, k < m → f' k = f k) : Arr T w g m f' := by
  obtain ⟨cur, hb, h1, h2⟩ := h
  exact ⟨cur, hb, h1, fun k hk j u hj => h2 k hk j u (by rw [← he k hk]; exact hj)⟩
def setW (f : Nat → WK) (k : Nat) (x : WK) (i : Nat) : WK := if i = k then x else f i
theorem setW_at (f : Nat → WK) (k : Nat) (x : WK) : setW f k x k = x := if_pos rfl
theorem set8 (cur : Array Value) (b : Nat) (y0 y1 y2 y3 y4 y5 y6 y7 : Value) (hb : b + 8 ≤ cur.size) :
    let c := (((((((cur.setIfInBounds b y0).setIfInBounds (b + 1) y1).setIfInBounds (b + 2) y2).setIfInBounds (b + 3) y3).setIfInBounds (b + 4) y4).setIfInBounds (b + 5) y5).setIfInBounds (b + 6) y6).setIfInBounds (b + 7) y7
    c.size = cur.size ∧ (∀ j u, [y0, y1, y2, y3, y4, y5, y6, y7][j]? = some u → c[b + j]? = some u) ∧ ∀ i, i < b ∨ b + 8 ≤ i → c[i]? = cur[i]? := by
  intro c
  refine ⟨by simp [c], fun j u hj => ?_, fun i hi => ?_⟩
  · match j, hj with
    | 0, hj => simp at hj; subst hj; simp [c, Array.getElem?_setIfInBounds]; omega
    | 1, hj => simp at hj; subst hj; simp [c, Array.getElem?_setIfInBounds]; omega
    | 2, hj => simp at hj; subst hj; simp [c, Array.getElem?_setIfInBounds]; omega
    | 3, hj => simp at hj; subst hj; simp [c, Array.getElem?_setIfInBounds]; omega
    | 4, hj => simp at hj; subst hj; simp [c, Array.getElem?_setIfInBounds]; omega
    | 5, hj => simp at hj; subst hj; simp [c, Array.getElem?_setIfInBounds]; omega
    | 6, hj => simp at hj; subst hj; simp [c, Array.getElem?_setIfInBounds]; omega
    | 7, hj => simp at hj; subst hj; simp [c, Array.getElem?_setIfInBounds]; omega
    | j + 8, hj => simp at hj
  · simp only [c]
    rw [Array.getElem?_setIfInBounds_ne (by omega), Array.getElem?_setIfInBounds_ne (by omega), Array.getElem?_setIfInBounds_ne (by omega), Array.getElem?_setIfInBounds_ne (by omega), Array.getElem?_setIfInBounds_ne (by omega), Array.getElem?_setIfInBounds_ne (by omega), Array.getElem?_setIfInBounds_ne (by omega), Array.getElem?_setIfInBounds_ne (by omega)]
theorem Arr.set {T : TypeId} {w : World} {g m : Nat} {f : Nat → WK} (h : Arr T w g m f) {k : Nat} (hk : k < m) (x : WK) :
    Arr T ((((((((w.setCell ⟨g, k * 8, none⟩ (.int .i64 x.dn)).setCell ⟨g, k * 8 + 1, none⟩ (.int .i64 x.dm)).setCell ⟨g, k * 8 + 2, none⟩ (.int .i64 x.db)).setCell ⟨g, k * 8 + 3, none⟩ (.int .i64 x.rl)).setCell ⟨g, k * 8 + 4, none⟩ (.int .u64 (wd x.sn 0))).setCell ⟨g, k * 8 + 5, none⟩ (.int .u64 (wd x.sn 1))).setCell ⟨g, k * 8 + 6, none⟩ (.int .u64 (wd x.sn 2))).setCell ⟨g, k * 8 + 7, none⟩ (.int .u64 (wd x.sn 3))) g m (setW f k x) := by
  obtain ⟨cur, hb, h1, h2⟩ := h
  have hsz : k * 8 + 8 ≤ cur.size := by rw [h1]; have := Nat.mul_le_mul_right 8 (show k + 1 ≤ m from hk); omega
  obtain ⟨s1, s2, s3⟩ := set8 cur (k * 8) (.int .i64 x.dn) (.int .i64 x.dm) (.int .i64 x.db) (.int .i64 x.rl) (.int .u64 (wd x.sn 0)) (.int .u64 (wd x.sn 1)) (.int .u64 (wd x.sn 2)) (.int .u64 (wd x.sn 3)) hsz
  have b0 : (w.setCell ⟨g, k * 8, none⟩ (.int .i64 x.dn)).heap[g]? = some (.cells (cur.setIfInBounds (k * 8) (.int .i64 x.dn)) T (0, 0)) := blk_set (o := k * 8) hb _
  generalize w.setCell ⟨g, k * 8, none⟩ (.int .i64 x.dn) = w0 at b0 ⊢
  have b1 : (w0.setCell ⟨g, k * 8 + 1, none⟩ (.int .i64 x.dm)).heap[g]? = some (.cells ((cur.setIfInBounds (k * 8) (.int .i64 x.dn)).setIfInBounds (k * 8 + 1) (.int .i64 x.dm)) T (0, 0)) := blk_set (o := k * 8 + 1) b0 _
  generalize w0.setCell ⟨g, k * 8 + 1, none⟩ (.int .i64 x.dm) = w1 at b1 ⊢
  have b2 : (w1.setCell ⟨g, k * 8 + 2, none⟩ (.int .i64 x.db)).heap[g]? = some (.cells (((cur.setIfInBounds (k * 8) (.int .i64 x.dn)).setIfInBounds (k * 8 + 1) (.int .i64 x.dm)).setIfInBounds (k * 8 + 2) (.int .i64 x.db)) T (0, 0)) := blk_set (o := k * 8 + 2) b1 _
  generalize w1.setCell ⟨g, k * 8 + 2, none⟩ (.int .i64 x.db) = w2 at b2 ⊢
  have b3 : (w2.setCell ⟨g, k * 8 + 3, none⟩ (.int .i64 x.rl)).heap[g]? = some (.cells ((((cur.setIfInBounds (k * 8) (.int .i64 x.dn)).setIfInBounds (k * 8 + 1) (.int .i64 x.dm)).setIfInBounds (k * 8 + 2) (.int .i64 x.db)).setIfInBounds (k * 8 + 3) (.int .i64 x.rl)) T (0, 0)) := blk_set (o := k * 8 + 3) b2 _
  generalize w2.setCell ⟨g, k * 8 + 3, none⟩ (.int .i64 x.rl) = w3 at b3 ⊢
  have b4 : (w3.setCell ⟨g, k * 8 + 4, none⟩ (.int .u64 (wd x.sn 0))).heap[g]? = some (.cells (((((cur.setIfInBounds (k * 8) (.int .i64 x.dn)).setIfInBounds (k * 8 + 1) (.int .i64 x.dm)).setIfInBounds (k * 8 + 2) (.int .i64 x.db)).setIfInBounds (k * 8 + 3) (.int .i64 x.rl)).setIfInBounds (k * 8 + 4) (.int .u64 (wd x.sn 0))) T (0, 0)) := blk_set (o := k * 8 + 4) b3 _
  generalize w3.setCell ⟨g, k * 8 + 4, none⟩ (.int .u64 (wd x.sn 0)) = w4 at b4 ⊢
  have b5 : (w4.setCell ⟨g, k * 8 + 5, none⟩ (.int .u64 (wd x.sn 1))).heap[g]? = some (.cells ((((((cur.setIfInBounds (k * 8) (.int .i64 x.dn)).setIfInBounds (k * 8 + 1) (.int .i64 x.dm)).setIfInBounds (k * 8 + 2) (.int .i64 x.db)).setIfInBounds (k * 8 + 3) (.int .i64 x.rl)).setIfInBounds (k * 8 + 4) (.int .u64 (wd x.sn 0))).setIfInBounds (k * 8 + 5) (.int .u64 (wd x.sn 1))) T (0, 0)) := blk_set (o := k * 8 + 5) b4 _
  generalize w4.setCell ⟨g, k * 8 + 5, none⟩ (.int .u64 (wd x.sn 1)) = w5 at b5 ⊢
  have b6 : (w5.setCell ⟨g, k * 8 + 6, none⟩ (.int .u64 (wd x.sn 2))).heap[g]? = some (.cells (((((((cur.setIfInBounds (k * 8) (.int .i64 x.dn)).setIfInBounds (k * 8 + 1) (.int .i64 x.dm)).setIfInBounds (k * 8 + 2) (.int .i64 x.db)).setIfInBounds (k * 8 + 3) (.int .i64 x.rl)).setIfInBounds (k * 8 + 4) (.int .u64 (wd x.sn 0))).setIfInBounds (k * 8 + 5) (.int .u64 (wd x.sn 1))).setIfInBounds (k * 8 + 6) (.int .u64 (wd x.sn 2))) T (0, 0)) := blk_set (o := k * 8 + 6) b5 _
  generalize w5.setCell ⟨g, k * 8 + 6, none⟩ (.int .u64 (wd x.sn 2)) = w6 at b6 ⊢
  have b7 : (w6.setCell ⟨g, k * 8 + 7, none⟩ (.int .u64 (wd x.sn 3))).heap[g]? = some (.cells ((((((((cur.setIfInBounds (k * 8) (.int .i64 x.dn)).setIfInBounds (k * 8 + 1) (.int .i64 x.dm)).setIfInBounds (k * 8 + 2) (.int .i64 x.db)).setIfInBounds (k * 8 + 3) (.int .i64 x.rl)).setIfInBounds (k * 8 + 4) (.int .u64 (wd x.sn 0))).setIfInBounds (k * 8 + 5) (.int .u64 (wd x.sn 1))).setIfInBounds (k * 8 + 6) (.int .u64 (wd x.sn 2))).setIfInBounds (k * 8 + 7) (.int .u64 (wd x.sn 3))) T (0, 0)) := blk_set (o := k * 8 + 7) b6 _
  refine ⟨_, b7, by rw [s1, h1], fun i hi j u hj => ?_⟩
  unfold setW at hj
  by_cases e : i = k
  · subst e
    rw [if_pos rfl] at hj
    exact s2 j u hj
  · rw [if_neg e] at hj
    have hj8 : j < 8 := (List.getElem?_eq_some_iff.1 hj).1
    rw [s3 (i * 8 + j) (by
      rcases Nat.lt_or_gt_of_ne e with q | q
      · left; have := Nat.mul_le_mul_right 8 (show i + 1 ≤ k from q); omega
      · right; have := Nat.mul_le_mul_right 8 (show k + 1 ≤ i from q); omega)]
    exact h2 i hi j u hj
theorem Arr.far {T : TypeId} {w : World} {g m : Nat} {f : Nat → WK} (h : Arr T w g m f) {b o : Nat} (hne : g ≠ b) (v : Value) : Arr T (w.setCell ⟨b, o, none⟩ v) g m f := by
  obtain ⟨cur, hb, h1, h2⟩ := h
  exact ⟨cur, (blk_far (a := ⟨b, o, none⟩) hne v).trans hb, h1, h2⟩
theorem wd_false (k : Nat) : wd (fun _ => false) k = 0 := wd_none k
/-- No work at all. -/
def noWork : WK := ⟨0, 0, 0, 0, fun _ => false⟩
theorem noWork_cells : noWork.cells = [.int .i64 0, .int .i64 0, .int .i64 0, .int .i64 0, .int .u64 0, .int .u64 0, .int .u64 0, .int .u64 0] := by
  unfold WK.cells noWork
  dsimp only
  rw [wd_false, wd_false, wd_false, wd_false]
  rfl
theorem zeros2 (k : Nat) (hk : k < 2) (j : Nat) (u : Value) (hj : noWork.cells[j]? = some u) : (#[Value.int .i64 0, Value.int .i64 0, Value.int .i64 0, Value.int .i64 0, Value.int .u64 0, Value.int .u64 0, Value.int .u64 0, Value.int .u64 0, Value.int .i64 0, Value.int .i64 0, Value.int .i64 0, Value.int .i64 0, Value.int .u64 0, Value.int .u64 0, Value.int .u64 0, Value.int .u64 0] : Array Value)[k * 8 + j]? = some u := by
  rw [noWork_cells] at hj
  match k, hk with
  | 0, _ =>
    match j, hj with
    | 0, hj => exact hj
    | 1, hj => exact hj
    | 2, hj => exact hj
    | 3, hj => exact hj
    | 4, hj => exact hj
    | 5, hj => exact hj
    | 6, hj => exact hj
    | 7, hj => exact hj
    | j + 8, hj => simp at hj
  | 1, _ =>
    match j, hj with
    | 0, hj => exact hj
    | 1, hj => exact hj
    | 2, hj => exact hj
    | 3, hj => exact hj
    | 4, hj => exact hj
    | 5, hj => exact hj
    | 6, hj => exact hj
    | 7, hj => exact hj
    | j + 8, hj => simp at hj
  | k + 2, hk => omega
theorem arr_new2 (T : TypeId) (w : World) : Arr T (w.alloc (.cells #[Value.int .i64 0, Value.int .i64 0, Value.int .i64 0, Value.int .i64 0, Value.int .u64 0, Value.int .u64 0, Value.int .u64 0, Value.int .u64 0, Value.int .i64 0, Value.int .i64 0, Value.int .i64 0, Value.int .i64 0, Value.int .u64 0, Value.int .u64 0, Value.int .u64 0, Value.int .u64 0] T)) w.heap.size 2 (fun _ => noWork) :=
  ⟨_, heap_alloc_new w _, rfl, fun k hk j u hj => zeros2 k hk j u hj⟩
theorem zeros6 (k : Nat) (hk : k < 6) (j : Nat) (u : Value) (hj : noWork.cells[j]? = some u) : (#[Value.int .i64 0, Value.int .i64 0, Value.int .i64 0, Value.int .i64 0, Value.int .u64 0, Value.int .u64 0, Value.int .u64 0, Value.int .u64 0, Value.int .i64 0, Value.int .i64 0, Value.int .i64 0, Value.int .i64 0, Value.int .u64 0, Value.int .u64 0, Value.int .u64 0, Value.int .u64 0, Value.int .i64 0, Value.int .i64 0, Value.int .i64 0, Value.int .i64 0, Value.int .u64 0, Value.int .u64 0, Value.int .u64 0, Value.int .u64 0, Value.int .i64 0, Value.int .i64 0, Value.int .i64 0, Value.int .i64 0, Value.int .u64 0, Value.int .u64 0, Value.int .u64 0, Value.int .u64 0, Value.int .i64 0, Value.int .i64 0, Value.int .i64 0, Value.int .i64 0, Value.int .u64 0, Value.int .u64 0, Value.int .u64 0, Value.int .u64 0, Value.int .i64 0, Value.int .i64 0, Value.int .i64 0, Value.int .i64 0, Value.int .u64 0, Value.int .u64 0, Value.int .u64 0, Value.int .u64 0] : Array Value)[k * 8 + j]? = some u := by
  rw [noWork_cells] at hj
  match k, hk with
  | 0, _ =>
    match j, hj with
    | 0, hj => exact hj
    | 1, hj => exact hj
    | 2, hj => exact hj
    | 3, hj => exact hj
    | 4, hj => exact hj
    | 5, hj => exact hj
    | 6, hj => exact hj
    | 7, hj => exact hj
    | j + 8, hj => simp at hj
  | 1, _ =>
    match j, hj with
    | 0, hj => exact hj
    | 1, hj => exact hj
    | 2, hj => exact hj
    | 3, hj => exact hj
    | 4, hj => exact hj
    | 5, hj => exact hj
    | 6, hj => exact hj
    | 7, hj => exact hj
    | j + 8, hj => simp at hj
  | 2, _ =>
    match j, hj with
    | 0, hj => exact hj
    | 1, hj => exact hj
    | 2, hj => exact hj
    | 3, hj => exact hj
    | 4, hj => exact hj
    | 5, hj => exact hj
    | 6, hj => exact hj
    | 7, hj => exact hj
    | j + 8, hj => simp at hj
  | 3, _ =>
    match j, hj with
    | 0, hj => exact hj
    | 1, hj => exact hj
    | 2, hj => exact hj
    | 3, hj => exact hj
    | 4, hj => exact hj
    | 5, hj => exact hj
    | 6, hj => exact hj
    | 7, hj => exact hj
    | j + 8, hj => simp at hj
  | 4, _ =>
    match j, hj with
    | 0, hj => exact hj
    | 1, hj => exact hj
    | 2, hj => exact hj
    | 3, hj => exact hj
    | 4, hj => exact hj
    | 5, hj => exact hj
    | 6, hj => exact hj
    | 7, hj => exact hj
    | j + 8, hj => simp at hj
  | 5, _ =>
    match j, hj with
    | 0, hj => exact hj
    | 1, hj => exact hj
    | 2, hj => exact hj
    | 3, hj => exact hj
    | 4, hj => exact hj
    | 5, hj => exact hj
    | 6, hj => exact hj
    | 7, hj => exact hj
    | j + 8, hj => simp at hj
  | k + 6, hk => omega
theorem arr_new6 (T : TypeId) (w : World) : Arr T (w.alloc (.cells #[Value.int .i64 0, Value.int .i64 0, Value.int .i64 0, Value.int .i64 0, Value.int .u64 0, Value.int .u64 0, Value.int .u64 0, Value.int .u64 0, Value.int .i64 0, Value.int .i64 0, Value.int .i64 0, Value.int .i64 0, Value.int .u64 0, Value.int .u64 0, Value.int .u64 0, Value.int .u64 0, Value.int .i64 0, Value.int .i64 0, Value.int .i64 0, Value.int .i64 0, Value.int .u64 0, Value.int .u64 0, Value.int .u64 0, Value.int .u64 0, Value.int .i64 0, Value.int .i64 0, Value.int .i64 0, Value.int .i64 0, Value.int .u64 0, Value.int .u64 0, Value.int .u64 0, Value.int .u64 0, Value.int .i64 0, Value.int .i64 0, Value.int .i64 0, Value.int .i64 0, Value.int .u64 0, Value.int .u64 0, Value.int .u64 0, Value.int .u64 0, Value.int .i64 0, Value.int .i64 0, Value.int .i64 0, Value.int .i64 0, Value.int .u64 0, Value.int .u64 0, Value.int .u64 0, Value.int .u64 0] T)) w.heap.size 6 (fun _ => noWork) :=
  ⟨_, heap_alloc_new w _, rfl, fun k hk j u hj => zeros6 k hk j u hj⟩
end Go.Proofs.Ytfifgojbihdhcaa

/-
  What a tick makes of a work, in plain words.
-/
namespace Go.Proofs.Ytfifgojbihdhcaa
open Go.RowKit Go.Maps

theorem wUp_small {x : Int} (h0 : 0 ≤ x) (h1 : x ≤ 4611686018427387904) : wUp x = x + 1 := by unfold wUp; exact IntWalk.i64_in _ (by omega)
/-- One tick of a work that may be stepped. -/
theorem tick_facts {n : Nat} {L : Nat → Int} {id s : Int} {u : Bool} {rel : Int} {k : WK} (hf : Fits id rel k) (h0 : 0 ≤ k.rl) (h1 : k.rl ≤ 4611686018427387904) :
    ∃ dn db rl p q, stepW n L id s u rel k = (⟨dn, k.dm, db, rl, p⟩, q) ∧
      ((q = false ∧ dn = k.dn + 1 ∧ db = 0 ∧ k.db = 0 ∧ rl = k.rl) ∨ (q = true ∧ dn = k.dn ∧ rl = k.rl + 1 ∧ 0 < k.db ∧ db = k.db - 1) ∨ (q = true ∧ dn = k.dn ∧ rl = k.rl + 1 ∧ k.db = 0 ∧ 0 < rel ∧ db = rel - 1)) := by
  have hd : 0 ≤ k.db := hf.2.2.2.2.2
  unfold stepW
  rw [if_pos hf]
  by_cases hp : 0 < k.db
  · rw [if_pos hp]
    exact ⟨_, _, _, _, _, rfl, .inr (.inl ⟨rfl, rfl, wUp_small h0 h1, hp, rfl⟩)⟩
  · rw [if_neg hp]
    have hz : k.db = 0 := by omega
    unfold workW
    split
    · split
      · rename_i hq
        exact ⟨_, _, _, _, _, rfl, .inr (.inr ⟨rfl, rfl, wUp_small h0 h1, hz, hq.2.1, rfl⟩)⟩
      · exact ⟨_, _, _, _, _, rfl, .inl ⟨rfl, rfl, hz, hz, rfl⟩⟩
    · exact ⟨_, _, _, _, _, rfl, .inl ⟨rfl, rfl, hz, hz, rfl⟩⟩
/-- How far a job may have come by the i-th tick. -/
structure Inv (rel : Int) (i : Nat) (k : WK) : Prop where
  d0 : 0 ≤ k.dn
  d1 : k.dn ≤ k.dm
  d2 : k.dm ≤ 24
  b0 : 0 ≤ k.db
  b1 : k.db = 0 ∨ k.db < rel
  r0 : 0 ≤ k.rl
  r1 : k.rl ≤ i
theorem Inv.up {rel : Int} {i : Nat} {k : WK} (h : Inv rel i k) : Inv rel (i + 1) k := ⟨h.d0, h.d1, h.d2, h.b0, h.b1, h.r0, by have := h.r1; omega⟩
theorem inv_none (rel : Int) (i : Nat) : Inv rel i noWork := by
  refine ⟨?_, ?_, ?_, ?_, .inl rfl, ?_, ?_⟩ <;> unfold noWork <;> dsimp only <;> omega
/-- A work that has all to do. -/
def freshW (c : Int) : WK := ⟨0, c, 0, 0, fun _ => false⟩
theorem inv_fresh (rel : Int) (i : Nat) {c : Int} (h0 : 0 ≤ c) (h1 : c ≤ 24) : Inv rel i (freshW c) := by
  refine ⟨?_, ?_, ?_, ?_, .inl rfl, ?_, ?_⟩ <;> unfold freshW <;> dsimp only <;> omega
end Go.Proofs.Ytfifgojbihdhcaa

/-
  A system, a cache and a row of works in memory; the start of the statements that step works.
-/
namespace Go.Proofs.Ytfifgojbihdhcaa
open Go.RowKit Go.Maps

/-- A system in a box, a cache, a row of works: all newer than w5. -/
structure TickAt (T : TypeId) (m : Nat) (w5 : World) (s r : Int) (a5 : Option Addr) (N c5 : Nat) (b rr n : Nat) (Lc : Nat → Int) (g2 : Nat) (f : Nat → WK) (w : World) : Prop where
  low : Below w5.heap.size w5 w
  sb : w.heap[w5.heap.size]? = some (.cells #[.int .i64 s, .int .i64 r, .slice a5 N c5] 29 (0, 0))
  ch : Ch CT w b rr n Lc
  ar : Arr T w g2 m f
  lb : w5.heap.size < b
  lr : w5.heap.size < rr
  lg : w5.heap.size < g2
  gb : g2 ≠ b
  gr : g2 ≠ rr
theorem TickAt.below {T : TypeId} {m : Nat} {w5 : World} {s r : Int} {a5 : Option Addr} {N c5 b rr n : Nat} {Lc : Nat → Int} {g2 : Nat} {f : Nat → WK} {w w' : World} (h : TickAt T m w5 s r a5 N c5 b rr n Lc g2 f w) (hb : Below w.heap.size w w') : TickAt T m w5 s r a5 N c5 b rr n Lc g2 f w' :=
  ⟨below_up h.low hb, kept_obj hb h.sb, h.ch.below hb, h.ar.below hb, h.lb, h.lr, h.lg, h.gb, h.gr⟩
theorem TickAt.turn {T : TypeId} {m : Nat} {w5 : World} {s r : Int} {a5 : Option Addr} {N c5 b rr n : Nat} {Lc Lc' : Nat → Int} {g2 : Nat} {f : Nat → WK} {w w' : World} (h : TickAt T m w5 s r a5 N c5 b rr n Lc g2 f w) (ht : Turn (fun k => k = rr) w w') (hc : Ch CT w' b rr n Lc') : TickAt T m w5 s r a5 N c5 b rr n Lc' g2 f w' :=
  ⟨h.low.trans (ht.below (B := w5.heap.size) h.low.size (fun i q => by subst q; exact Nat.le_of_lt h.lr)), ht.obj h.sb (Nat.ne_of_lt h.lr), hc, h.ar.turn ht h.gr, h.lb, h.lr, h.lg, h.gb, h.gr⟩
theorem TickAt.congr {T : TypeId} {m : Nat} {w5 : World} {s r : Int} {a5 : Option Addr} {N c5 b rr n : Nat} {Lc : Nat → Int} {g2 : Nat} {f f' : Nat → WK} {w : World} (h : TickAt T m w5 s r a5 N c5 b rr n Lc g2 f w) (he : ∀ k, k < m → f' k = f k) : TickAt T m w5 s r a5 N c5 b rr n Lc g2 f' w :=
  ⟨h.low, h.sb, h.ch, h.ar.congr he, h.lb, h.lr, h.lg, h.gb, h.gr⟩
theorem TickAt.new {T : TypeId} {m : Nat} {w5 w w' : World} {s r : Int} {a5 : Option Addr} {N c5 b rr n : Nat} {Lc : Nat → Int} {f : Nat → WK} (low : Below w5.heap.size w5 w) (sb : w.heap[w5.heap.size]? = some (.cells #[.int .i64 s, .int .i64 r, .slice a5 N c5] 29 (0, 0))) (hc : Ch CT w b rr n Lc) (lb : w5.heap.size < b) (lr : w5.heap.size < rr) (hb : Below w.heap.size w w') (ha : Arr T w' w.heap.size m f) :
    TickAt T m w5 s r a5 N c5 b rr n Lc w.heap.size f w' :=
  ⟨below_up low hb, kept_obj hb sb, hc.below hb, ha, lb, lr, lt_of_block sb, (Nat.ne_of_lt hc.lt.1).symm, (Nat.ne_of_lt hc.lt.2).symm⟩
theorem TickAt.set {T : TypeId} {m : Nat} {w5 : World} {s r : Int} {a5 : Option Addr} {N c5 b rr n : Nat} {Lc : Nat → Int} {g2 : Nat} {f : Nat → WK} {w : World} (h : TickAt T m w5 s r a5 N c5 b rr n Lc g2 f w) {k : Nat} (hk : k < m) (x : WK) :
    TickAt T m w5 s r a5 N c5 b rr n Lc g2 (setW f k x) ((((((((w.setCell ⟨g2, k * 8, none⟩ (.int .i64 x.dn)).setCell ⟨g2, k * 8 + 1, none⟩ (.int .i64 x.dm)).setCell ⟨g2, k * 8 + 2, none⟩ (.int .i64 x.db)).setCell ⟨g2, k * 8 + 3, none⟩ (.int .i64 x.rl)).setCell ⟨g2, k * 8 + 4, none⟩ (.int .u64 (wd x.sn 0))).setCell ⟨g2, k * 8 + 5, none⟩ (.int .u64 (wd x.sn 1))).setCell ⟨g2, k * 8 + 6, none⟩ (.int .u64 (wd x.sn 2))).setCell ⟨g2, k * 8 + 7, none⟩ (.int .u64 (wd x.sn 3))) := by
  have hs : ∀ (o : Nat) (v : Value) (w : World), Below w5.heap.size w5 w → Below w5.heap.size w5 (w.setCell ⟨g2, o, none⟩ v) := fun o v w hw => hw.setCell (p := ⟨g2, o, none⟩) (Nat.le_of_lt h.lg) v
  have hf : ∀ (o : Nat) (v : Value) (w : World), w.heap[w5.heap.size]? = some (.cells #[.int .i64 s, .int .i64 r, .slice a5 N c5] 29 (0, 0)) → (w.setCell ⟨g2, o, none⟩ v).heap[w5.heap.size]? = some (.cells #[.int .i64 s, .int .i64 r, .slice a5 N c5] 29 (0, 0)) := fun o v w hw => (blk_far (a := ⟨g2, o, none⟩) (Nat.ne_of_lt h.lg) v).trans hw
  have hc : ∀ (o : Nat) (v : Value) (w : World), Ch CT w b rr n Lc → Ch CT (w.setCell ⟨g2, o, none⟩ v) b rr n Lc := fun o v w hw => by
    obtain ⟨cur, h1, h2, h3⟩ := hw.row
    exact ⟨(blk_far (a := ⟨g2, o, none⟩) h.gb.symm v).trans hw.str, ⟨cur, (blk_far (a := ⟨g2, o, none⟩) h.gr.symm v).trans h1, h2, h3⟩, hw.ne, hw.few, hw.wf⟩
  exact ⟨hs _ _ _ (hs _ _ _ (hs _ _ _ (hs _ _ _ (hs _ _ _ (hs _ _ _ (hs _ _ _ (hs _ _ _ (h.low)))))))), hf _ _ _ (hf _ _ _ (hf _ _ _ (hf _ _ _ (hf _ _ _ (hf _ _ _ (hf _ _ _ (hf _ _ _ (h.sb)))))))), hc _ _ _ (hc _ _ _ (hc _ _ _ (hc _ _ _ (hc _ _ _ (hc _ _ _ (hc _ _ _ (hc _ _ _ (h.ch)))))))), h.ar.set hk x, h.lb, h.lr, h.lg, h.gb, h.gr⟩
theorem TickAt.far {T : TypeId} {m : Nat} {w5 : World} {s r : Int} {a5 : Option Addr} {N c5 b rr n : Nat} {Lc : Nat → Int} {g2 : Nat} {f : Nat → WK} {w : World} (h : TickAt T m w5 s r a5 N c5 b rr n Lc g2 f w) {g : Nat} (hg : w5.heap.size < g) (hb : g ≠ b) (hr : g ≠ rr) (h2 : g ≠ g2) (o : Nat) (v : Value) :
    TickAt T m w5 s r a5 N c5 b rr n Lc g2 f (w.setCell ⟨g, o, none⟩ v) := by
  obtain ⟨cur, h3, h4, h5⟩ := h.ch.row
  exact ⟨h.low.setCell (p := ⟨g, o, none⟩) (Nat.le_of_lt hg) v, (blk_far (a := ⟨g, o, none⟩) (Nat.ne_of_lt hg) v).trans h.sb, ⟨(blk_far (a := ⟨g, o, none⟩) hb.symm v).trans h.ch.str, ⟨cur, (blk_far (a := ⟨g, o, none⟩) hr.symm v).trans h3, h4, h5⟩, h.ch.ne, h.ch.few, h.ch.wf⟩, h.ar.far h2.symm v, h.lb, h.lr, h.lg, h.gb, h.gr⟩
/-- A work of one's own, stored in a new box. -/
theorem TickAt.put {T : TypeId} {m : Nat} {w5 : World} {s r : Int} {a5 : Option Addr} {N c5 b rr n : Nat} {Lc Lc' : Nat → Int} {g2 : Nat} {f : Nat → WK} {w w' : World} (h : TickAt T m w5 s r a5 N c5 b rr n Lc g2 f w) (ht : Turn (fun k => k = rr) w w') (hc : Ch CT w' b rr n Lc') {z0 z1 z2 z3 z4 z5 z6 z7 : Value} (hq : w'.heap[w.heap.size]? = some (.cells #[z0, z1, z2, z3, z4, z5, z6, z7] WT (0, 0))) (y0 y1 y2 y3 y4 y5 y6 y7 : Value) :
    TickAt T m w5 s r a5 N c5 b rr n Lc' g2 f ((((((((w'.setCell ⟨w.heap.size, 0, none⟩ y0).setCell ⟨w.heap.size, 1, none⟩ y1).setCell ⟨w.heap.size, 2, none⟩ y2).setCell ⟨w.heap.size, 3, none⟩ y3).setCell ⟨w.heap.size, 4, none⟩ y4).setCell ⟨w.heap.size, 5, none⟩ y5).setCell ⟨w.heap.size, 6, none⟩ y6).setCell ⟨w.heap.size, 7, none⟩ y7) ∧ ((((((((w'.setCell ⟨w.heap.size, 0, none⟩ y0).setCell ⟨w.heap.size, 1, none⟩ y1).setCell ⟨w.heap.size, 2, none⟩ y2).setCell ⟨w.heap.size, 3, none⟩ y3).setCell ⟨w.heap.size, 4, none⟩ y4).setCell ⟨w.heap.size, 5, none⟩ y5).setCell ⟨w.heap.size, 6, none⟩ y6).setCell ⟨w.heap.size, 7, none⟩ y7).heap[w.heap.size]? = some (.cells #[y0, y1, y2, y3, y4, y5, y6, y7] WT (0, 0)) := by
  have h1 := h.turn ht hc
  have l0 := lt_of_block h.sb
  have l1 := h.ch.lt
  have l2 := h.ar.lt
  have key : ∀ (o : Nat) (v : Value) (x : World), TickAt T m w5 s r a5 N c5 b rr n Lc' g2 f x → TickAt T m w5 s r a5 N c5 b rr n Lc' g2 f (x.setCell ⟨w.heap.size, o, none⟩ v) := fun o v x hx => hx.far (by omega) (by omega) (by omega) (by omega) o v
  exact ⟨key _ _ _ (key _ _ _ (key _ _ _ (key _ _ _ (key _ _ _ (key _ _ _ (key _ _ _ (key _ _ _ (h1)))))))), box_set8 hq y0 y1 y2 y3 y4 y5 y6 y7⟩
end Go.Proofs.Ytfifgojbihdhcaa

/-
  The walk over the statement that who runs alone reloads nothing.
-/
namespace Go.Proofs.Ytfifgojbihdhcaa
open Go.RowKit Go.Maps
attribute [-go_sem] run_eql_struct run_neq_struct
attribute [local go_sem] work_eql workGuard bits_eql bitsGuard

/-- What was seen belongs to one. -/
def SeenOwn (n : Nat) (L : Nat → Int) (id : Int) (p : Nat → Bool) : Prop := ∀ j, j < 256 → p j = true → j < n ∧ L j = id
/-- Who runs alone does a piece of work. -/
theorem alone_step {n : Nat} {L : Nat → Int} {id s : Int} {u : Bool} {rel dn dm : Int} {p : Nat → Bool} (hn : n ≤ 256) (hf : Fits id rel ⟨dn, dm, 0, 0, p⟩) (hs : SeenOwn n L id p) :
    ∃ p', stepW n L id s u rel ⟨dn, dm, 0, 0, p⟩ = (⟨dn + 1, dm, 0, 0, p'⟩, false) ∧ SeenOwn n (stepL n L id s u rel ⟨dn, dm, 0, 0, p⟩) id p' := by
  unfold stepW stepL
  rw [if_pos hf, if_neg (show ¬ (0 : Int) < 0 by omega), if_pos ⟨hf, show ¬ (0 : Int) < 0 by omega⟩]
  unfold workW workL
  by_cases hq : u = true ∧ okSet n s
  · rw [if_pos hq, if_pos hq]
    obtain ⟨h0, h1⟩ := hq.2
    have hno : ¬ (¬ L s.toNat = id ∧ 0 < rel ∧ hasP p s = true) := by
      rintro ⟨a, _, c⟩
      unfold hasP at c
      rw [Bool.and_eq_true] at c
      exact a (hs s.toNat (by omega) c.2).2
    rw [if_neg hno]
    refine ⟨_, rfl, fun j hj hp => ?_⟩
    unfold putL
    by_cases e : (j : Int) = s
    · rw [if_pos e]; exact ⟨by omega, rfl⟩
    · rw [if_neg e]
      unfold bitUp orP oneP at hp
      rw [decide_eq_false e, Bool.or_false] at hp
      exact hs j hj hp
  · rw [if_neg hq, if_neg hq]
    exact ⟨_, rfl, hs⟩
theorem seen_and {n : Nat} {L : Nat → Int} {id : Int} {p : Nat → Bool} (ho : okOwn id) (hs : SeenOwn n L id p) {k : Nat} (hk : k < 4) : wd (andP p (ofP n L id)) k = wd p k := natOf_congr fun j hj => by
  unfold andP ofP
  rw [decide_eq_true ho, Bool.true_and]
  cases h : p (64 * k + j) with
  | false => rfl
  | true =>
    obtain ⟨h1, h2⟩ := hs (64 * k + j) (by omega) h
    simp [h1, h2]

/-- The boxes of the statement: a system, a cache, a task, a work. -/
structure AloAt (w5 : World) (s r : Int) (a5 : Option Addr) (N c5 : Nat) (b rr n : Nat) (Lc : Nat → Int) (gt : Nat) (T : TV) (gw : Nat) (a bb c d : Int) (y : Nat → Nat) (w : World) : Prop where
  low : Below w5.heap.size w5 w
  sb : w.heap[w5.heap.size]? = some (.cells #[.int .i64 s, .int .i64 r, .slice a5 N c5] 29 (0, 0))
  ch : Ch CT w b rr n Lc
  tb : w.heap[gt]? = some (.cells #[.int .i64 T.id, .int .i64 T.c, .int .i64 T.d, .int .i64 T.t, .int .i64 T.p, .slice T.a1 T.ch.length T.c1, .slice T.a2 T.us.length T.c2] TT (0, 0))
  wb : w.heap[gw]? = some (.cells #[.int .i64 a, .int .i64 bb, .int .i64 c, .int .i64 d, .int .u64 (y 0), .int .u64 (y 1), .int .u64 (y 2), .int .u64 (y 3)] WT (0, 0))
  lr : w5.heap.size < rr
  tr : gt ≠ rr
  wr : gw ≠ rr
  wb2 : gw ≠ b
  wt : gw ≠ gt
  ws : w5.heap.size < gw
theorem AloAt.below {w5 : World} {s r : Int} {a5 : Option Addr} {N c5 b rr n : Nat} {Lc : Nat → Int} {gt : Nat} {T : TV} {gw : Nat} {a bb c d : Int} {y : Nat → Nat} {w w' : World} (h : AloAt w5 s r a5 N c5 b rr n Lc gt T gw a bb c d y w) (hb : Below w.heap.size w w') : AloAt w5 s r a5 N c5 b rr n Lc gt T gw a bb c d y w' :=
  ⟨below_up h.low hb, kept_obj hb h.sb, h.ch.below hb, kept_obj hb h.tb, kept_obj hb h.wb, h.lr, h.tr, h.wr, h.wb2, h.wt, h.ws⟩
theorem AloAt.turn {w5 : World} {s r : Int} {a5 : Option Addr} {N c5 b rr n : Nat} {Lc : Nat → Int} {gt : Nat} {T : TV} {gw : Nat} {a bb c d : Int} {y : Nat → Nat} {Lc' : Nat → Int} {w w' : World} (h : AloAt w5 s r a5 N c5 b rr n Lc gt T gw a bb c d y w) (ht : Turn (fun k => k = rr) w w') (hc : Ch CT w' b rr n Lc') : AloAt w5 s r a5 N c5 b rr n Lc' gt T gw a bb c d y w' :=
  ⟨h.low.trans (ht.below (B := w5.heap.size) h.low.size (fun i q => by subst q; exact Nat.le_of_lt h.lr)), ht.obj h.sb (Nat.ne_of_lt h.lr), hc, ht.obj h.tb h.tr, ht.obj h.wb h.wr, h.lr, h.tr, h.wr, h.wb2, h.wt, h.ws⟩
theorem AloAt.put {w5 : World} {s r : Int} {a5 : Option Addr} {N c5 b rr n : Nat} {Lc : Nat → Int} {gt : Nat} {T : TV} {gw : Nat} {a bb c d : Int} {y : Nat → Nat} {w : World} (h : AloAt w5 s r a5 N c5 b rr n Lc gt T gw a bb c d y w) (a' b' c' d' : Int) (y' : Nat → Nat) : AloAt w5 s r a5 N c5 b rr n Lc gt T gw a' b' c' d' y' ((((((((w.setCell ⟨gw, 0, none⟩ (.int .i64 a')).setCell ⟨gw, 1, none⟩ (.int .i64 b')).setCell ⟨gw, 2, none⟩ (.int .i64 c')).setCell ⟨gw, 3, none⟩ (.int .i64 d')).setCell ⟨gw, 4, none⟩ (.int .u64 (y' 0))).setCell ⟨gw, 5, none⟩ (.int .u64 (y' 1))).setCell ⟨gw, 6, none⟩ (.int .u64 (y' 2))).setCell ⟨gw, 7, none⟩ (.int .u64 (y' 3))) := by
  have hs : ∀ (o : Nat) (v : Value) (w : World), Below w5.heap.size w5 w → Below w5.heap.size w5 (w.setCell ⟨gw, o, none⟩ v) := fun o v w hw => hw.setCell (p := ⟨gw, o, none⟩) (Nat.le_of_lt h.ws) v
  obtain ⟨cur, h3, h4, h5⟩ := h.ch.row
  exact ⟨hs _ _ _ (hs _ _ _ (hs _ _ _ (hs _ _ _ (hs _ _ _ (hs _ _ _ (hs _ _ _ (hs _ _ _ (h.low)))))))), (far8 (Nat.ne_of_lt h.ws) (.int .i64 a') (.int .i64 b') (.int .i64 c') (.int .i64 d') (.int .u64 (y' 0)) (.int .u64 (y' 1)) (.int .u64 (y' 2)) (.int .u64 (y' 3))).trans h.sb, ⟨(far8 h.wb2.symm (.int .i64 a') (.int .i64 b') (.int .i64 c') (.int .i64 d') (.int .u64 (y' 0)) (.int .u64 (y' 1)) (.int .u64 (y' 2)) (.int .u64 (y' 3))).trans h.ch.str, ⟨cur, (far8 h.wr.symm (.int .i64 a') (.int .i64 b') (.int .i64 c') (.int .i64 d') (.int .u64 (y' 0)) (.int .u64 (y' 1)) (.int .u64 (y' 2)) (.int .u64 (y' 3))).trans h3, h4, h5⟩, h.ch.ne, h.ch.few, h.ch.wf⟩, (far8 h.wt.symm (.int .i64 a') (.int .i64 b') (.int .i64 c') (.int .i64 d') (.int .u64 (y' 0)) (.int .u64 (y' 1)) (.int .u64 (y' 2)) (.int .u64 (y' 3))).trans h.tb, box_set8 h.wb (.int .i64 a') (.int .i64 b') (.int .i64 c') (.int .i64 d') (.int .u64 (y' 0)) (.int .u64 (y' 1)) (.int .u64 (y' 2)) (.int .u64 (y' 3)), h.lr, h.tr, h.wr, h.wb2, h.wt, h.ws⟩

set_option maxRecDepth 100000 in
set_option maxHeartbeats 16000000 in
theorem law_alone (W : World) (S R : Int) (a : Option Addr) (n cap : Nat) (L : List NV) (hn : Nums W a n cap L) (which : Int) (a2 : Option Addr) (n2 cap2 : Nat) (l : Nat → Int × Int) (hp : Pairs W a2 n2 l) :
    Calls Try.prog 4 #[.agg #[.int .i64 S, .int .i64 R, .slice a n cap], .int .i64 which, .slice a2 n2 cap2] W fun e w' => e = .returned (.bool true) ∧ Below W.heap.size W w' := by
  have hsm := hp.small
  have HP := Lib.hid hp
  clear hp
  have HN := Lib.hid hn
  have hz2 := zeroSys
  clear hn
  go_enter Try.func4, Try.ntmps4
  go_upto_region 1 with fail
  refine gen_world (fun v => Below W.heap.size W v ∧ v.cell? ⟨W.heap.size, 0, none⟩ = some (.int .i64 S) ∧ v.cell? ⟨W.heap.size, 1, none⟩ = some (.int .i64 R) ∧ v.cell? ⟨W.heap.size, 2, none⟩ = some (.slice a n cap)) ⟨(by repeat (first | exact Below.refl _ _ | (with_reducible assumption) | refine bw_alloc ?_ _ | refine bw_drew ?_)), by rw [World.cell?_alloc_new]; rfl, by rw [World.cell?_alloc_new]; rfl, by rw [World.cell?_alloc_new]; rfl⟩ ?_
  intro W1 ⟨hl1, e0, e1, e2⟩
  have HL1 := Lib.hid hl1
  clear hl1
  go_upto_region 2 with (go_at_call 8; (with_reducible refine (cawake_any _).mono ?_); rintro e w1 ⟨rfl, b1⟩; have HL2 := Lib.hid (below_up HL1.out b1); have d0 := kept_cell b1 e0; have d1 := kept_cell b1 e1; have d2 := kept_cell b1 e2; clear b1 e0 e1 e2)
  have C := Lib.hid (made5_any S R (HN.out.below HL2.out))
  go_upto_region 3 with (go_at_call 9; (with_reducible refine (C.out).mono ?_); rintro e w5 ⟨s, r, a5, N, c5, M, rfl, ho5, hok5, hi5, hm5, b5⟩; have HT5 := Lib.hid (ho5.tasks hok5); have HM := Lib.hid hm5; have HL5 := Lib.hid (below_up HL2.out b5); clear ho5 hok5 hi5 hm5 b5)
  have hN1 : 0 < N := by have := HM.out.pos; have := HT5.out.len; omega
  have hN6 : N ≤ 6 := by have := HM.out.six; have := HT5.out.len; omega
  obtain ⟨ns, rfl⟩ : ∃ ns : Nat, s = (ns : Int) := ⟨s.toNat, by have := HM.out.s1; omega⟩
  have hns : ns ≤ 8 := by have := HM.out.s8; omega
  have hr0 := HM.out.r0
  have hr3 := HM.out.r3
  obtain ⟨g5, o5, rfl⟩ : ∃ g o, a5 = some ⟨g, o, none⟩ := by
    obtain ⟨t0, ht0⟩ := nth_of HT5.out.len hN1
    obtain ⟨g, o, e, _⟩ := HT5.out.view.at_ ht0
    exact ⟨g, o, e⟩
  have hS : (w5.alloc (.cells #[.int .i64 (ns : Int), .int .i64 r, .slice (some ⟨g5, o5, none⟩) N c5] 29)).heap[w5.heap.size]? = some (.cells #[.int .i64 (ns : Int), .int .i64 r, .slice (some ⟨g5, o5, none⟩) N c5] 29 (0, 0)) := heap_alloc_new w5 _
  refine gen_world (fun v => Below w5.heap.size w5 v ∧ v.heap[w5.heap.size]? = some (.cells #[.int .i64 (ns : Int), .int .i64 r, .slice (some ⟨g5, o5, none⟩) N c5] 29 (0, 0))) ⟨(by repeat (first | exact Below.refl _ _ | (with_reducible assumption) | refine bw_alloc ?_ _ | refine bw_drew ?_)), hS⟩ ?_
  intro W6 ⟨hl6, hs6⟩
  have HL6 := Lib.hid hl6
  have HS6 := Lib.hid hs6
  have z0 : W6.cell? ⟨w5.heap.size, 0, none⟩ = some (.int .i64 (ns : Int)) := by rw [blk_cell hs6]; rfl
  have CN := Lib.hid (cnew_some ns (by omega) W6)
  clear hs6 hl6 hS C d0 d1 d2 HL1 HL2
  go_upto_region 6 with (go_at_call 10; (refine (CN.out).mono ?_); rintro e w6 ⟨b, rr, rfl, hc, hb, hrr, b6⟩; have HC := Lib.hid hc; have HLB := Lib.hid (Nat.lt_of_lt_of_le (lt_of_block HS6.out) hb); have HLR := Lib.hid (Nat.lt_of_lt_of_le (lt_of_block HS6.out) hrr); have HS7 := Lib.hid (kept_obj b6 HS6.out); have HL7 := Lib.hid (below_up HL6.out b6); clear hc hb hrr b6)
  clear CN z0 HL6 HS6
  have H7 := Lib.hid (And.intro HL7.out (And.intro HS7.out HC.out))
  clear HL7 HS7 HC
  obtain ⟨m, hm⟩ : ∃ m, m = min n2 12 := ⟨_, rfl⟩
  have hm1 : m ≤ n2 := by omega
  have hm4 : m ≤ 12 := by omega
  have hor : m = n2 ∨ (m = 12 ∧ 12 < n2) := by omega
  have HOR := Lib.hid hor
  clear hm hor
  go_upto_block 0 with fail
  go_cut [] from 27 to 51 (fun wx => ∃ Lc : Nat → Int, Hid (Below w5.heap.size w5 wx ∧ wx.heap[w5.heap.size]? = some (.cells #[.int .i64 (ns : Int), .int .i64 r, .slice (some ⟨g5, o5, none⟩) N c5] 29 (0, 0)) ∧ Ch CT wx b rr ns Lc))
  case first =>
    go_wp2_with fail
    go_loopw [10] (fun u wr => ∃ (i : Nat) (Lc : Nat → Int), i ≤ m ∧ u = .int .i64 i ∧ Hid (Below w5.heap.size w5 wr ∧ wr.heap[w5.heap.size]? = some (.cells #[.int .i64 (ns : Int), .int .i64 r, .slice (some ⟨g5, o5, none⟩) N c5] 29 (0, 0)) ∧ Ch CT wr b rr ns Lc)) (fun u _ => (m - intOf u).toNat)
    case atStart => exact ⟨0, _, by omega, rfl, H7⟩
    case round =>
      obtain ⟨i, Lc, hi, rfl, HQ⟩ := hrel
      clear H7
      by_cases hlt : i < m
      · obtain ⟨g, o, rfl, c0, c1⟩ := (HP.out.below (below_up HL5.out HQ.out.1)).at_ i (by omega)
        obtain ⟨y0, hy, hy2⟩ := and_small (l i).2 7 (by omega)
        obtain ⟨x0, hx, hx2⟩ := and_small (l i).1 7 (by omega)
        have hy3 : bits .and .i64 (l i).2 7 = (y0 : Int) := hy2
        have hx3 : bits .and .i64 (l i).1 7 = (x0 : Int) := hx2
        have hy4 : IntKind.i64.wrap (1 + (y0 : Int)) = 1 + (y0 : Int) := IntWalk.i64_in _ (by omega)
        have hi1 : (i : Int) < (n2 : Int) := by omega
        have hi2 : (i : Int) < 12 := by omega
        have hi3 : (0 : Int) ≤ (i : Int) := by omega
        have US := Lib.hid (fun w (hw : Below wr.heap.size wr w) => cuse_any (HQ.out.2.2.below hw) (x0 : Int) (1 + (y0 : Int)))
        unfold UseBack at US
        generalize useL ns Lc (x0 : Int) (1 + (y0 : Int)) = L2 at US
        generalize useB ns Lc (x0 : Int) (1 + (y0 : Int)) = ub at US
        generalize (l i).1 = s1 at *
        generalize (l i).2 = s2 at *
        clear hy hy2 hx hx2
        have bb := Below.refl wr.heap.size wr
        go_upto_region 9 with fail
        go_still_tail 14, (by kernel_rfl)
        go_wp2_with (go_at_call 12; (with_reducible refine (US.out _ (by repeat (first | (with_reducible assumption) | (with_reducible refine Below.drew ?_) | with_reducible refine Below.alloc ?_ (by first | omega | (simp; omega)) _))).mono ?_); rintro e w3 ⟨rfl, hc3, ht3⟩; have T3 := Lib.hid (Turn.then (Turn.of_below (by repeat (first | (with_reducible assumption) | (with_reducible refine Below.drew ?_) | with_reducible refine Below.alloc ?_ (by first | omega | (simp; omega)) _))) ht3 : Turn (fun k => k = rr) wr _); have H3 : Hid (Below w5.heap.size w5 w3 ∧ w3.heap[w5.heap.size]? = some (.cells #[.int .i64 (ns : Int), .int .i64 r, .slice (some ⟨g5, o5, none⟩) N c5] 29 (0, 0)) ∧ Ch CT w3 b rr ns L2) := ⟨HQ.out.1.trans (T3.out.below (B := w5.heap.size) HQ.out.1.size (fun i q => by subst q; exact Nat.le_of_lt HLR.out)), T3.out.obj HQ.out.2.1 (Nat.ne_of_lt HLR.out), hc3⟩; clear hc3 ht3)
        go_roundw
        case rel => exact ⟨i + 1, _, by omega, by go_num, H3⟩
        case measure => simp [intOf]; omega
      · obtain rfl : i = m := by omega
        have q1 : ¬ ((i : Int) < (n2 : Int)) ∨ ((i : Int) < (n2 : Int) ∧ ¬ ((i : Int) < 12)) := by
          rcases HOR.out with h | ⟨h1, h2⟩
          · left; omega
          · right; omega
        rcases q1 with q1 | ⟨q1, q2⟩
        all_goals
          go_wp2_with fail
          go_meet
          exact ⟨_, HQ⟩
  case rest =>
    obtain ⟨Lc, H8⟩ := hcut
    clear H7 HP HOR hm1 hm4 hsm
    obtain ⟨t, k, e1, v2, v3, v4, v5⟩ : ∃ (t : Int) (k : Nat), which.tmod N = t ∧ -(N : Int) < t ∧ t < N ∧ (t + N) % N = (k : Int) ∧ k < N := by
      have a := Int.tmod_lt_of_pos which (show (0 : Int) < N by omega)
      have b := Int.lt_tmod_of_pos which (show (0 : Int) < N by omega)
      have c := Int.emod_nonneg (which.tmod N + N) (show (N : Int) ≠ 0 by omega)
      have d := Int.emod_lt_of_pos (which.tmod N + N) (show (0 : Int) < N by omega)
      exact ⟨which.tmod N, ((which.tmod N + N) % N).toNat, rfl, b, a, by omega, by omega⟩
    have x1 : IntKind.i64.wrap (t + (N : Int)) = t + N := IntWalk.i64_in _ (by omega)
    have x2 : (t + (N : Int)).tmod N = (k : Int) := by rw [Int.tmod_eq_emod_of_nonneg (by omega)]; exact v4
    have z1 : ((N : Int) == 0) = false := by rw [beq_eq_false_iff_ne]; omega
    have z2 : ¬ (N : Int) = 0 := by omega
    have z3 : ¬ N = 0 := by omega
    have z4 : 0 ≤ t + (N : Int) := by omega
    have s2 : wc.cell? ⟨w5.heap.size, 2, none⟩ = some (.slice (some ⟨g5, o5, none⟩) N c5) := by rw [blk_cell H8.out.2.1]; rfl
    clear v4
    go_upto_region 10 with fail
    go_quiet (fail)
    obtain ⟨T, hT⟩ := nth_of HT5.out.len v5
    have HG := Lib.hid (HM.out.good k T hT)
    have HTO := Lib.hid (HT5.out.ok.at_ hT)
    have HVW : Hid (At w5 g5 (o5 + k * 7) T) := by
      obtain ⟨g, o, e, h⟩ := HT5.out.view.at_ hT
      cases e
      exact h
    go_upto_region 11 with fail
    refine gen_world (fun w => Below w5.heap.size w5 w ∧ w.heap[w5.heap.size]? = some (.cells #[.int .i64 (ns : Int), .int .i64 r, .slice (some ⟨g5, o5, none⟩) N c5] 29 (0, 0)) ∧ Ch CT w b rr ns Lc) ⟨below_up H8.out.1 ⟨rfl, rfl, rfl, Nat.le_refl _, fun _ _ => rfl⟩, H8.out.2.1, H8.out.2.2.below ⟨rfl, rfl, rfl, Nat.le_refl _, fun _ _ => rfl⟩⟩ ?_
    intro V9 hv9
    have H9 := Lib.hid hv9
    clear hv9 H8 s2 e1 v2 v3 x1 x2 z1 z2 z3 z4
    have s2 : V9.cell? ⟨w5.heap.size, 2, none⟩ = some (.slice (some ⟨g5, o5, none⟩) N c5) := by rw [blk_cell H9.out.2.1]; rfl
    obtain ⟨y0, y1, y2, y3, y4, y5, y6⟩ := HVW.out
    have t0 := kept_cellB H9.out.1 (block_of_cell y0) y0; have t1 := kept_cellB H9.out.1 (block_of_cell y1) y1; have t2 := kept_cellB H9.out.1 (block_of_cell y2) y2; have t3 := kept_cellB H9.out.1 (block_of_cell y3) y3; have t4 := kept_cellB H9.out.1 (block_of_cell y4) y4; have t5 := kept_cellB H9.out.1 (block_of_cell y5) y5; have t6 := kept_cellB H9.out.1 (block_of_cell y6) y6
    clear y0 y1 y2 y3 y4 y5 y6
    have hk0 : (0 : Int) ≤ (k : Int) := by omega
    have hkN' : (k : Int) < (N : Int) := by omega
    go_upto_region 13 with fail
    refine gen_world (AloAt w5 (ns : Int) r (some ⟨g5, o5, none⟩) N c5 b rr ns Lc V9.heap.size T (V9.heap.size + 1) 0 T.c 0 0 (wd noneP)) ⟨below_up H9.out.1 (by repeat (first | exact Below.refl _ _ | (with_reducible assumption) | refine bw_alloc ?_ _ | refine bw_drew ?_)), kept_obj (by repeat (first | exact Below.refl _ _ | (with_reducible assumption) | refine bw_alloc ?_ _ | refine bw_drew ?_)) H9.out.2.1, H9.out.2.2.below (by repeat (first | exact Below.refl _ _ | (with_reducible assumption) | refine bw_alloc ?_ _ | refine bw_drew ?_)), kept_obj ((Below.refl _ _).alloc (Nat.le_refl _) _) (heap_alloc_new V9 _), (by rw [wd_none, wd_none, wd_none, wd_none]; exact (two_boxes V9 rfl _ _).2), HLR.out, by have := H9.out.2.2.lt.2; omega, by have := H9.out.2.2.lt.2; omega, by have := H9.out.2.2.lt.1; omega, by omega, by have := lt_of_block H9.out.2.1; omega⟩ ?_
    intro V10 hv10
    have H10 := Lib.hid hv10
    obtain ⟨gt, hgt⟩ : ∃ gt, V9.heap.size = gt := ⟨_, rfl⟩
    rw [hgt] at H10
    simp only [hgt]
    clear hv10 H9 s2 hgt t0 t1 t2 t3 t4 t5 t6
    have hfit : ∀ (i : Nat) (p : Nat → Bool), (i : Int) < T.c → Fits T.id r ⟨i, T.c, 0, 0, p⟩ := fun i p h => ⟨⟨by have := HG.out.id; omega, by have := HG.out.id; omega⟩, by omega, by omega, by show (0 : Int) ≤ i; omega, h, by show (0 : Int) ≤ 0; omega⟩
    have HF := Lib.hid hfit
    have hc24 : 1 ≤ T.c ∧ T.c ≤ 24 := ⟨HG.out.c1, by have := HG.out.cd; have := HG.out.dt; have := HG.out.t24; omega⟩
    clear hfit
    obtain ⟨cN, hcN⟩ : ∃ cN : Nat, T.c = (cN : Int) := ⟨T.c.toNat, by omega⟩
    have HCN := Lib.hid hcN
    have hcN24 : cN ≤ 24 := by omega
    clear hcN hc24
    go_upto_block 2 with fail
    go_wp2_with fail
    go_loopw [14, 15, 16] (fun u v w' wr => ∃ (i : Nat) (Lc : Nat → Int) (p : Nat → Bool), i ≤ cN ∧ u = .int .i64 i ∧ Hid (AloAt w5 (ns : Int) r (some ⟨g5, o5, none⟩) N c5 b rr ns Lc gt T (gt + 1) i T.c 0 0 (wd p) wr) ∧ Hid (SeenOwn ns Lc T.id p)) (fun u _ _ _ => (cN - intOf u).toNat)
    case atStart => exact ⟨0, Lc, noneP, by omega, rfl, H10, fun j _ h => by cases h⟩
    case round =>
      obtain ⟨i, Lc, p, hi, rfl, HQ, HS⟩ := hrel
      clear H10
      have s1 : wr.cell? ⟨w5.heap.size, 1, none⟩ = some (.int .i64 r) := by rw [blk_cell HQ.out.sb]; rfl
      have t0 : wr.cell? ⟨gt, 0, none⟩ = some (.int .i64 T.id) := by rw [blk_cell HQ.out.tb]; rfl
      have t1 : wr.cell? ⟨gt, 1, none⟩ = some (.int .i64 T.c) := by rw [blk_cell HQ.out.tb]; rfl
      have t2 : wr.cell? ⟨gt, 2, none⟩ = some (.int .i64 T.d) := by rw [blk_cell HQ.out.tb]; rfl
      have t3 : wr.cell? ⟨gt, 3, none⟩ = some (.int .i64 T.t) := by rw [blk_cell HQ.out.tb]; rfl
      have t4 : wr.cell? ⟨gt, 4, none⟩ = some (.int .i64 T.p) := by rw [blk_cell HQ.out.tb]; rfl
      have t5 : wr.cell? ⟨gt, 5, none⟩ = some (.slice T.a1 T.ch.length T.c1) := by rw [blk_cell HQ.out.tb]; rfl
      have t6 : wr.cell? ⟨gt, 6, none⟩ = some (.slice T.a2 T.us.length T.c2) := by rw [blk_cell HQ.out.tb]; rfl
      have q0 : wr.cell? ⟨gt + 1, 0, none⟩ = some (.int .i64 i) := by rw [blk_cell HQ.out.wb]; rfl
      have q1 : wr.cell? ⟨gt + 1, 1, none⟩ = some (.int .i64 T.c) := by rw [blk_cell HQ.out.wb]; rfl
      have q2 : wr.cell? ⟨gt + 1, 2, none⟩ = some (.int .i64 0) := by rw [blk_cell HQ.out.wb]; rfl
      have q3 : wr.cell? ⟨gt + 1, 3, none⟩ = some (.int .i64 0) := by rw [blk_cell HQ.out.wb]; rfl
      have q4 : wr.cell? ⟨gt + 1, 4, none⟩ = some (.int .u64 (wd p 0)) := by rw [blk_cell HQ.out.wb]; rfl
      have q5 : wr.cell? ⟨gt + 1, 5, none⟩ = some (.int .u64 (wd p 1)) := by rw [blk_cell HQ.out.wb]; rfl
      have q6 : wr.cell? ⟨gt + 1, 6, none⟩ = some (.int .u64 (wd p 2)) := by rw [blk_cell HQ.out.wb]; rfl
      have q7 : wr.cell? ⟨gt + 1, 7, none⟩ = some (.int .u64 (wd p 3)) := by rw [blk_cell HQ.out.wb]; rfl
      have f0 := blk_free HQ.out.wb 0
      have f1 := blk_free HQ.out.wb 1
      have f2 := blk_free HQ.out.wb 2
      have f3 := blk_free HQ.out.wb 3
      have f4 := blk_free HQ.out.wb 4
      have f5 := blk_free HQ.out.wb 5
      have f6 := blk_free HQ.out.wb 6
      have f7 := blk_free HQ.out.wb 7
      by_cases hlt : i < cN
      · have hi1 : (i : Int) < T.c := by rw [HCN.out]; omega
        have hi4 : IntKind.i64.wrap ((i : Int) + 1) = (i : Int) + 1 := IntWalk.i64_in _ (by omega)
        obtain ⟨p', hst, hse⟩ := alone_step (s := (accOf T i).1) (u := (accOf T i).2) HQ.out.ch.few (HF.out i p hi1) HS.out
        have STC := Lib.hid (cstep_any T r i T.c 0 0 p wr HQ.out.ch (HTO.out.below HQ.out.low) (by rw [HCN.out]; omega) (by omega))
        rw [hst] at STC
        unfold StepBack at STC
        dsimp only at STC
        generalize stepL ns Lc T.id (accOf T i).1 (accOf T i).2 r ⟨i, T.c, 0, 0, p⟩ = L2 at STC hse
        have HSE := Lib.hid hse
        clear hst hse
        go_upto_region 17 with (go_at_call 16; (refine STC.out.mono ?_); rintro e w7 ⟨rfl, hc7, ht7⟩; have H7x := Lib.hid (HQ.out.turn ht7 hc7); clear hc7 ht7)
        refine gen_world (fun w => AloAt w5 (ns : Int) r (some ⟨g5, o5, none⟩) N c5 b rr ns L2 gt T (gt + 1) i T.c 0 0 (wd p) w ∧ w.heap[w7.heap.size]? = some (.cells #[.int .i64 (i + 1 : Int), .int .i64 T.c, .int .i64 0, .int .i64 0, .int .u64 (wd p' 0), .int .u64 (wd p' 1), .int .u64 (wd p' 2), .int .u64 (wd p' 3)] WT (0, 0))) ⟨H7x.out.below (bw_alloc (Below.refl _ _) _), heap_alloc_new w7 _⟩ ?_
        intro V7 ⟨hv7, hx7⟩
        have H8 := Lib.hid hv7
        have x0 : V7.cell? ⟨w7.heap.size, 0, none⟩ = some (.int .i64 (i + 1 : Int)) := by rw [blk_cell hx7]; rfl
        have x1 : V7.cell? ⟨w7.heap.size, 1, none⟩ = some (.int .i64 T.c) := by rw [blk_cell hx7]; rfl
        have x2 : V7.cell? ⟨w7.heap.size, 2, none⟩ = some (.int .i64 0) := by rw [blk_cell hx7]; rfl
        have x3 : V7.cell? ⟨w7.heap.size, 3, none⟩ = some (.int .i64 0) := by rw [blk_cell hx7]; rfl
        have x4 : V7.cell? ⟨w7.heap.size, 4, none⟩ = some (.int .u64 (wd p' 0)) := by rw [blk_cell hx7]; rfl
        have x5 : V7.cell? ⟨w7.heap.size, 5, none⟩ = some (.int .u64 (wd p' 1)) := by rw [blk_cell hx7]; rfl
        have x6 : V7.cell? ⟨w7.heap.size, 6, none⟩ = some (.int .u64 (wd p' 2)) := by rw [blk_cell hx7]; rfl
        have x7 : V7.cell? ⟨w7.heap.size, 7, none⟩ = some (.int .u64 (wd p' 3)) := by rw [blk_cell hx7]; rfl
        have g0 := blk_free hv7.wb 0
        have g1 := blk_free hv7.wb 1
        have g2 := blk_free hv7.wb 2
        have g3 := blk_free hv7.wb 3
        have g4 := blk_free hv7.wb 4
        have g5 := blk_free hv7.wb 5
        have g6 := blk_free hv7.wb 6
        have g7 := blk_free hv7.wb 7
        have v0 : V7.cell? ⟨gt + 1, 0, none⟩ = some (.int .i64 (i : Int)) := by rw [blk_cell hv7.wb]; rfl
        have v1 : V7.cell? ⟨gt + 1, 1, none⟩ = some (.int .i64 T.c) := by rw [blk_cell hv7.wb]; rfl
        have v2 : V7.cell? ⟨gt + 1, 2, none⟩ = some (.int .i64 0) := by rw [blk_cell hv7.wb]; rfl
        have v3 : V7.cell? ⟨gt + 1, 3, none⟩ = some (.int .i64 0) := by rw [blk_cell hv7.wb]; rfl
        have v4 : V7.cell? ⟨gt + 1, 4, none⟩ = some (.int .u64 (wd p 0)) := by rw [blk_cell hv7.wb]; rfl
        have v5 : V7.cell? ⟨gt + 1, 5, none⟩ = some (.int .u64 (wd p 1)) := by rw [blk_cell hv7.wb]; rfl
        have v6 : V7.cell? ⟨gt + 1, 6, none⟩ = some (.int .u64 (wd p 2)) := by rw [blk_cell hv7.wb]; rfl
        have v7 : V7.cell? ⟨gt + 1, 7, none⟩ = some (.int .u64 (wd p 3)) := by rw [blk_cell hv7.wb]; rfl
        have HN := Lib.hid (hv7.put (i + 1 : Int) T.c 0 0 (wd p'))
        clear hv7 hx7
        go_wp2_with fail
        go_roundw
        case rel => exact ⟨i + 1, L2, p', by omega, by go_num, HN, HSE⟩
        case measure => simp [intOf]; omega
      · obtain rfl : i = cN := by omega
        have hi1 : ¬ (i : Int) < T.c := by rw [HCN.out]; omega
        have hno : ¬ Fits T.id r ⟨i, T.c, 0, 0, p⟩ := fun h => hi1 h.2.2.2.2.1
        have STC := Lib.hid (cstep_any T r i T.c 0 0 p wr HQ.out.ch (HTO.out.below HQ.out.low) (by rw [HCN.out]; omega) (by omega))
        rw [show stepW ns Lc T.id (accOf T i).1 (accOf T i).2 r ⟨i, T.c, 0, 0, p⟩ = (⟨i, T.c, 0, 0, p⟩, false) by unfold stepW; rw [if_neg hno], show stepL ns Lc T.id (accOf T i).1 (accOf T i).2 r ⟨i, T.c, 0, 0, p⟩ = Lc by unfold stepL; rw [if_neg (fun h => hno h.1)]] at STC
        unfold StepBack at STC
        dsimp only at STC
        clear hno
        go_upto_region 21 with (go_at_call 16; (refine STC.out.mono ?_); rintro e w7 ⟨rfl, hc7, ht7⟩; have H7x := Lib.hid (HQ.out.turn ht7 hc7); clear hc7 ht7)
        refine gen_world (fun w => AloAt w5 (ns : Int) r (some ⟨g5, o5, none⟩) N c5 b rr ns Lc gt T (gt + 1) i T.c 0 0 (wd p) w ∧ w.heap[w7.heap.size]? = some (.cells #[.int .i64 (i : Int), .int .i64 T.c, .int .i64 0, .int .i64 0, .int .u64 (wd p 0), .int .u64 (wd p 1), .int .u64 (wd p 2), .int .u64 (wd p 3)] WT (0, 0))) ⟨H7x.out.below (bw_alloc (Below.refl _ _) _), heap_alloc_new w7 _⟩ ?_
        intro V7 ⟨hv7, hx7⟩
        have H8 := Lib.hid hv7
        have HX8 := Lib.hid hx7
        have MK : Hid (∀ w', Below V7.heap.size V7 w' → (Below V7.heap.size V7 w' ∧ w'.cell? ⟨w7.heap.size, 0, none⟩ = some (.int .i64 (i : Int)) ∧ w'.cell? ⟨w7.heap.size, 1, none⟩ = some (.int .i64 T.c) ∧ w'.cell? ⟨w7.heap.size, 2, none⟩ = some (.int .i64 0) ∧ w'.cell? ⟨w7.heap.size, 3, none⟩ = some (.int .i64 0) ∧ w'.cell? ⟨w7.heap.size, 4, none⟩ = some (.int .u64 (wd p 0)) ∧ w'.cell? ⟨w7.heap.size, 5, none⟩ = some (.int .u64 (wd p 1)) ∧ w'.cell? ⟨w7.heap.size, 6, none⟩ = some (.int .u64 (wd p 2)) ∧ w'.cell? ⟨w7.heap.size, 7, none⟩ = some (.int .u64 (wd p 3)) ∧ w'.cell? ⟨gt + 1, 0, none⟩ = some (.int .i64 (i : Int)) ∧ w'.cell? ⟨gt + 1, 1, none⟩ = some (.int .i64 T.c) ∧ w'.cell? ⟨gt + 1, 2, none⟩ = some (.int .i64 0) ∧ w'.cell? ⟨gt + 1, 3, none⟩ = some (.int .i64 0) ∧ w'.cell? ⟨gt + 1, 4, none⟩ = some (.int .u64 (wd p 0)) ∧ w'.cell? ⟨gt + 1, 5, none⟩ = some (.int .u64 (wd p 1)) ∧ w'.cell? ⟨gt + 1, 6, none⟩ = some (.int .u64 (wd p 2)) ∧ w'.cell? ⟨gt + 1, 7, none⟩ = some (.int .u64 (wd p 3)) ∧ w'.cell? ⟨gt, 0, none⟩ = some (.int .i64 T.id))) := fun w' hb => by
          have h1 := H8.out.below hb
          have h2 := kept_obj hb HX8.out
          exact ⟨hb, by rw [blk_cell h2]; rfl, by rw [blk_cell h2]; rfl, by rw [blk_cell h2]; rfl, by rw [blk_cell h2]; rfl, by rw [blk_cell h2]; rfl, by rw [blk_cell h2]; rfl, by rw [blk_cell h2]; rfl, by rw [blk_cell h2]; rfl, by rw [blk_cell h1.wb]; rfl, by rw [blk_cell h1.wb]; rfl, by rw [blk_cell h1.wb]; rfl, by rw [blk_cell h1.wb]; rfl, by rw [blk_cell h1.wb]; rfl, by rw [blk_cell h1.wb]; rfl, by rw [blk_cell h1.wb]; rfl, by rw [blk_cell h1.wb]; rfl, by rw [blk_cell h1.tb]; rfl⟩
        have ho : okOwn T.id := ⟨by have := HG.out.id; omega, by have := HG.out.id; omega⟩
        have C1 := Lib.hid (fun w (hw : Below V7.heap.size V7 w) => (cof_any (H8.out.ch.below hw) T.id).mono fun _ _ h => And.intro h.1 (below_up hw h.2))
        have C2 := Lib.hid (fun w (hw : Below V7.heap.size V7 w) => (rand_any p (ofP ns Lc T.id) w).mono fun _ _ ⟨h1, h2⟩ => And.intro h1 (below_up hw h2))
        rw [seen_and ho HS.out (k := 0) (by omega), seen_and ho HS.out (k := 1) (by omega), seen_and ho HS.out (k := 2) (by omega), seen_and ho HS.out (k := 3) (by omega)] at C2
        generalize wd (ofP ns Lc T.id) = y1 at C1 C2
        have e4 := eq4_self (wd p 0) (wd p 1) (wd p 2) (wd p 3)
        clear hv7 hx7 HS HF HCN ho
        obtain ⟨_, m0, m1, m2, m3, m4, m5, m6, m7, m8, m9, m10, m11, m12, m13, m14, m15, m16⟩ := MK.out V7 (Below.refl _ _)
        have bb := Below.refl V7.heap.size V7
        go_region_held3 (fun w' => Below V7.heap.size V7 w' ∧ w'.cell? ⟨w7.heap.size, 0, none⟩ = some (.int .i64 (i : Int)) ∧ w'.cell? ⟨w7.heap.size, 1, none⟩ = some (.int .i64 T.c) ∧ w'.cell? ⟨w7.heap.size, 2, none⟩ = some (.int .i64 0) ∧ w'.cell? ⟨w7.heap.size, 3, none⟩ = some (.int .i64 0) ∧ w'.cell? ⟨w7.heap.size, 4, none⟩ = some (.int .u64 (wd p 0)) ∧ w'.cell? ⟨w7.heap.size, 5, none⟩ = some (.int .u64 (wd p 1)) ∧ w'.cell? ⟨w7.heap.size, 6, none⟩ = some (.int .u64 (wd p 2)) ∧ w'.cell? ⟨w7.heap.size, 7, none⟩ = some (.int .u64 (wd p 3)) ∧ w'.cell? ⟨gt + 1, 0, none⟩ = some (.int .i64 (i : Int)) ∧ w'.cell? ⟨gt + 1, 1, none⟩ = some (.int .i64 T.c) ∧ w'.cell? ⟨gt + 1, 2, none⟩ = some (.int .i64 0) ∧ w'.cell? ⟨gt + 1, 3, none⟩ = some (.int .i64 0) ∧ w'.cell? ⟨gt + 1, 4, none⟩ = some (.int .u64 (wd p 0)) ∧ w'.cell? ⟨gt + 1, 5, none⟩ = some (.int .u64 (wd p 1)) ∧ w'.cell? ⟨gt + 1, 6, none⟩ = some (.int .u64 (wd p 2)) ∧ w'.cell? ⟨gt + 1, 7, none⟩ = some (.int .u64 (wd p 3)) ∧ w'.cell? ⟨gt, 0, none⟩ = some (.int .i64 T.id)) (exact MK.out _ (by repeat (first | (with_reducible assumption) | (with_reducible refine Below.drew ?_) | with_reducible refine Below.alloc ?_ (by first | omega | (simp; omega)) _))) (first
          | (go_at_call 20; (with_reducible refine (C1.out _ (by repeat (first | (with_reducible assumption) | (with_reducible refine Below.drew ?_) | with_reducible refine Below.alloc ?_ (by first | omega | (simp; omega)) _))).mono ?_); rintro e wx ⟨rfl, bx⟩; have sx := bx.size)
          | (go_at_call 23; (with_reducible refine (C2.out _ (by repeat (first | (with_reducible assumption) | (with_reducible refine Below.drew ?_) | with_reducible refine Below.alloc ?_ (by first | omega | (simp; omega)) _))).mono ?_); rintro e wx ⟨rfl, bx⟩; have sx := bx.size))
        all_goals
          go_wp2
          go_ret
          exact ⟨rfl, below_up HL5.out (below_up H8.out.low (by repeat (first | (with_reducible assumption) | (with_reducible refine Below.drew ?_) | with_reducible refine Below.alloc ?_ (by first | omega | (simp; omega)) _)))⟩
end Go.Proofs.Ytfifgojbihdhcaa

/-
  The row of the statement that who runs alone reloads nothing.
-/
namespace Go.Proofs.Ytfifgojbihdhcaa
open Go.RowKit Go.Maps
theorem row_alone (W : World) (S R : Int) (a : Option Addr) (n cap : Nat) (L : List NV) (hn : Nums W a n cap L) (which : Int) (_ : (Lit.int .i64 which).wf = true) (a2 : Option Addr) (n2 cap2 : Nat) (l : Nat → Int × Int) (hp : Pairs W a2 n2 l) :
    Calls Try.prog 4 #[.agg #[.int .i64 S, .int .i64 R, .slice a n cap], .int .i64 which, .slice a2 n2 cap2] W fun e w' => e = .returned (.bool true) ∧ Below W.heap.size W w' := law_alone W S R a n cap L hn which a2 n2 cap2 l hp
end Go.Proofs.Ytfifgojbihdhcaa
