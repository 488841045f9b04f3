/-
  The walks over the order of tasks, and over a short row that is sorted.
-/
import Derived.Test.YtknjldmpcokgfaaKW19
import Derived.Shelf.SlSortCmp.InsertionK
namespace Go.Proofs.Ytknjldmpcokgfaa
open Go.RowKit Go.Maps Go.Shelf

instance tvInh : Inhabited TV := ⟨⟨0, 0, 0, 0, 0, none, [], 0, none, [], 0⟩⟩
def cmpP (x y : TV) : Int := cmpI x.p y.p
theorem ltP (x y : TV) : ltOf cmpP x y = decide (x.p < y.p) := by
  unfold ltOf cmpP cmpI
  by_cases h : x.p < y.p
  · rw [if_pos h]; simp [h]
  · rw [if_neg h]
    by_cases h2 : y.p < x.p
    · rw [if_pos h2]; simp [h]
    · rw [if_neg h2]; simp [h]
theorem swoP : Sort.SWO (ltOf cmpP) :=
  ⟨fun x => by rw [ltP]; simp, fun x y z h1 h2 => by rw [ltP, decide_eq_true_eq] at *; omega, fun x y z h1 h2 => by rw [ltP, decide_eq_false_iff_not] at *; omega⟩

set_option maxRecDepth 100000 in
set_option maxHeartbeats 1000000 in
theorem prio_any (x y : TV) (W : World) : Calls Try.prog 45 #[.agg #[.int .i64 x.id, .int .i64 x.c, .int .i64 x.d, .int .i64 x.t, .int .i64 x.p, .slice x.a1 x.ch.length x.c1, .slice x.a2 x.us.length x.c2], .agg #[.int .i64 y.id, .int .i64 y.c, .int .i64 y.d, .int .i64 y.t, .int .i64 y.p, .slice y.a1 y.ch.length y.c1, .slice y.a2 y.us.length y.c2]] W fun e w' => e = .returned (.int .i64 (cmpP x y)) ∧ ∃ q os', w' = Sort.grow (W.drewN q) os' := by
  have C := Lib.hid (cmp_any x.p y.p)
  unfold cmpP
  generalize cmpI x.p y.p = r at C ⊢
  go_enter Try.func45, Try.ntmps45
  go_wp2_with (go_at_call 46; (with_reducible refine (C.out _).mono ?_); rintro e w1 ⟨rfl, rfl⟩)
  go_ret
  exact ⟨rfl, 0, _, by rw [Sort.alloc_eq_grow, Sort.alloc_eq_grow, Sort.grow_grow]; rfl⟩
theorem prioLays (blk off size : Nat) (w : World) : CmpLays Try.prog 45 #[] TV.cells 7 cmpP blk off size w :=
  fun _ _ _ _ x y => prio_any x y _

def insRen : Ren := ⟨fun | 20 => 59 | n => n, fun | 0 => 0 | 3 => 3 | 4 => 4 | 22 => 26 | 24 => 25 | 25 => 72 | n => n, fun | n => n⟩
theorem insLays : SlLaysF0.n20 Try.prog insRen where
  mixed := by kernel_rfl
  f20 := ⟨ "slices.insertionSortCmpFunc[ostinato/api.Task]", by decide, Try.func59.trans (congrArg some (by kernel_rfl))⟩
  t0 := Try.underlying0
  a0 := Try.isAgg0
  z0 := Try.sizeOf0
  v0 := Try.zeroValue0
  t3 := Try.underlying3
  a3 := Try.isAgg3
  z3 := Try.sizeOf3
  v3 := Try.zeroValue3
  t4 := Try.underlying4
  a4 := Try.isAgg4
  z4 := Try.sizeOf4
  v4 := Try.zeroValue4
  t22 := Try.underlying26
  a22 := Try.isAgg26
  z22 := Try.sizeOf26
  v22 := Try.zeroValue26
  t25 := Try.underlying72
  a25 := Try.isAgg72
  z25 := Try.sizeOf72
  v25 := Try.zeroValue72

/-! ### the row's cells -/
theorem cells_one (x : TV) : ∀ v ∈ x.cells, v.oneCell' = true := by
  intro u h
  simp [TV.cells] at h
  rcases h with rfl | rfl | rfl | rfl | rfl | rfl | rfl <;> rfl
theorem flat_get (l : List TV) (t : Nat) (ht : t < l.length * 7) : (flat l)[t]? = some (l[t / 7]!.cells[t % 7]!) := by
  have h7 : t / 7 < l.length := by omega
  have h := flat_at l (t / 7) l[t / 7]! (by simp [h7]) (t % 7) (by omega)
  rw [show t / 7 * 7 + t % 7 = t by omega] at h
  rw [h]
  have this : t % 7 < (l[t / 7]!).cells.length := by rw [cells_len]; omega
  rw [getElem!_pos (l[t / 7]!).cells (t % 7) this, List.getElem?_eq_getElem this]
theorem flatK_flat (d : Array TV) (t : Nat) (ht : t < d.size * 7) : (flat d.toList)[t]? = some ((Sort.flatK TV.cells 7 d)[t]!) := by
  rw [flat_get d.toList t (by simpa using ht), Sort.get_flatK TV.cells 7 d t ht]
  congr 3
  have h7 : t / 7 < d.size := by omega
  simp [h7]
theorem holds_of {w : World} {B blk cap : Nat} {d : Array TV} (h : OwnT w B (.slice (some ⟨blk, 0, none⟩) d.size cap) d.toList) : Sort.HoldsK TV.cells 7 w blk 0 d := by
  obtain ⟨a, c, e, hv, _, _⟩ := h.slice
  cases e
  rcases h with ⟨h0, q | ⟨g, cap', cur, e, hb, h3, h1, h2, h4, h5⟩⟩
  · cases q.1
  · cases e
    intro j hj
    rw [Sort.size_flatK] at hj
    have hf := flatK_flat d j hj
    have h5' := h5
    rw [← h5', List.getElem?_take, if_pos (by simpa using hj)] at hf
    rw [Nat.zero_add]
    exact ⟨by rw [blk_cell h3]; simpa using hf, blk_free h3 j⟩
theorem sorted_own {w : World} {B blk cap : Nat} {d d' : Array TV} (h : OwnT w B (.slice (some ⟨blk, 0, none⟩) d.size cap) d.toList) (hs : d'.size = d.size) (n : Nat) (os : Array Obj) :
    OwnT (sortWorldK TV.cells 7 w blk 0 n d' os) B (.slice (some ⟨blk, 0, none⟩) d.size cap) d'.toList ∧ KeepI w (sortWorldK TV.cells 7 w blk 0 n d' os) ∧ Below B w (sortWorldK TV.cells 7 w blk 0 n d' os) ∧ blk < w.heap.size := by
  rcases h with ⟨h0, q | ⟨g, cap', cur, e, hb, h3, h1, h2, h4, h5⟩⟩
  · cases q.1
  · cases e
    have hbl := lt_of_block h3
    have hh : ∀ k, k < w.heap.size → (sortWorldK TV.cells 7 w blk 0 n d' os).heap[k]? = (w.heap.modify blk (Sort.onCells (Sort.putCells id 0 (Sort.flatK TV.cells 7 d'))))[k]? := by
      intro k hk
      show (w.heap.modify blk _ ++ os)[k]? = _
      rw [Array.getElem?_append_left (by simpa using hk)]
    have hfar : ∀ k, k < w.heap.size → k ≠ blk → (sortWorldK TV.cells 7 w blk 0 n d' os).heap[k]? = w.heap[k]? := by
      intro k hk hne
      rw [hh k hk, Array.getElem?_modify, if_neg (Ne.symm hne)]
    refine ⟨⟨by rw [flat_len], .inr ⟨blk, cap, Sort.putCells id 0 (Sort.flatK TV.cells 7 d') cur, by simp [hs], hb, ?_, by simpa [hs] using h1, h2, by simp [Sort.putCells, h4], ?_⟩⟩, ?_, ⟨rfl, rfl, rfl, by show w.heap.size ≤ (w.heap.modify blk _ ++ os).size; simp, ?_⟩, hbl⟩
    · rw [hh blk hbl, Array.getElem?_modify, if_pos rfl, h3]; rfl
    · apply List.ext_getElem?
      intro t
      simp only [Array.length_toList] at h1
      by_cases ht : t < d'.size * 7
      · rw [List.getElem?_take, if_pos (by simpa using ht), flatK_flat d' t ht]
        have htc : t < cur.size := by rw [h4]; have := Nat.mul_le_mul_right 7 h1; omega
        simp [Sort.putCells, htc, ht]
      · rw [List.getElem?_take, if_neg (by simpa using ht), List.getElem?_eq_none (by rw [flat_len]; simpa using ht)]
    · intro k cs T fr hc hT
      refine hfar k (lt_of_block hc) ?_
      rintro rfl
      rw [h3] at hc
      simp at hc
      rcases hT with q | q <;> rw [q] at hc <;> exact absurd hc.2.1 (by decide)
    · intro k hk
      exact hfar k (by omega) (by omega)

/-- A row that was sorted. -/
def SortBack (B blk cap : Nat) (d : Array TV) (w : World) (e : Ending) (w' : World) : Prop :=
  e = .returned (.tuple #[]) ∧ ∃ M : List TV, M.Perm d.toList ∧ M.Pairwise (fun x y => x.p ≤ y.p) ∧ OwnT w' B (.slice (some ⟨blk, 0, none⟩) d.size cap) M ∧ KeepI w w' ∧ Below B w w'
theorem sort_done {w : World} {B blk cap : Nat} {d : Array TV} (h : OwnT w B (.slice (some ⟨blk, 0, none⟩) d.size cap) d.toList) (n : Nat) (os : Array Obj) :
    SortBack B blk cap d w (.returned (.tuple #[])) (sortWorldK TV.cells 7 w blk 0 n (Sort.insertionSort (ltOf cmpP) d 0 d.size) os) := by
  obtain ⟨hp, hso⟩ := Sort.insertionSort_holds (lt := ltOf cmpP) swoP d 0 d.size (Nat.zero_le _) (Nat.le_refl _)
  generalize Sort.insertionSort (ltOf cmpP) d 0 d.size = d' at hp hso ⊢
  obtain ⟨o, k, b, _⟩ := sorted_own h hp.1 n os
  refine ⟨rfl, d'.toList, ?_, ?_, o, k, b⟩
  · have := hp.2.2
    have e1 : d.extract 0 d.size = d := by simp
    have e2 : d'.extract 0 d.size = d' := by rw [← hp.1]; simp
    rwa [e1, e2] at this
  · rw [List.pairwise_iff_getElem]
    intro i j hi hj hij
    simp only [Array.length_toList] at hi hj
    have := hso i j (Nat.zero_le _) hij (by rw [← hp.1]; exact hj)
    rw [ltP, decide_eq_false_iff_not] at this
    simp only [Array.getElem_toList]
    rw [getElem!_pos d' i (by simpa using hi), getElem!_pos d' j (by simpa using hj)] at this
    omega
end Go.Proofs.Ytknjldmpcokgfaa
