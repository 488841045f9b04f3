/-
  The walks over the document's own list and count; two rows held against each other; the first numbers of a row; the chapter's example.
-/
import Derived.Test.YtigafpmhgogpmaaDoorBRef4
import Derived.Test.YtigafpmhgogpmaaDoorBListW
import Derived.OwnWalk
namespace Go.Proofs.YtigafpmhgogpmaaDoor
open Go.RowKit

theorem owns_below {w w' : World} {B base : Nat} {e : TypeId} {size n : Nat} {v : Value} {xs : List Value} (h : w.ownsRow base e size v n xs) (hb : Below B w w') (hB : w.heap.size ≤ B) : w'.ownsRow base e size v n xs := by
  refine ⟨h.1, ?_⟩
  rcases h.2 with h | ⟨g, cap, cur, h1, h2, h3, h4⟩
  · exact .inl h
  · have hg : g < w.heap.size := (Array.getElem?_eq_some_iff.1 h3).1
    exact .inr ⟨g, cap, cur, h1, h2, (hb.block g (by omega)).trans h3, h4⟩
theorem owns_base {w : World} {base base' : Nat} {e : TypeId} {size n : Nat} {v : Value} {xs : List Value} (h : w.ownsRow base e size v n xs) (hB : base' ≤ base) : w.ownsRow base' e size v n xs := by
  refine ⟨h.1, ?_⟩
  rcases h.2 with h | ⟨g, cap, cur, h1, h2, h3⟩
  · exact .inl h
  · exact .inr ⟨g, cap, cur, h1, by omega, h3⟩

/-- A row of one's own, read. -/
theorem owns_reads {w : World} {base : Nat} {v : Value} {E : List Int} (h : w.ownsRow base 3 1 v E.length (E.map (Value.int .i64))) :
    ∃ ao cap, v = .slice ao E.length cap ∧ Reads w w.heap.size ao E ∧ (cap : Int) ≤ 9223372036854775807 ∧ E.length ≤ cap := by
  rcases h.2 with ⟨rfl, h0⟩ | ⟨g, cap, cur, rfl, h2, h3, h4, h5, _⟩
  · exact ⟨none, 0, by rw [h0], .inl (List.eq_nil_of_length_eq_zero h0), by omega, by omega⟩
  · refine ⟨some ⟨g, 0, none⟩, cap, rfl, ?_, by unfold maxLen at h5; omega, h4⟩
    right
    refine ⟨g, 0, rfl, (Array.getElem?_eq_some_iff.1 h3).1, fun k hk => ?_⟩
    have := h.cells (g := g) (by simp [Value.ownBlock]) k (.int .i64 (E.getD k 0)) (by rw [List.getElem?_map, List.getElem?_eq_getElem hk, List.getD_eq_getElem?_getD, List.getElem?_eq_getElem hk]; rfl)
    have e : (⟨g, 0, none⟩ : Addr).add k = ⟨g, 0 + k, none⟩ := by unfold Addr.add; split <;> simp_all
    rw [e] at this
    exact this

def Blk4 (w : World) (b x0 x1 x2 x3 : Nat) : Prop := w.heap[b]? = some (.cells #[.int .u64 x0, .int .u64 x1, .int .u64 x2, .int .u64 x3] 24 (0, 0))
theorem Blk4.lt {w : World} {b x0 x1 x2 x3 : Nat} (h : Blk4 w b x0 x1 x2 x3) : b < w.heap.size := (Array.getElem?_eq_some_iff.1 h).1
theorem Blk4.cells {w : World} {b x0 x1 x2 x3 : Nat} (h : Blk4 w b x0 x1 x2 x3) : w.cell? ⟨b, 0, none⟩ = some (.int .u64 x0) ∧ w.cell? ⟨b, 1, none⟩ = some (.int .u64 x1) ∧ w.cell? ⟨b, 2, none⟩ = some (.int .u64 x2) ∧ w.cell? ⟨b, 3, none⟩ = some (.int .u64 x3) := by
  unfold Blk4 at h; simp [World.cell?, h]

structure LoopL (p : Nat → Bool) (w wr : World) (n : Nat) (v : Value) : Prop where
  x : Blk4 wr w.heap.size (wd p 0) (wd p 1) (wd p 2) (wd p 3)
  row : wr.ownsRow (w.heap.size + 1) 3 1 v (below p n).length (((below p n).map fun x : Nat => (x : Int)).map (Value.int .i64))
  low : Below w.heap.size w wr

theorem below_yes {p : Nat → Bool} {n : Nat} (h : p n = true) : below p (n + 1) = below p n ++ [n] := by unfold below; rw [List.range_succ, List.filter_append]; simp [h]
theorem below_no {p : Nat → Bool} {n : Nat} (h : p n = false) : below p (n + 1) = below p n := by unfold below; rw [List.range_succ, List.filter_append]; simp [h]

theorem LoopL.next {p : Nat → Bool} {w wr w1 w3 : World} {n : Nat} {v v' : Value} {o : Obj} (h : LoopL p w wr n v) (hw : Below wr.heap.size wr w1) (hp : p n = true)
    (hown : w3.ownsRow (w.heap.size + 1) 3 1 v' ((below p n).length + 1) (((below p n).map fun x : Nat => (x : Int)).map (Value.int .i64) ++ [.int .i64 (n : Int)])) (hg : (w1.alloc o).grownBy w3 v.ownBlock) : LoopL p w w3 (n + 1) v' := by
  have hlt := h.x.lt
  have hsz := hw.size
  have hne : ∀ k, v.ownBlock = some k → w.heap.size + 1 ≤ k := fun k hk => (h.row.lt k hk).1
  refine ⟨?_, ?_, ?_⟩
  · have h1 : Blk4 w1 w.heap.size (wd p 0) (wd p 1) (wd p 2) (wd p 3) := (hw.block _ hlt).trans h.x
    have h2 : Blk4 (w1.alloc o) w.heap.size (wd p 0) (wd p 1) (wd p 2) (wd p 3) := (Below.heap_alloc w1 o _ h1.lt).trans h1
    exact (hg.block _ h2.lt (fun e => by have := hne _ e.symm; omega)).trans h2
  · rw [below_yes hp]
    simpa using hown
  · exact ((h.low.trans (hw.mono h.low.size)).alloc (Nat.le_trans h.low.size hsz) o).grown hg (Nat.le_trans h.low.size (by simp; omega)) fun k hk => by have := hne k hk; omega
theorem LoopL.stay {p : Nat → Bool} {w wr w1 : World} {n : Nat} {v : Value} (h : LoopL p w wr n v) (hw : Below wr.heap.size wr w1) (hp : p n = false) : LoopL p w w1 (n + 1) v :=
  ⟨(hw.block _ h.x.lt).trans h.x, by rw [below_no hp]; exact owns_below h.row hw (Nat.le_refl _), h.low.trans (hw.mono h.low.size)⟩

set_option maxRecDepth 100000 in
set_option maxHeartbeats 4000000 in
theorem rlist_any (p : Nat → Bool) (w : World) : Calls Tryd.prog 19 #[.agg #[.int .u64 (wd p 0), .int .u64 (wd p 1), .int .u64 (wd p 2), .int .u64 (wd p 3)]] w (ListPost p w) := by
  obtain ⟨i0, hi, hz0, hz1, hz2⟩ := info_parts infoInt
  have H := Lib.hid (fun (n : Nat) (h : n < 256) w => (show Calls Tryd.prog 12 #[.agg #[.int .u64 (wd p 0), .int .u64 (wd p 1), .int .u64 (wd p 2), .int .u64 (wd p 3)], .int .i64 n] w fun e w' => e = .returned (.bool (p n)) ∧ Below w.heap.size w w' by have := rhas_any p n w; rw [hasP_nat h] at this; exact this))
  go_enter Tryd.func19, Tryd.ntmps19
  go_wp2
  go_loopw [3, 4] (fun v i wr => ∃ n : Nat, n ≤ 256 ∧ i = .int .i64 n ∧ Hid (LoopL p w wr n v)) (fun _ i _ => (256 - intOf i).toNat)
  case atStart =>
    exact ⟨0, by omega, rfl, ⟨World.alloc_heap_new w _, World.ownsRow_nil _ _ _ _, (Below.refl _ _).alloc (Nat.le_refl _) _⟩⟩
  case round =>
    obtain ⟨n, hn, rfl, HL⟩ := hrel
    by_cases hlt : n < 256
    · obtain ⟨x0, x1, x2, x3⟩ := HL.out.x.cells
      have C := Lib.hid (H.out n hlt)
      have hlen : (below p n).length ≤ 256 := by rw [below_length]; have := cntN_le p n; omega
      clear H
      cases hq : p n with
      | false =>
        have HN := Lib.hid (fun w1 hw => HL.out.stay (w1 := w1) hw hq)
        rw [hq] at C
        clear HL hq hlen
        generalize wd p = a at x0 x1 x2 x3 C
        go_wp2_with (go_at_call 12; (refine (C.out _).mono ?_); rintro e w1 ⟨rfl, hw1⟩; have HM := Lib.hid (HN.out _ hw1); clear hw1)
        go_roundw
        case rel => exact ⟨n + 1, by omega, by go_num, HM⟩
        case measure => simp [intOf]; omega
      | true =>
        have HQ := Lib.hid hq
        rw [hq] at C
        clear hq
        generalize wd p = a at x0 x1 x2 x3 C
        go_wp2_with (first
          | (go_at_call 12; (refine (C.out _).mono ?_); rintro e w1 ⟨rfl, hw1⟩; have HR := Lib.hid (owns_below HL.out.row hw1 (Nat.le_refl _)); have HZ := Lib.hid (Nat.le_trans (HL.out.x.lt : w.heap.size + 1 ≤ wr.heap.size) hw1.size); have HW := Lib.hid hw1; clear hw1)
          | (at_builtin; refine wpList_append_own _ rfl _ _ 25 rfl (w.heap.size + 1) 3 i0 (.int .i64 0) 1 8 Tryd.underlying25 hi hz0 hz1 hz2 rfl (by decide) _ _ _ rfl (HR.out.alloc _) ⟨w1.heap.size, 0, none⟩ 1 1 [.int .i64 n] rfl rfl (cell_one_new _ _ _) (fun x hx => by simp at hx; subst hx; rfl) (by unfold maxLen; omega) (by omega) (by have := HZ.out; simp; omega) ?_; intro v' w3 hown' hgrow _; have HM := Lib.hid (HL.out.next HW.out HQ.out hown' hgrow); clear hown' hgrow))
        go_roundw
        case rel => exact ⟨n + 1, by omega, by go_num, HM⟩
        case measure => simp [intOf]; omega
    · obtain rfl : n = 256 := by omega
      clear H
      go_wp2
      go_ret
      exact ⟨_, rfl, by
        have := owns_base HL.out.row (base' := w.heap.size) (by omega)
        unfold els; rw [List.length_map]; exact this, HL.out.low⟩

end Go.Proofs.YtigafpmhgogpmaaDoor
