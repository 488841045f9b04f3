/-
  The walk over the document's task of a number.
-/
import Derived.Test.YtknjldmpcokgfaaKW26
namespace Go.Proofs.Ytknjldmpcokgfaa
open Go.RowKit Go.Maps Go.Shelf

/-- A system in a box, a task that comes back. -/
structure RFindAt (w : World) (s r : Int) (a : Option Addr) (n cap : Nat) (W : World) : Prop where
  low : Below w.heap.size w W
  box : W.heap[w.heap.size]? = some (.cells #[.int .i64 s, .int .i64 r, .slice a n cap] 28 (0, 0))
  res : W.heap[w.heap.size + 1]? = some (.cells #[.int .i64 0, .int .i64 0, .int .i64 0, .int .i64 0, .int .i64 0, .slice none 0 0, .slice none 0 0] TT (0, 0))
theorem rfindAt_new {w : World} {s r : Int} {a : Option Addr} {n cap : Nat} : RFindAt w s r a n cap ((w.alloc (.cells #[.int .i64 s, .int .i64 r, .slice a n cap] 28)).alloc (.cells #[.int .i64 0, .int .i64 0, .int .i64 0, .int .i64 0, .int .i64 0, .slice none 0 0, .slice none 0 0] TT)) := by
  refine ⟨(by repeat (first | exact Below.refl _ _ | (with_reducible assumption) | refine bw_alloc ?_ _ | refine bw_drew ?_)), ?_, ?_⟩
  · rw [Below.heap_alloc _ _ _ (by simp)]; exact heap_alloc_new w _
  · have := heap_alloc_new (w.alloc (.cells #[.int .i64 s, .int .i64 r, .slice a n cap] 28)) (.cells #[.int .i64 0, .int .i64 0, .int .i64 0, .int .i64 0, .int .i64 0, .slice none 0 0, .slice none 0 0] TT)
    rwa [World.size_alloc] at this
theorem RFindAt.miss {w W : World} {s r id : Int} {a : Option Addr} {n cap : Nat} {L : List TV} (h : RFindAt w s r a n cap W) (hf : findTk (L.map TV.tk) id = none) (x0 x1 x2 x3 x4 x5 x6 : Value) :
    FindBack L id w (.returned (.tuple #[.agg #[.int .i64 0, .int .i64 0, .int .i64 0, .int .i64 0, .int .i64 0, .slice none 0 0, .slice none 0 0], .bool false])) ((((((((W.setCell ⟨w.heap.size + 1, 0, none⟩ x0).setCell ⟨w.heap.size + 1, 1, none⟩ x1).setCell ⟨w.heap.size + 1, 2, none⟩ x2).setCell ⟨w.heap.size + 1, 3, none⟩ x3).setCell ⟨w.heap.size + 1, 4, none⟩ x4).setCell ⟨w.heap.size + 1, 5, none⟩ x5).setCell ⟨w.heap.size + 1, 6, none⟩ x6)) :=
  ⟨tv0, false, rfl, tv0_ok _, ⟨.inl rfl, .inl rfl⟩, .inr ⟨rfl, hf, rfl⟩, below_set7 h.low (by omega) x0 x1 x2 x3 x4 x5 x6⟩
theorem RFindAt.hit {w W : World} {s r id : Int} {a : Option Addr} {n cap : Nat} {L : List TV} {y : TV} (h : RFindAt w s r a n cap W) (hf : findTk (L.map TV.tk) id = some y.tk) (hy : y.ok W) (hi : IsI W y.a1 y.ch ∧ IsI W y.a2 y.us) (x0 x1 x2 x3 x4 x5 x6 : Value) :
    FindBack L id w (.returned (.tuple #[.agg #[.int .i64 y.id, .int .i64 y.c, .int .i64 y.d, .int .i64 y.t, .int .i64 y.p, .slice y.a1 y.ch.length y.c1, .slice y.a2 y.us.length y.c2], .bool true])) ((((((((W.setCell ⟨w.heap.size + 1, 0, none⟩ x0).setCell ⟨w.heap.size + 1, 1, none⟩ x1).setCell ⟨w.heap.size + 1, 2, none⟩ x2).setCell ⟨w.heap.size + 1, 3, none⟩ x3).setCell ⟨w.heap.size + 1, 4, none⟩ x4).setCell ⟨w.heap.size + 1, 5, none⟩ x5).setCell ⟨w.heap.size + 1, 6, none⟩ x6)) :=
  ⟨y, true, rfl, hy.kept hi (keepI_set7 h.res x0 x1 x2 x3 x4 x5 x6), ⟨hi.1.kept (keepI_set7 h.res x0 x1 x2 x3 x4 x5 x6), hi.2.kept (keepI_set7 h.res x0 x1 x2 x3 x4 x5 x6)⟩, .inl ⟨rfl, hf⟩, below_set7 h.low (by omega) x0 x1 x2 x3 x4 x5 x6⟩

set_option maxRecDepth 100000 in
set_option maxHeartbeats 4000000 in
theorem rfind_sys {w : World} {a : Option Addr} {n cap : Nat} {L : List TV} (s r id : Int) (ha : Tasks w a n cap L) (hi : IsAll w L) :
    Calls Try.prog 22 #[.agg #[.int .i64 s, .int .i64 r, .slice a n cap], .int .i64 id] w (FindBack L id w) := by
  have HA := Lib.hid ha
  have HI := Lib.hid hi
  have hz := zeroTask
  have hn9 : (n : Int) ≤ 9223372036854775807 := by have := ha.le; have := ha.small; omega
  clear ha hi
  go_enter Try.func22, Try.ntmps22
  go_upto_region 1 with fail
  refine gen_world (RFindAt w s r a n cap) rfindAt_new ?_
  intro W1 hw1
  have H1 := Lib.hid hw1
  have e2 : W1.cell? ⟨w.heap.size, 2, none⟩ = some (.slice a n cap) := by rw [blk_cell hw1.box]; rfl
  have hl1 : w.heap.size < W1.heap.size := lt_of_block hw1.box
  have hr1 : w.heap.size + 1 < W1.heap.size := lt_of_block hw1.res
  have r0 : W1.cell? ⟨w.heap.size + 1, 0, none⟩ = some (.int .i64 0) := by rw [blk_cell hw1.res]; rfl
  have r1 : W1.cell? ⟨w.heap.size + 1, 1, none⟩ = some (.int .i64 0) := by rw [blk_cell hw1.res]; rfl
  have r2 : W1.cell? ⟨w.heap.size + 1, 2, none⟩ = some (.int .i64 0) := by rw [blk_cell hw1.res]; rfl
  have r3 : W1.cell? ⟨w.heap.size + 1, 3, none⟩ = some (.int .i64 0) := by rw [blk_cell hw1.res]; rfl
  have r4 : W1.cell? ⟨w.heap.size + 1, 4, none⟩ = some (.int .i64 0) := by rw [blk_cell hw1.res]; rfl
  have r5 : W1.cell? ⟨w.heap.size + 1, 5, none⟩ = some (.slice none 0 0) := by rw [blk_cell hw1.res]; rfl
  have r6 : W1.cell? ⟨w.heap.size + 1, 6, none⟩ = some (.slice none 0 0) := by rw [blk_cell hw1.res]; rfl
  have f0 := blk_free hw1.res 0
  have f1 := blk_free hw1.res 1
  have f2 := blk_free hw1.res 2
  have f3 := blk_free hw1.res 3
  have f4 := blk_free hw1.res 4
  have f5 := blk_free hw1.res 5
  have f6 := blk_free hw1.res 6
  clear hw1
  go_wp2_with fail
  go_loop [6] (fun u => ∃ k : Nat, k ≤ n ∧ u = .int .i64 k ∧ Hid (∀ (j : Nat) (y : TV), j < k → L[j]? = some y → decide (y.id = id) = false)) (fun u => (n - intOf u).toNat)
  case atStart => exact ⟨0, by omega, rfl, fun j y hj => absurd hj (Nat.not_lt_zero _)⟩
  case round =>
    obtain ⟨k, hk, rfl, HS⟩ := hrel
    by_cases hlt : k < n
    · obtain ⟨x, hx⟩ := nth_of HA.out.len hlt
      obtain ⟨g, o, rfl, ⟨c0, c1, c2, c3, c4, c5, c6⟩⟩ := (HA.out.view.below H1.out.low).at_ hx
      have hk1 : (k : Int) < (n : Int) := by omega
      have hk0 : (0 : Int) ≤ (k : Int) := by omega
      by_cases hq : x.id = id
      · have HX := Lib.hid (H1.out.hit (told_some hx (decide_eq_true hq) HS.out) ((HA.out.ok.at_ hx).below H1.out.low) ⟨(HI.out x (List.mem_of_getElem? hx)).1.below H1.out.low, (HI.out x (List.mem_of_getElem? hx)).2.below H1.out.low⟩)
        have d1 : (x.id == id) = true := by rw [beq_iff_eq]; exact hq
        clear hq hx HS
        go_wp2_with fail
        exact bodyPost_ret (v := .tuple #[.agg #[.int .i64 x.id, .int .i64 x.c, .int .i64 x.d, .int .i64 x.t, .int .i64 x.p, .slice x.a1 x.ch.length x.c1, .slice x.a2 x.us.length x.c2], .bool true]) (by simp [results, Try.results22, go_sem, r0, r1, r2, r3, r4, r5, r6]) rfl (HX.out _ _ _ _ _ _ _)
      · have HS2 : Hid (∀ (j : Nat) (y : TV), j < k + 1 → L[j]? = some y → decide (y.id = id) = false) := fun j y hj hy => by
          rcases Nat.lt_or_ge j k with h | h
          · exact HS.out j y h hy
          · obtain rfl : j = k := by omega
            rw [hx] at hy; cases hy; exact decide_eq_false hq
        have d1 : (x.id == id) = false := by rw [beq_eq_false_iff_ne]; exact hq
        clear hq hx HS
        go_wp2_with fail
        go_round
        case rel => exact ⟨k + 1, by omega, by go_num, HS2⟩
        case measure => simp [intOf]; omega
    · obtain rfl : n = k := by omega
      have HX := Lib.hid (H1.out.miss (L := L) (id := id) (told_none (fun x hx => by
        obtain ⟨j, hj⟩ := List.mem_iff_getElem?.1 hx
        exact HS.out j x (by have := (List.getElem?_eq_some_iff.1 hj).1; have := HA.out.len; omega) hj)))
      go_wp2_with fail
      exact bodyPost_ret (v := .tuple #[.agg #[.int .i64 0, .int .i64 0, .int .i64 0, .int .i64 0, .int .i64 0, .slice none 0 0, .slice none 0 0], .bool false]) (by simp [results, Try.results22, go_sem, r0, r1, r2, r3, r4, r5, r6]) rfl (HX.out _ _ _ _ _ _ _)
end Go.Proofs.Ytknjldmpcokgfaa
