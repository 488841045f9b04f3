/-
  The walk over the task of a number.
-/
import Derived.Test.YtknjldmpcokgfaaKW23
namespace Go.Proofs.Ytknjldmpcokgfaa
open Go.RowKit Go.Maps Go.Shelf

/-- A system in a box, a number in another one, a task that comes back. -/
structure FindAt (w : World) (s r : Int) (a : Option Addr) (n cap : Nat) (id : Int) (W : World) : Prop where
  low : Below w.heap.size w W
  box : W.heap[w.heap.size]? = some (.cells #[.int .i64 s, .int .i64 r, .slice a n cap] 28 (0, 0))
  num : W.cell? ⟨w.heap.size + 1, 0, none⟩ = some (.int .i64 id)
  res : W.heap[w.heap.size + 2]? = some (.cells #[.int .i64 0, .int .i64 0, .int .i64 0, .int .i64 0, .int .i64 0, .slice none 0 0, .slice none 0 0] TT (0, 0))
theorem FindAt.below {w W W' : World} {s r id : Int} {a : Option Addr} {n cap : Nat} (h : FindAt w s r a n cap id W) (hb : Below W.heap.size W W') : FindAt w s r a n cap id W' :=
  ⟨below_up h.low hb, kept_obj hb h.box, kept_cell hb h.num, kept_obj hb h.res⟩
theorem findAt_new {w : World} {s r id : Int} {a : Option Addr} {n cap : Nat} : FindAt w s r a n cap id (((w.alloc (.cells #[.int .i64 s, .int .i64 r, .slice a n cap] 28)).alloc (.cells #[.int .i64 id] 3)).alloc (.cells #[.int .i64 0, .int .i64 0, .int .i64 0, .int .i64 0, .int .i64 0, .slice none 0 0, .slice none 0 0] TT)) := by
  refine ⟨(by repeat (first | exact Below.refl _ _ | (with_reducible assumption) | refine bw_alloc ?_ _ | refine bw_drew ?_)), ?_, ?_, ?_⟩
  · rw [Below.heap_alloc _ _ _ (by simp; omega), Below.heap_alloc _ _ _ (by simp)]; exact heap_alloc_new w _
  · have := World.cell?_alloc_new (w := w.alloc (.cells #[.int .i64 s, .int .i64 r, .slice a n cap] 28)) #[.int .i64 id] 3 0
    rw [World.size_alloc] at this
    refine kept_cell (Below.alloc (Below.refl _ _) (Nat.le_refl _) _) ?_
    rw [this]; rfl
  · have := heap_alloc_new ((w.alloc (.cells #[.int .i64 s, .int .i64 r, .slice a n cap] 28)).alloc (.cells #[.int .i64 id] 3)) (.cells #[.int .i64 0, .int .i64 0, .int .i64 0, .int .i64 0, .int .i64 0, .slice none 0 0, .slice none 0 0] TT)
    rwa [World.size_alloc, World.size_alloc] at this
/-- The zero task. -/
def tv0 : TV := ⟨0, 0, 0, 0, 0, none, [], 0, none, [], 0⟩
theorem tv0_ok (w : World) : tv0.ok w := ⟨.inl rfl, .inl rfl, by simp [tv0], by simp [tv0], by simp [tv0], by simp [tv0]⟩
theorem FindAt.miss {w W : World} {s r id : Int} {a : Option Addr} {n cap : Nat} {L : List TV} (h : FindAt w s r a n cap id W) (hf : findTk (L.map TV.tk) id = none) (x0 x1 x2 x3 x4 x5 x6 : Value) :
    FindBack L id w (.returned (.tuple #[.agg #[.int .i64 0, .int .i64 0, .int .i64 0, .int .i64 0, .int .i64 0, .slice none 0 0, .slice none 0 0], .bool false])) ((((((((W.setCell ⟨w.heap.size + 2, 0, none⟩ x0).setCell ⟨w.heap.size + 2, 1, none⟩ x1).setCell ⟨w.heap.size + 2, 2, none⟩ x2).setCell ⟨w.heap.size + 2, 3, none⟩ x3).setCell ⟨w.heap.size + 2, 4, none⟩ x4).setCell ⟨w.heap.size + 2, 5, none⟩ x5).setCell ⟨w.heap.size + 2, 6, none⟩ x6)) :=
  ⟨tv0, false, rfl, tv0_ok _, ⟨.inl rfl, .inl rfl⟩, .inr ⟨rfl, hf, rfl⟩, below_set7 h.low (by omega) x0 x1 x2 x3 x4 x5 x6⟩
theorem FindAt.hit {w W : World} {s r id : Int} {a : Option Addr} {n cap : Nat} {L : List TV} {y : TV} (h : FindAt w s r a n cap id W) (hf : findTk (L.map TV.tk) id = some y.tk) (hy : y.ok W) (hi : IsI W y.a1 y.ch ∧ IsI W y.a2 y.us) (x0 x1 x2 x3 x4 x5 x6 : Value) :
    FindBack L id w (.returned (.tuple #[.agg #[.int .i64 y.id, .int .i64 y.c, .int .i64 y.d, .int .i64 y.t, .int .i64 y.p, .slice y.a1 y.ch.length y.c1, .slice y.a2 y.us.length y.c2], .bool true])) ((((((((W.setCell ⟨w.heap.size + 2, 0, none⟩ x0).setCell ⟨w.heap.size + 2, 1, none⟩ x1).setCell ⟨w.heap.size + 2, 2, none⟩ x2).setCell ⟨w.heap.size + 2, 3, none⟩ x3).setCell ⟨w.heap.size + 2, 4, none⟩ x4).setCell ⟨w.heap.size + 2, 5, none⟩ x5).setCell ⟨w.heap.size + 2, 6, none⟩ x6)) :=
  ⟨y, true, rfl, hy.kept hi (keepI_set7 h.res x0 x1 x2 x3 x4 x5 x6), ⟨hi.1.kept (keepI_set7 h.res x0 x1 x2 x3 x4 x5 x6), hi.2.kept (keepI_set7 h.res x0 x1 x2 x3 x4 x5 x6)⟩, .inl ⟨rfl, hf⟩, below_set7 h.low (by omega) x0 x1 x2 x3 x4 x5 x6⟩

set_option maxRecDepth 100000 in
set_option maxHeartbeats 4000000 in
theorem find_sys {w : World} {a : Option Addr} {n cap : Nat} {L : List TV} (s r id : Int) (ha : Tasks w a n cap L) (hn : 0 < n) (hsm : ∀ x ∈ L, (x.ch.length : Int) ≤ 1000000 ∧ (x.us.length : Int) ≤ 1000000) :
    Calls Try.prog 21 #[.agg #[.int .i64 s, .int .i64 r, .slice a n cap], .int .i64 id] w (FindBack L id w) := by
  have HA := Lib.hid ha
  have HS := Lib.hid hsm
  have hz := zeroTask
  have hn9 : (n : Int) ≤ 9223372036854775807 := by have := ha.le; have := ha.small; omega
  clear ha hsm
  go_enter Try.func21, Try.ntmps21
  go_upto_region 1 with fail
  refine gen_world (FindAt w s r a n cap id) findAt_new ?_
  intro W1 hw1
  have H1 := Lib.hid hw1
  have e2 : W1.cell? ⟨w.heap.size, 2, none⟩ = some (.slice a n cap) := by rw [blk_cell hw1.box]; rfl
  have hl1 : w.heap.size < W1.heap.size := lt_of_block hw1.box
  have C := Lib.hid (index_any (w := W1) (cap := cap) (HA.out.below hw1.low).view HA.out.len hn9 hn (fun x => decide (x.id = id)) 48 #[.pointer (some ⟨w.heap.size + 1, 0, none⟩)] find1_enters (find1_pred id _ W1 hw1.num))
  clear hw1
  go_upto_region 2 with (go_at_call 47; (with_reducible refine (C.out).mono ?_); rintro e w2 ⟨z, rfl, hz2, b2⟩; have H2 := Lib.hid (H1.out.below b2); have HZ := Lib.hid hz2; clear hz2 b2)
  clear C e2 hl1 H1
  have e2 : w2.cell? ⟨w.heap.size, 2, none⟩ = some (.slice a n cap) := by rw [blk_cell H2.out.box]; rfl
  have hr1 : w.heap.size + 2 < w2.heap.size := lt_of_block H2.out.res
  rcases HZ.out with ⟨rfl, hall⟩ | ⟨k, x, rfl, hx, hp, hall⟩
  · have HN := Lib.hid (H2.out.miss (told_none hall))
    have r0 : w2.cell? ⟨w.heap.size + 2, 0, none⟩ = some (.int .i64 0) := by rw [blk_cell H2.out.res]; rfl
    have r1 : w2.cell? ⟨w.heap.size + 2, 1, none⟩ = some (.int .i64 0) := by rw [blk_cell H2.out.res]; rfl
    have r2 : w2.cell? ⟨w.heap.size + 2, 2, none⟩ = some (.int .i64 0) := by rw [blk_cell H2.out.res]; rfl
    have r3 : w2.cell? ⟨w.heap.size + 2, 3, none⟩ = some (.int .i64 0) := by rw [blk_cell H2.out.res]; rfl
    have r4 : w2.cell? ⟨w.heap.size + 2, 4, none⟩ = some (.int .i64 0) := by rw [blk_cell H2.out.res]; rfl
    have r5 : w2.cell? ⟨w.heap.size + 2, 5, none⟩ = some (.slice none 0 0) := by rw [blk_cell H2.out.res]; rfl
    have r6 : w2.cell? ⟨w.heap.size + 2, 6, none⟩ = some (.slice none 0 0) := by rw [blk_cell H2.out.res]; rfl
    have f0 := blk_free H2.out.res 0
    have f1 := blk_free H2.out.res 1
    have f2 := blk_free H2.out.res 2
    have f3 := blk_free H2.out.res 3
    have f4 := blk_free H2.out.res 4
    have f5 := blk_free H2.out.res 5
    have f6 := blk_free H2.out.res 6
    clear HZ hall H2
    go_wp2_with fail
    exact bodyPost_ret (v := .tuple #[.agg #[.int .i64 0, .int .i64 0, .int .i64 0, .int .i64 0, .int .i64 0, .slice none 0 0, .slice none 0 0], .bool false]) (by simp [results, Try.results21, go_sem, r0, r1, r2, r3, r4, r5, r6]) rfl (HN.out _ _ _ _ _ _ _)
  · have hkl : k < n := by have := (List.getElem?_eq_some_iff.1 hx).1; have := HA.out.len; omega
    have HT := Lib.hid (told_some hx hp hall)
    obtain ⟨g, o, rfl, ⟨c0, c1, c2, c3, c4, c5, c6⟩⟩ := (HA.out.view.below H2.out.low).at_ hx
    have hk1 : (k : Int) < (n : Int) := by omega
    have hk0 : ¬ (k : Int) < 0 := by omega
    have hk2 : (0 : Int) ≤ (k : Int) := by omega
    have hxs := HS.out x (List.mem_of_getElem? hx)
    have C := Lib.hid (own_any x w2 ((HA.out.ok.at_ hx).below H2.out.low) hxs.1 hxs.2)
    clear hx hp hall HZ hxs
    go_upto_region 4 with fail
    go_wp2_with (go_at_call 43; (with_reducible refine (C.out).mono ?_); rintro e w5 ⟨y, rfl, hy1, hy2, hy3, b5⟩; have H5 := Lib.hid (H2.out.below b5); have HY := Lib.hid (H5.out.hit (L := L) (y := y) (hy1 ▸ HT.out) hy2 hy3); have r0 : w5.cell? ⟨w.heap.size + 2, 0, none⟩ = some (.int .i64 0) := (by rw [blk_cell H5.out.res]; rfl); have r1 : w5.cell? ⟨w.heap.size + 2, 1, none⟩ = some (.int .i64 0) := (by rw [blk_cell H5.out.res]; rfl); have r2 : w5.cell? ⟨w.heap.size + 2, 2, none⟩ = some (.int .i64 0) := (by rw [blk_cell H5.out.res]; rfl); have r3 : w5.cell? ⟨w.heap.size + 2, 3, none⟩ = some (.int .i64 0) := (by rw [blk_cell H5.out.res]; rfl); have r4 : w5.cell? ⟨w.heap.size + 2, 4, none⟩ = some (.int .i64 0) := (by rw [blk_cell H5.out.res]; rfl); have r5 : w5.cell? ⟨w.heap.size + 2, 5, none⟩ = some (.slice none 0 0) := (by rw [blk_cell H5.out.res]; rfl); have r6 : w5.cell? ⟨w.heap.size + 2, 6, none⟩ = some (.slice none 0 0) := (by rw [blk_cell H5.out.res]; rfl); have f0 := blk_free H5.out.res 0; have f1 := blk_free H5.out.res 1; have f2 := blk_free H5.out.res 2; have f3 := blk_free H5.out.res 3; have f4 := blk_free H5.out.res 4; have f5 := blk_free H5.out.res 5; have f6 := blk_free H5.out.res 6; have hr5 : w.heap.size + 2 < w5.heap.size := (lt_of_block H5.out.res); clear hy1 hy2 hy3 b5)
    exact bodyPost_ret (v := .tuple #[.agg #[.int .i64 y.id, .int .i64 y.c, .int .i64 y.d, .int .i64 y.t, .int .i64 y.p, .slice y.a1 y.ch.length y.c1, .slice y.a2 y.us.length y.c2], .bool true]) (by simp [results, Try.results21, go_sem, r0, r1, r2, r3, r4, r5, r6]) rfl (HY.out _ _ _ _ _ _ _)
end Go.Proofs.Ytknjldmpcokgfaa
