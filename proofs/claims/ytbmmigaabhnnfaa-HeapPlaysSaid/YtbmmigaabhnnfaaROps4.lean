/-
  The walk over the document's own heap: the first one taken.
-/
import Derived.Test.YtbmmigaabhnnfaaROps3
namespace Go.Proofs.Ytbmmigaabhnnfaa
open Go.RowKit Go.Maps

theorem rtake_step {w w2 w3 : World} {rb n : Nat} {A : Nat → Prop} {c : Int → Option Int} (hb : Below w.heap.size w w2) (hz : w.heap.size < w2.heap.size) (hA : ∀ k, A k → k < w.heap.size) (hs : RStep w2 rb A n c w3) (u v : Value) :
    RStep w rb A n c ((w3.setCell ⟨w.heap.size, 0, none⟩ u).setCell ⟨w.heap.size, 1, none⟩ v) := by
  obtain ⟨A', h1, h2, h3⟩ := hs
  have ht : Turn (fun k => k = w.heap.size) w3 ((w3.setCell ⟨w.heap.size, 0, none⟩ u).setCell ⟨w.heap.size, 1, none⟩ v) := Turn.setCell (S := fun k => k = w.heap.size) (Turn.setCell (S := fun k => k = w.heap.size) (Turn.refl _ _) (p := ⟨w.heap.size, 0, none⟩) (fun _ => rfl) u) (p := ⟨w.heap.size, 1, none⟩) (fun _ => rfl) v
  have h4 : Turn A w w3 := (Turn.of_below hb).then h2
  refine ⟨A', h1.kept ht (fun k hk q => ?_), (h4.setCell (p := ⟨w.heap.size, 0, none⟩) (fun q => absurd q (Nat.lt_irrefl _)) u).setCell (p := ⟨w.heap.size, 1, none⟩) (fun q => absurd q (Nat.lt_irrefl _)) v, fun k hk => ?_⟩
  · rcases h3 k hk with z | z
    · have := hA k z; omega
    · omega
  · rcases h3 k hk with z | z
    · exact .inl z
    · exact .inr (by omega)

/-- A key dropped, while two more cells lie beside. -/
theorem rtake_drop {w w1 : World} {rb : Nat} {A : Nat → Prop} {m : Nat} {c : Int → Option Int} (hn : (m : Int) + 1 ≤ 1000000) (h : Rp w rb A (m + 1) c) {k x : Int} (hf : First c k x)
    (hb : Below (w.alloc (.cells #[.int .i64 0, .int .i64 0] 38)).heap.size (w.alloc (.cells #[.int .i64 0, .int .i64 0] 38)) w1) :
    Calls Try.prog 18 #[.pointer (some ⟨rb, 0, none⟩), .int .i64 k] (w1.alloc (.cells #[.int .i64 k, .int .i64 x] 38)) fun r w3 => r = .returned (.bool true) ∧
      Hid (∀ u v, RStep w rb A m (cdel c k) ((w3.setCell ⟨w.heap.size, 0, none⟩ u).setCell ⟨w.heap.size, 1, none⟩ v)) ∧ w3.cell? ⟨w1.heap.size, 0, none⟩ = some (.int .i64 k) ∧ w3.cell? ⟨w1.heap.size, 1, none⟩ = some (.int .i64 x) ∧
      w3.cell? ⟨w.heap.size, 0, none⟩ = some (.int .i64 0) ∧ w3.cell? ⟨w.heap.size, 1, none⟩ = some (.int .i64 0) ∧ w3.frozen? ⟨w.heap.size, 0, none⟩ = false ∧ w3.frozen? ⟨w.heap.size, 1, none⟩ = false := by
  have hz1 := hb.size
  rw [World.size_alloc] at hz1
  have hb1 : Below w.heap.size w w1 := ((Below.refl _ _).alloc (Nat.le_refl _) _).trans (hb.mono (by simp))
  have hb2 : Below w.heap.size w (w1.alloc (.cells #[.int .i64 k, .int .i64 x] 38)) := hb1.alloc hb1.size _
  have hx := heap_alloc_new w1 (.cells #[.int .i64 k, .int .i64 x] 38)
  have hr1 : w1.heap[w.heap.size]? = some (.cells #[.int .i64 0, .int .i64 0] 38 (0, 0)) := (hb.block _ (by simp)).trans (heap_alloc_new _ _)
  have hr2 : (w1.alloc (.cells #[.int .i64 k, .int .i64 x] 38)).heap[w.heap.size]? = some (.cells #[.int .i64 0, .int .i64 0] 38 (0, 0)) := (Below.block ((Below.refl _ w1).alloc (Nat.le_refl _) _) _ (by omega)).trans hr1
  have hA : ∀ k, A k → k < w.heap.size := fun k hk => h.lt hk
  rcases rdrop_any (by omega) (h.below hb2) k with ⟨q, _⟩ | ⟨m', hm, _, hc⟩
  · rw [hf.1] at q; cases q
  · have e : m' = m := by omega
    subst e
    refine hc.mono fun r w3 ⟨h1, h2⟩ => ?_
    obtain ⟨A', q1, q2, q3⟩ := h2
    have x3 := q2.obj hx (fun z => by have := hA _ z; omega)
    have r3 := q2.obj hr2 (fun z => by have := hA _ z; omega)
    exact ⟨h1, fun u v => rtake_step hb2 (by simp; omega) hA ⟨A', q1, q2, q3⟩ u v, by rw [blk_cell x3]; rfl, by rw [blk_cell x3]; rfl, by rw [blk_cell r3]; rfl, by rw [blk_cell r3]; rfl, blk_free r3 0, blk_free r3 1⟩

set_option maxRecDepth 100000 in
set_option maxHeartbeats 2000000 in
theorem rtake_any {w : World} {rb : Nat} {A : Nat → Prop} {m : Nat} {c : Int → Option Int} (hn : (m : Int) + 1 ≤ 1000000) (h : Rp w rb A (m + 1) c) :
    Calls Try.prog 16 #[.pointer (some ⟨rb, 0, none⟩)] w fun r w' => ∃ k x, r = .returned (.tuple #[.agg #[.int .i64 k, .int .i64 x], .bool true]) ∧ First c k x ∧ RStep w rb A m (cdel c k) w' := by
  have CM := Lib.hid (rmin_any (n := m + 1) (by omega) (by omega) (h.below (w' := w.alloc (.cells #[.int .i64 0, .int .i64 0] 38)) ((Below.refl _ _).alloc (Nat.le_refl _) _)))
  have CD := Lib.hid (fun w1 k x hf hb => rtake_drop (w1 := w1) (k := k) (x := x) hn h hf hb)
  clear h
  go_enter Try.func16, Try.ntmps16
  go_wp2_with (first
    | (go_at_call 24; (refine (CM.out).mono ?_); rintro r w1 ⟨k, x, rfl, hf, hb⟩; have HF := Lib.hid hf; have HB := Lib.hid hb; clear hf hb)
    | (go_at_call 18; (refine (CD.out w1 k x HF.out HB.out).mono ?_); rintro r w3 ⟨rfl, HS, x0, x1, r0, r1, z0, z1⟩))
  refine bodyPost_ret (v := .tuple #[.agg #[.int .i64 k, .int .i64 x], .bool true]) (by simp [results, Try.results16, go_sem, r0, r1]) rfl ⟨k, x, rfl, HF.out, HS.out _ _⟩

theorem res_alloc {w1 : World} {B : Nat} {T : TypeId} {p q : Value} (h : w1.heap[B]? = some (.cells #[p, q] T (0, 0))) (a b : Value) (o : Obj) :
    (((w1.setCell ⟨B, 0, none⟩ a).setCell ⟨B, 1, none⟩ b).alloc o).cell? ⟨B, 0, none⟩ = some a ∧ (((w1.setCell ⟨B, 0, none⟩ a).setCell ⟨B, 1, none⟩ b).alloc o).cell? ⟨B, 1, none⟩ = some b := by
  have h2 : ((w1.setCell ⟨B, 0, none⟩ a).setCell ⟨B, 1, none⟩ b).heap[B]? = some (.cells #[a, b] T (0, 0)) := (blk_set (blk_set h a) b).trans rfl
  have h3 : (((w1.setCell ⟨B, 0, none⟩ a).setCell ⟨B, 1, none⟩ b).alloc o).heap[B]? = some (.cells #[a, b] T (0, 0)) := (Below.block ((Below.refl _ _).alloc (Nat.le_refl _) o) _ (lt_of_block h2)).trans h2
  exact ⟨by rw [blk_cell h3]; rfl, by rw [blk_cell h3]; rfl⟩

set_option maxRecDepth 100000 in
set_option maxHeartbeats 2000000 in
theorem rtake_empty {w : World} {rb : Nat} {A : Nat → Prop} {c : Int → Option Int} (h : Rp w rb A 0 c) :
    Calls Try.prog 16 #[.pointer (some ⟨rb, 0, none⟩)] w fun r w' => r = .returned (.tuple #[.agg #[.int .i64 0, .int .i64 0], .bool false]) ∧ Below w.heap.size w w' := by
  have CM := Lib.hid (rmin_empty (h.below (w' := w.alloc (.cells #[.int .i64 0, .int .i64 0] 38)) ((Below.refl _ _).alloc (Nat.le_refl _) _)))
  have HB1 : Hid (∀ w1, Below (w.alloc (.cells #[.int .i64 0, .int .i64 0] 38)).heap.size (w.alloc (.cells #[.int .i64 0, .int .i64 0] 38)) w1 → w1.heap[w.heap.size]? = some (.cells #[.int .i64 0, .int .i64 0] 38 (0, 0)) ∧ Below w.heap.size w w1 ∧ w.heap.size < w1.heap.size ∧ w1.cell? ⟨w.heap.size, 0, none⟩ = some (.int .i64 0) ∧ w1.cell? ⟨w.heap.size, 1, none⟩ = some (.int .i64 0) ∧ w1.frozen? ⟨w.heap.size, 0, none⟩ = false ∧ w1.frozen? ⟨w.heap.size, 1, none⟩ = false) := fun w1 hb => by
    have hz1 := hb.size
    rw [World.size_alloc] at hz1
    have hr1 : w1.heap[w.heap.size]? = some (.cells #[.int .i64 0, .int .i64 0] 38 (0, 0)) := (hb.block _ (by simp)).trans (heap_alloc_new _ _)
    exact ⟨hr1, ((Below.refl _ _).alloc (Nat.le_refl _) _).trans (hb.mono (by simp)), by omega, by rw [blk_cell hr1]; rfl, by rw [blk_cell hr1]; rfl, blk_free hr1 0, blk_free hr1 1⟩
  clear h
  go_enter Try.func16, Try.ntmps16
  go_wp2_with (go_at_call 24; (refine (CM.out).mono ?_); rintro r w1 ⟨rfl, hb⟩; obtain ⟨hr1, hb1, l1, r0, r1, z0, z1⟩ := HB1.out _ hb; have HB := Lib.hid hb1; have HR := Lib.hid hr1; clear hb hb1 hr1)
  refine bodyPost_ret (v := .tuple #[.agg #[.int .i64 0, .int .i64 0], .bool false]) (by simp [results, Try.results16, go_sem, fun a b o => (res_alloc HR.out a b o).1, fun a b o => (res_alloc HR.out a b o).2]) rfl ⟨rfl, ?_⟩
  have hb := (HB.out.setCell (p := ⟨w.heap.size, 0, none⟩) (Nat.le_refl _) (.int .i64 0)).setCell (p := ⟨w.heap.size, 1, none⟩) (Nat.le_refl _) (.int .i64 0)
  exact hb.alloc hb.size _

end Go.Proofs.Ytbmmigaabhnnfaa
