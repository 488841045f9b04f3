/-
  The walk over the system that a statement's plain numbers mean.
-/
import Derived.Test.YtknjldmpcokgfaaKW16
namespace Go.Proofs.Ytknjldmpcokgfaa
open Go.RowKit Go.Maps

/-- Plain numbers in a box, a system that comes back, plain numbers that are being made. -/
structure CopyAt (w : World) (S R : Int) (a : Option Addr) (n cap : Nat) (v : Value) (M : List NV) (W : World) : Prop where
  low : Below w.heap.size w W
  src : W.heap[w.heap.size]? = some (.cells #[.int .i64 S, .int .i64 R, .slice a n cap] 39 (0, 0))
  res : W.heap[w.heap.size + 1]? = some (.cells #[.int .i64 0, .int .i64 0, .slice none 0 0] 28 (0, 0))
  box : W.heap[w.heap.size + 2]? = some (.cells #[.int .i64 S, .int .i64 R, v] 65 (0, 0))
  own : OwnN W (w.heap.size + 3) v M
theorem CopyAt.below {w W W' : World} {S R : Int} {a : Option Addr} {n cap : Nat} {v : Value} {M : List NV} (h : CopyAt w S R a n cap v M W) (hb : Below W.heap.size W W') : CopyAt w S R a n cap v M W' :=
  ⟨below_up h.low hb, kept_obj hb h.src, kept_obj hb h.res, kept_obj hb h.box, h.own.below hb⟩
theorem copyAt_new {w : World} {S R : Int} {a : Option Addr} {n cap : Nat} : CopyAt w S R a n cap (.slice none 0 0) [] (((w.alloc (.cells #[.int .i64 S, .int .i64 R, .slice a n cap] 39)).alloc (.cells #[.int .i64 0, .int .i64 0, .slice none 0 0] 28)).alloc (.cells #[.int .i64 S, .int .i64 R, .slice none 0 0] 65)) := by
  refine ⟨(by repeat (first | exact Below.refl _ _ | (with_reducible assumption) | refine bw_alloc ?_ _ | refine bw_drew ?_)), ?_, ?_, ?_, OwnN.nil _ _⟩
  · rw [Below.heap_alloc _ _ _ (by simp; omega), Below.heap_alloc _ _ _ (by simp)]; exact heap_alloc_new w _
  · rw [Below.heap_alloc _ _ _ (by simp)]
    have := heap_alloc_new (w.alloc (.cells #[.int .i64 S, .int .i64 R, .slice a n cap] 39)) (.cells #[.int .i64 0, .int .i64 0, .slice none 0 0] 28)
    rwa [World.size_alloc] at this
  · have := heap_alloc_new ((w.alloc (.cells #[.int .i64 S, .int .i64 R, .slice a n cap] 39)).alloc (.cells #[.int .i64 0, .int .i64 0, .slice none 0 0] 28)) (.cells #[.int .i64 S, .int .i64 R, .slice none 0 0] 65)
    rwa [World.size_alloc, World.size_alloc] at this
theorem OwnN.set {w : World} {B : Nat} {v : Value} {l : List NV} (h : OwnN w B v l) {a : Addr} (ha : a.block < B) (u : Value) : OwnN (w.setCell a u) B v l := ownsRow_setCell_below h ha u
theorem CopyAt.push {w W w3 : World} {S R : Int} {a : Option Addr} {n cap : Nat} {v v' : Value} {M M' : List NV} (h : CopyAt w S R a n cap v M W) (hg : W.grownBy w3 v.ownBlock) (ho : OwnN w3 (w.heap.size + 3) v' M') :
    CopyAt w S R a n cap v' M' (w3.setCell ⟨w.heap.size + 2, 2, none⟩ v') ∧ w3.cell? ⟨w.heap.size + 2, 2, none⟩ = some v ∧ w3.frozen? ⟨w.heap.size + 2, 2, none⟩ = false := by
  have hs : w.heap.size + 3 ≤ W.heap.size := lt_of_block h.box
  have hb : Below (w.heap.size + 3) W w3 := (Below.refl _ W).grown hg hs (fun k hk => (h.own.new hk).1)
  have h3 := kept_objB hb (by omega) h.box
  refine ⟨⟨(h.low.trans (hb.mono (by omega))).setCell (p := ⟨w.heap.size + 2, 2, none⟩) (by show _ ≤ _ + 2; omega) _, ?_, ?_, (blk_set h3 _).trans rfl, ho.set (by show _ + 2 < _; omega) _⟩, by rw [blk_cell h3]; rfl, blk_free h3 2⟩
  · rw [blk_far (a := ⟨w.heap.size + 2, 2, none⟩) (by show _ ≠ _ + 2; omega)]; exact kept_objB hb (by omega) h.src
  · rw [blk_far (a := ⟨w.heap.size + 2, 2, none⟩) (by show _ ≠ _ + 2; omega)]; exact kept_objB hb (by omega) h.res
theorem copy_done {w W W5 : World} {s r : Int} {a : Option Addr} {n c : Nat} {L : List TV} (hl : Below w.heap.size w W) (hb : Below W.heap.size W W5) (hres : W5.heap[w.heap.size + 1]? = some (.cells #[.int .i64 0, .int .i64 0, .slice none 0 0] 28 (0, 0))) (hrl : w.heap.size + 1 < W.heap.size)
    (ho : OwnT W5 W.heap.size (.slice a n c) L) (hok : AllOk W5 L) (hi : ∀ x ∈ L, IsI W5 x.a1 x.ch ∧ IsI W5 x.a2 x.us) (hm : Made s r L) (x0 x1 x2 : Value) :
    MadeBack w (.returned (.agg #[.int .i64 s, .int .i64 r, .slice a n c])) (((W5.setCell ⟨w.heap.size + 1, 0, none⟩ x0).setCell ⟨w.heap.size + 1, 1, none⟩ x1).setCell ⟨w.heap.size + 1, 2, none⟩ x2) := by
  have hb2 : Below w.heap.size w (((W5.setCell ⟨w.heap.size + 1, 0, none⟩ x0).setCell ⟨w.heap.size + 1, 1, none⟩ x1).setCell ⟨w.heap.size + 1, 2, none⟩ x2) :=
    (((below_up hl hb).setCell (p := ⟨w.heap.size + 1, 0, none⟩) (Nat.le_succ _) x0).setCell (p := ⟨w.heap.size + 1, 1, none⟩) (Nat.le_succ _) x1).setCell (p := ⟨w.heap.size + 1, 2, none⟩) (Nat.le_succ _) x2
  have ho2 := ((ho.set (a := ⟨w.heap.size + 1, 0, none⟩) hrl x0).set (a := ⟨w.heap.size + 1, 1, none⟩) hrl x1).set (a := ⟨w.heap.size + 1, 2, none⟩) hrl x2
  have hk : ∀ (b : Nat) (cs : Array Value) (T : TypeId) (fr : Nat × Nat), W5.heap[b]? = some (.cells cs T fr) → (T = 2 ∨ T = 3) → (((W5.setCell ⟨w.heap.size + 1, 0, none⟩ x0).setCell ⟨w.heap.size + 1, 1, none⟩ x1).setCell ⟨w.heap.size + 1, 2, none⟩ x2).heap[b]? = W5.heap[b]? := by
    intro b cs T fr hc hT
    have hne : b ≠ w.heap.size + 1 := by
      rintro rfl
      rw [hres] at hc
      simp at hc
      rcases hT with q | q <;> rw [q] at hc <;> exact absurd hc.2.1 (by decide)
    rw [blk_far (a := ⟨w.heap.size + 1, 2, none⟩) hne, blk_far (a := ⟨w.heap.size + 1, 1, none⟩) hne, blk_far (a := ⟨w.heap.size + 1, 0, none⟩) hne]
  exact ⟨s, r, a, n, c, L, rfl, ho2.low (by omega), fun x hx => (hok x hx).kept (hi x hx) hk, fun x hx => ⟨(hi x hx).1.kept hk, (hi x hx).2.kept hk⟩, hm, hb2⟩

set_option maxRecDepth 100000 in
set_option maxHeartbeats 4000000 in
theorem made5_any {w : World} {a : Option Addr} {n cap : Nat} {L : List NV} (S R : Int) (hn : Nums w a n cap L) :
    Calls Try.prog 15 #[.agg #[.int .i64 S, .int .i64 R, .slice a n cap]] w (MadeBack w) := by
  have HA := Lib.hid hn
  have hz := zeroSys
  have hn9 := hn.small
  clear hn
  go_enter Try.func15, Try.ntmps15
  go_wp2_with fail
  refine gen_world (CopyAt w S R a n cap (.slice none 0 0) []) copyAt_new ?_
  intro W1 hw1
  have H1 := Lib.hid hw1
  obtain ⟨m, hm⟩ : ∃ m, m = min n 6 := ⟨_, rfl⟩
  have hm1 : m ≤ n := by omega
  have hm6 : m ≤ 6 := by omega
  have hor : m = n ∨ (m = 6 ∧ 6 < n) := by omega
  have HOR := Lib.hid hor
  clear hm hor hw1
  go_loopw [4] (fun u wr => ∃ (k : Nat) (a' : Option Addr) (cp' : Nat), k ≤ m ∧ u = .int .i64 k ∧ Hid (CopyAt w S R a n cap (.slice a' k cp') (L.take k) wr)) (fun u _ => (m - intOf u).toNat)
  case atStart => exact ⟨0, _, _, by omega, rfl, H1⟩
  case round =>
    obtain ⟨k, a', cp', hk, rfl, HP⟩ := hrel
    clear H1
    have b2 : wr.cell? ⟨w.heap.size + 2, 2, none⟩ = some (.slice a' k cp') := by rw [blk_cell HP.out.box]; rfl
    have s2 : wr.cell? ⟨w.heap.size, 2, none⟩ = some (.slice a n cap) := by rw [blk_cell HP.out.src]; rfl
    have hl2 : w.heap.size + 2 < wr.heap.size := lt_of_block HP.out.box
    have hl0 : w.heap.size < wr.heap.size := lt_of_block HP.out.src
    by_cases hlt : k < m
    · obtain ⟨x, hx⟩ := nth_of HA.out.len (show k < n by omega)
      obtain ⟨g', o', rfl, ⟨c0, c1, c2, c3, c4, c5⟩⟩ := (HA.out.view.below HP.out.low).at_ hx
      have hk1 : (k : Int) < (n : Int) := by omega
      have hk6 : (k : Int) < 6 := by omega
      have hk0 : (0 : Int) ≤ (k : Int) := by omega
      have HTL : Hid ((L.take k).length = k) := by show _ = _; rw [List.length_take, HA.out.len]; omega
      have HSM : Hid ((L.take k).length + 1 ≤ 1000000) := by show _ ≤ _; rw [HTL.out]; omega
      have HNN : Hid ((L.take k).length + 1 = k + 1) := by show _ = _; rw [HTL.out]
      have HTK : Hid (L.take k ++ [x] = L.take (k + 1)) := by show _ = _; rw [List.take_add_one, hx]; rfl
      clear hx
      go_upto_region 5 with fail
      go_region_law (refine nstep_append (m := 1) (l := [x]) rfl (.tmp 22) (.tmp 28) rfl (by rfl) (by rfl) (HP.out.below (by repeat (first | exact Below.refl _ _ | (with_reducible assumption) | refine bw_alloc ?_ _ | refine bw_drew ?_))).own (Nat.le_trans (lt_of_block HP.out.box) ((by repeat (first | exact Below.refl _ _ | (with_reducible assumption) | refine bw_alloc ?_ _ | refine bw_drew ?_)) : Below wr.heap.size wr _).size) (by first | exact NView.of_at (nat_new _ _ _) | exact (NView.of_at (nat_new _ _ _)).below (by repeat (first | exact Below.refl _ _ | (with_reducible assumption) | refine bw_alloc ?_ _ | refine bw_drew ?_))) rfl HSM.out (fun z => by cases z) (k + 1) HNN.out ?_
                     intro a3 k3 w3 o3 g3 l3
                     obtain ⟨hq, z1, z2⟩ := (HP.out.below (by repeat (first | exact Below.refl _ _ | (with_reducible assumption) | refine bw_alloc ?_ _ | refine bw_drew ?_))).push g3 (HTK.out ▸ o3)
                     have HN := Lib.hid hq
                     clear hq o3 g3 l3)
      all_goals
        go_wp2
        go_roundw
        case rel => exact ⟨k + 1, _, _, by omega, by go_num, HN⟩
        case measure => simp [intOf]; omega
    · obtain rfl : m = k := by omega
      have b0 : wr.cell? ⟨w.heap.size + 2, 0, none⟩ = some (.int .i64 S) := by rw [blk_cell HP.out.box]; rfl
      have b1 : wr.cell? ⟨w.heap.size + 2, 1, none⟩ = some (.int .i64 R) := by rw [blk_cell HP.out.box]; rfl
      have HTL : Hid ((L.take m).length = m) := by show _ = _; rw [List.length_take, HA.out.len]; omega
      have HNU : Hid (Nums wr a' m cp' (L.take m)) := by
        obtain ⟨a9, c9, e9, v9, _⟩ := HP.out.own.slice
        simp only [Value.slice.injEq] at e9
        obtain ⟨rfl, _, rfl⟩ := e9
        exact ⟨HTL.out, v9, fun x hx => (HA.out.ok x (List.mem_of_mem_take hx)).below HP.out.low, by omega⟩
      have C := Lib.hid (made_any S R HNU.out)
      have q1 : ¬ ((m : Int) < (n : Int)) ∨ ((m : Int) < (n : Int) ∧ ¬ ((m : Int) < 6)) := by
        rcases HOR.out with h | ⟨h1, h2⟩
        · left; omega
        · right; omega
      rcases q1 with q1 | ⟨q1, q2⟩
      all_goals
        go_wp2_with (go_at_call 40; (with_reducible refine (C.out).mono ?_); rintro e w5 ⟨s5, r5, a5, n5, c5, L5, rfl, ho5, hok5, hi5, hm5, b5⟩; have HR := Lib.hid (kept_obj b5 HP.out.res); have r0 : w5.cell? ⟨w.heap.size + 1, 0, none⟩ = some (.int .i64 0) := (by rw [blk_cell HR.out]; rfl); have r1 : w5.cell? ⟨w.heap.size + 1, 1, none⟩ = some (.int .i64 0) := (by rw [blk_cell HR.out]; rfl); have r2 : w5.cell? ⟨w.heap.size + 1, 2, none⟩ = some (.slice none 0 0) := (by rw [blk_cell HR.out]; rfl); have f0 := blk_free HR.out 0; have f1 := blk_free HR.out 1; have f2 := blk_free HR.out 2; have HD := Lib.hid (copy_done HP.out.low b5 HR.out (lt_of_block HP.out.res) ho5 hok5 hi5 hm5); clear ho5 hok5 hi5 hm5 b5)
        exact bodyPost_ret (v := .agg #[.int .i64 s5, .int .i64 r5, .slice a5 n5 c5]) (by simp [results, Try.results15, go_sem, r0, r1, r2]) rfl (HD.out _ _ _)
end Go.Proofs.Ytknjldmpcokgfaa
