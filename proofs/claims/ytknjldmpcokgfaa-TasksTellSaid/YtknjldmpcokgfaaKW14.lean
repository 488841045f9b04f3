/-
  The walk over a system that came in, cut to 66 tasks.
-/
import Derived.Test.YtknjldmpcokgfaaKW13
import Derived.Test.YtknjldmpcokgfaaKW11
namespace Go.Proofs.Ytknjldmpcokgfaa
open Go.RowKit Go.Maps

/-- A system in a box, one that comes back, and a row of one's own. -/
structure FewAt (w : World) (s r : Int) (a : Option Addr) (n cap : Nat) (v : Value) (R : List TV) (W : World) : Prop where
  low : Below w.heap.size w W
  box : W.heap[w.heap.size]? = some (.cells #[.int .i64 s, .int .i64 r, .slice a n cap] 28 (0, 0))
  res : W.heap[w.heap.size + 1]? = some (.cells #[.int .i64 0, .int .i64 0, .slice none 0 0] 28 (0, 0))
  own : OwnT W (w.heap.size + 2) v R
theorem FewAt.below {w W W' : World} {s r : Int} {a : Option Addr} {n cap : Nat} {v : Value} {R : List TV} (h : FewAt w s r a n cap v R W) (hb : Below W.heap.size W W') : FewAt w s r a n cap v R W' :=
  ⟨below_up h.low hb, kept_obj hb h.box, kept_obj hb h.res, h.own.below hb⟩
theorem FewAt.size {w W : World} {s r : Int} {a : Option Addr} {n cap : Nat} {v : Value} {R : List TV} (h : FewAt w s r a n cap v R W) : w.heap.size + 2 ≤ W.heap.size := lt_of_block h.res
theorem FewAt.grown {w W W' : World} {s r : Int} {a : Option Addr} {n cap : Nat} {v v' : Value} {R R' : List TV} (h : FewAt w s r a n cap v R W) (hg : W.grownBy W' v.ownBlock) (ho : OwnT W' (w.heap.size + 2) v' R') : FewAt w s r a n cap v' R' W' := by
  have hb : Below (w.heap.size + 2) W W' := (Below.refl _ W).grown hg h.size (fun k hk => (h.own.new hk).1)
  exact ⟨h.low.trans (hb.mono (by omega)), kept_objB hb (by omega) h.box, kept_objB hb (by omega) h.res, ho⟩
theorem fewAt_new {w : World} {s r : Int} {a : Option Addr} {n cap : Nat} : FewAt w s r a n cap (.slice none 0 0) [] ((w.alloc (.cells #[.int .i64 s, .int .i64 r, .slice a n cap] 28)).alloc (.cells #[.int .i64 0, .int .i64 0, .slice none 0 0] 28)) := by
  refine ⟨(by repeat (first | exact Below.refl _ _ | (with_reducible assumption) | refine bw_alloc ?_ _ | refine bw_drew ?_)), ?_, ?_, OwnT.nil _ _⟩
  · rw [Below.heap_alloc _ _ _ (by simp)]
    exact heap_alloc_new w _
  · have := heap_alloc_new (w.alloc (.cells #[.int .i64 s, .int .i64 r, .slice a n cap] 28)) (.cells #[.int .i64 0, .int .i64 0, .slice none 0 0] 28)
    rwa [World.size_alloc] at this
theorem zeroSys (w : World) : (zeroValue 28).run Try.prog w = .ok (.agg #[.int .i64 0, .int .i64 0, .slice none 0 0]) w := by kernel_rfl

/-- A system that comes back. -/
def SysBack (s r : Int) (m : Nat) (L : List TV) (w : World) (e : Ending) (w' : World) : Prop :=
  ∃ a c, e = .returned (.agg #[.int .i64 s, .int .i64 r, .slice a m c]) ∧ Tasks w' a m c L ∧ Below w.heap.size w w'

theorem less_under (x : TV) (W w : World) (hb : Below W.heap.size W w) (hx : x.ok W) {y : TV} (hy : cut x = y) : Calls Try.prog 8 #[.agg #[.int .i64 x.id, .int .i64 x.c, .int .i64 x.d, .int .i64 x.t, .int .i64 x.p, .slice x.a1 x.ch.length x.c1, .slice x.a2 x.us.length x.c2]] w fun e w' => e = .returned (.agg #[.int .i64 y.id, .int .i64 y.c, .int .i64 y.d, .int .i64 y.t, .int .i64 y.p, .slice y.a1 y.ch.length y.c1, .slice y.a2 y.us.length y.c2]) ∧ Below W.heap.size W w' := by
  subst hy
  exact (less_any x w (hx.below hb)).mono fun _ _ ⟨h1, h2⟩ => ⟨h1, below_up hb h2⟩

set_option maxRecDepth 100000 in
set_option maxHeartbeats 4000000 in
theorem few_any {w : World} {a : Option Addr} {n cap : Nat} {L : List TV} (s r : Int) (ha : Tasks w a n cap L) (m : Nat) (hm : m = min n 66) :
    Calls Try.prog 9 #[.agg #[.int .i64 s, .int .i64 r, .slice a n cap]] w (SysBack s r m ((L.take 66).map cut) w) := by
  have HA := Lib.hid ha
  have hz := zeroSys
  have hn : (n : Int) ≤ 9223372036854775807 := by have := ha.le; have := ha.small; omega
  have hor : m = n ∨ (m = 66 ∧ 66 < n) := by omega
  have hm1 : m ≤ n := by omega
  have hm2 : m ≤ 66 := by omega
  clear ha hm
  go_enter Try.func9, Try.ntmps9
  go_wp2_with fail
  refine gen_world (FewAt w s r a n cap (.slice none 0 0) []) fewAt_new ?_
  intro W1 hw1
  have H1 := Lib.hid hw1
  clear hw1
  go_loopw [3, 4] (fun v u wr => ∃ (k : Nat) (a' : Option Addr) (cp' : Nat), k ≤ m ∧ u = .int .i64 k ∧ v = .slice a' k cp' ∧ Hid (FewAt w s r a n cap (.slice a' k cp') ((L.take k).map cut) wr)) (fun _ u _ => (m - intOf u).toNat)
  case atStart => exact ⟨0, _, _, by omega, rfl, rfl, by show FewAt _ _ _ _ _ _ _ _ _; simpa using H1.out⟩
  case round =>
    obtain ⟨k, a', cp', hk, rfl, rfl, HP⟩ := hrel
    have e2 : wr.cell? ⟨w.heap.size, 2, none⟩ = some (.slice a n cap) := by rw [blk_cell HP.out.box]; rfl
    by_cases hlt : k < m
    · obtain ⟨x, hx⟩ := nth_of HA.out.len (show k < n by omega)
      obtain ⟨y, hy⟩ : ∃ y, cut x = y := ⟨_, rfl⟩
      obtain ⟨g, o, rfl, ⟨c0, c1, c2, c3, c4, c5, c6⟩⟩ := (HA.out.view.below HP.out.low).at_ hx
      have hk1 : (k : Int) < (n : Int) := by omega
      have hk2 : (k : Int) < 66 := by omega
      have hk0 : (0 : Int) ≤ (k : Int) := by omega
      have HX : Hid ((L.take (k + 1)).map cut = (L.take k).map cut ++ [y]) := by
        show _ = _
        rw [List.take_add_one, hx, List.map_append, ← hy]; rfl
      have HL : Hid (((L.take k).map cut).length = k) := by show _ = _; rw [List.length_map, List.length_take, HA.out.len]; omega
      have C := Lib.hid (less_under x wr wr (Below.refl _ _) ((HA.out.ok.at_ hx).below HP.out.low) hy)
      have HSM : Hid (((L.take k).map cut).length + 1 ≤ 1000000) := by show _ ≤ _; rw [HL.out]; omega
      have HNN : Hid (((L.take k).map cut).length + 1 = k + 1) := by show _ = _; rw [HL.out]
      clear hx hy
      go_wp2_with (first
        | (go_at_call 8; (with_reducible refine (C.out).mono ?_); rintro e w5 ⟨rfl, b5⟩; have H5 := Lib.hid (HP.out.below b5); clear b5)
        | (at_builtin; refine wp_append (m := 1) (l := [y]) rfl _ _ rfl rfl rfl (H5.out.below (by repeat (first | exact Below.refl _ _ | (with_reducible assumption) | refine bw_alloc ?_ _ | refine bw_drew ?_))).own (H5.out.below (by repeat (first | exact Below.refl _ _ | (with_reducible assumption) | refine bw_alloc ?_ _ | refine bw_drew ?_))).size (View.of_at (at_new _ _ _)) rfl HSM.out (fun z => by cases z) (k + 1) HNN.out ?_; intro a3 k3 w3 o3 g3 l3; have HO := Lib.hid ((H5.out.below (by repeat (first | exact Below.refl _ _ | (with_reducible assumption) | refine bw_alloc ?_ _ | refine bw_drew ?_))).grown g3 (HX.out ▸ o3)); clear o3 g3 l3))
      go_roundw
      case rel => exact ⟨k + 1, a3, k3, by omega, by go_num, rfl, HO⟩
      case measure => simp [intOf]; omega
    · obtain rfl : m = k := by omega
      have HE : Hid ((L.take m).map cut = (L.take 66).map cut) := by
        show _ = _
        rcases hor with h | ⟨h, _⟩
        · rw [List.take_of_length_le (by rw [HA.out.len]; omega), List.take_of_length_le (by rw [HA.out.len]; omega)]
        · rw [h]
      have hl1 : w.heap.size < wr.heap.size := lt_of_block HP.out.box
      have hl2 : w.heap.size + 1 < wr.heap.size := lt_of_block HP.out.res
      have q0 : wr.cell? ⟨w.heap.size, 0, none⟩ = some (.int .i64 s) := by rw [blk_cell HP.out.box]; rfl
      have q1 : wr.cell? ⟨w.heap.size, 1, none⟩ = some (.int .i64 r) := by rw [blk_cell HP.out.box]; rfl
      have p0 : wr.cell? ⟨w.heap.size + 1, 0, none⟩ = some (.int .i64 0) := by rw [blk_cell HP.out.res]; rfl
      have p1 : wr.cell? ⟨w.heap.size + 1, 1, none⟩ = some (.int .i64 0) := by rw [blk_cell HP.out.res]; rfl
      have p2 : wr.cell? ⟨w.heap.size + 1, 2, none⟩ = some (.slice none 0 0) := by rw [blk_cell HP.out.res]; rfl
      have f2 := blk_free HP.out.box 2
      have g0 := blk_free HP.out.res 0
      have g1 := blk_free HP.out.res 1
      have g2 := blk_free HP.out.res 2
      have HO : Hid (∀ x0 x1 x2 x3, SysBack s r m ((L.take 66).map cut) w (.returned (.agg #[.int .i64 s, .int .i64 r, .slice a' m cp'])) ((((wr.setCell ⟨w.heap.size, 2, none⟩ x0).setCell ⟨w.heap.size + 1, 0, none⟩ x1).setCell ⟨w.heap.size + 1, 1, none⟩ x2).setCell ⟨w.heap.size + 1, 2, none⟩ x3)) := by
        intro x0 x1 x2 x3
        have hlow := HP.out.low
        have hb : Below w.heap.size w ((((wr.setCell ⟨w.heap.size, 2, none⟩ x0).setCell ⟨w.heap.size + 1, 0, none⟩ x1).setCell ⟨w.heap.size + 1, 1, none⟩ x2).setCell ⟨w.heap.size + 1, 2, none⟩ x3) := (by repeat (first | exact Below.refl _ _ | (with_reducible assumption) | refine bw_alloc ?_ _ | refine bw_drew ?_ | refine Below.setCell ?_ (by simp) _ | refine Below.setCell ?_ (by simp; omega) _))
        have ho : OwnT ((((wr.setCell ⟨w.heap.size, 2, none⟩ x0).setCell ⟨w.heap.size + 1, 0, none⟩ x1).setCell ⟨w.heap.size + 1, 1, none⟩ x2).setCell ⟨w.heap.size + 1, 2, none⟩ x3) (w.heap.size + 2) (.slice a' m cp') ((L.take m).map cut) :=
          ownsRow_setCell_below (ownsRow_setCell_below (ownsRow_setCell_below (ownsRow_setCell_below HP.out.own (by simp) _) (by simp) _) (by simp) _) (by simp) _
        rw [HE.out] at ho
        refine ⟨a', cp', rfl, ho.tasks (fun y hy => ?_), hb⟩
        obtain ⟨x, hx, rfl⟩ := List.mem_map.1 hy
        exact (cut_ok (HA.out.ok x (List.mem_of_mem_take hx))).below hb
      clear HE H1
      rcases hor with rfl | ⟨rfl, hh⟩
      · go_wp2_with fail
        exact bodyPost_ret (v := .agg #[.int .i64 s, .int .i64 r, .slice a' m cp']) (by simp [results, Try.results9, go_sem, p0, p1, p2, hl1, hl2]) rfl (HO.out _ _ _ _)
      · have h66 : (66 : Int) < (n : Int) := by omega
        go_wp2_with fail
        exact bodyPost_ret (v := .agg #[.int .i64 s, .int .i64 r, .slice a' 66 cp']) (by simp [results, Try.results9, go_sem, p0, p1, p2, hl1, hl2]) rfl (HO.out _ _ _ _)
end Go.Proofs.Ytknjldmpcokgfaa
