/-
  The walk over the statement that what is wrong is told.
-/
import Derived.Test.YtknjldmpcokgfaaKW10
import Derived.Test.YtknjldmpcokgfaaKW12
import Derived.Test.YtknjldmpcokgfaaKW14
namespace Go.Proofs.Ytknjldmpcokgfaa
open Go.RowKit Go.Maps

/-- What lies ahead of the last line. -/
structure Ahead (W : World) (g1 g2 : Nat) (y : TV) (S R : Int) (a : Option Addr) (m c : Nat) (v : World) : Prop where
  low : Below W.heap.size W v
  box : AtB v g1 y
  s0 : v.cell? ⟨g2, 0, none⟩ = some (.int .i64 S)
  s1 : v.cell? ⟨g2, 1, none⟩ = some (.int .i64 R)
  s2 : v.cell? ⟨g2, 2, none⟩ = some (.slice a m c)
theorem Ahead.below {W v v' : World} {g1 g2 : Nat} {y : TV} {S R : Int} {a : Option Addr} {m c : Nat} (h : Ahead W g1 g2 y S R a m c v) (hb : Below v.heap.size v v') : Ahead W g1 g2 y S R a m c v' :=
  ⟨below_up h.low hb, h.box.below hb, kept_cell hb h.s0, kept_cell hb h.s1, kept_cell hb h.s2⟩

set_option maxRecDepth 100000 in
set_option maxHeartbeats 8000000 in
theorem law_right (W : World) (x : TV) (hx : x.ok W) (s S R : Int) (a : Option Addr) (n cap : Nat) (L : List TV) (hT : Tasks W a n cap L) (hw : ∀ y ∈ L, I64 y.p ∧ I64 y.id) :
    Calls Try.prog 3 #[x.val, .int .i64 s, .agg #[.int .i64 S, .int .i64 R, .slice a n cap]] W fun e w' => e = .returned (.bool true) ∧ Below W.heap.size W w' := by
  obtain ⟨y, hy⟩ : ∃ y, cut x = y := ⟨_, rfl⟩
  obtain ⟨m, hm⟩ : ∃ m, m = min n 66 := ⟨_, rfl⟩
  obtain ⟨M, hM⟩ : ∃ M, (L.take 66).map cut = M := ⟨_, rfl⟩
  have HW : Hid (∀ z ∈ M, I64 z.p ∧ I64 z.id) := by
    show ∀ z ∈ M, _
    rw [← hM]
    intro z hz
    obtain ⟨z', hz', rfl⟩ := List.mem_map.1 hz
    exact hw z' (List.mem_of_mem_take hz')
  have A := Lib.hid (awake_any W)
  have C : Hid (∀ v, Below W.heap.size W v → _) := fun v hb => less_under x v v (Below.refl _ _) (hx.below hb) hy
  have F : Hid (∀ v, Below W.heap.size W v → _) := fun v hb => few_any S R (hT.below hb) m hm
  rw [hM] at F
  have HY : Hid (y.ok W) := by show y.ok W; rw [← hy]; exact cut_ok hx
  have hz1 := zeroTask
  have hz2 := zeroSys
  unfold TV.val
  clear hx hT hw hm hM hy
  go_enter Try.func3, Try.ntmps3
  go_upto_region 1 with fail
  refine gen_world (Ahead W W.heap.size (W.heap.size + 1) x S R a n cap) ⟨(by repeat (first | exact Below.refl _ _ | (with_reducible assumption) | refine bw_alloc ?_ _ | refine bw_drew ?_)), (atB_new W x _).below (by repeat (first | exact Below.refl _ _ | (with_reducible assumption) | refine bw_alloc ?_ _ | refine bw_drew ?_)), (new_second W _ _ _ 0).trans rfl, (new_second W _ _ _ 1).trans rfl, (new_second W _ _ _ 2).trans rfl⟩ ?_
  intro W1 hw1
  have H1 := Lib.hid hw1
  clear hw1
  go_upto_region 2 with (go_at_call 7; (with_reducible refine (awake_any _).mono ?_); rintro e w1 ⟨rfl, b1⟩; have H2 := Lib.hid (H1.out.below b1); clear b1)
  obtain ⟨_, ⟨c0, c1, c2, c3, c4, c5, c6⟩, e0, e1, e2⟩ := H2.out
  go_upto_region 3 with (go_at_call 8; (with_reducible refine (C.out _ H2.out.low).mono ?_); rintro e w2 ⟨rfl, b2⟩; have B2 := Lib.hid b2; clear b2)
  refine gen_world (Ahead W w2.heap.size (W.heap.size + 1) y S R a n cap) ⟨below_up (below_up H2.out.low B2.out) (by repeat (first | exact Below.refl _ _ | (with_reducible assumption) | refine bw_alloc ?_ _ | refine bw_drew ?_)), atB_new _ y _, kept_cell ((by repeat (first | exact Below.refl _ _ | (with_reducible assumption) | refine bw_alloc ?_ _ | refine bw_drew ?_)) : Below w2.heap.size w2 _) (kept_cell B2.out H2.out.s0), kept_cell ((by repeat (first | exact Below.refl _ _ | (with_reducible assumption) | refine bw_alloc ?_ _ | refine bw_drew ?_)) : Below w2.heap.size w2 _) (kept_cell B2.out H2.out.s1), kept_cell ((by repeat (first | exact Below.refl _ _ | (with_reducible assumption) | refine bw_alloc ?_ _ | refine bw_drew ?_)) : Below w2.heap.size w2 _) (kept_cell B2.out H2.out.s2)⟩ ?_
  intro W3 hw3
  have H3 := Lib.hid hw3
  clear hw3 H1 H2 B2 c0 c1 c2 c3 c4 c5 c6 e0 e1 e2
  generalize w2.heap.size = g1 at H3 ⊢
  obtain ⟨_, _, e0, e1, e2⟩ := H3.out
  go_upto_region 4 with (go_at_call 9; (with_reducible refine (F.out _ H3.out.low).mono ?_); rintro e w4 ⟨a', c', rfl, hT4, b4⟩; have HT4 := Lib.hid hT4; have B4 := Lib.hid b4; clear b4 hT4)
  refine gen_world (fun v => Ahead W g1 w4.heap.size y S R a' m c' v ∧ Tasks v a' m c' M) ⟨⟨below_up (below_up H3.out.low B4.out) (by repeat (first | exact Below.refl _ _ | (with_reducible assumption) | refine bw_alloc ?_ _ | refine bw_drew ?_)), (H3.out.below B4.out).box.below (by repeat (first | exact Below.refl _ _ | (with_reducible assumption) | refine bw_alloc ?_ _ | refine bw_drew ?_)), by rw [World.cell?_alloc_new]; rfl, by rw [World.cell?_alloc_new]; rfl, by rw [World.cell?_alloc_new]; rfl⟩, HT4.out.below (by repeat (first | exact Below.refl _ _ | (with_reducible assumption) | refine bw_alloc ?_ _ | refine bw_drew ?_))⟩ ?_
  intro W5 ⟨hw5, hT5⟩
  have H5 := Lib.hid hw5
  have HT5 := Lib.hid hT5
  clear hw5 hT5 H3 HT4 B4 e0 e1 e2 F C A hz1 hz2
  generalize w4.heap.size = g2 at H5 ⊢
  obtain ⟨_, ⟨c0, c1, c2, c3, c4, c5, c6⟩, e0, e1, e2⟩ := H5.out
  have K1 : Hid (∀ v, Below W5.heap.size W5 v → _) := fun v hb => right_any y s v ((HY.out.below H5.out.low).below hb)
  have K2 : Hid (∀ v, Below W5.heap.size W5 v → _) := fun v hb => rright_any y s v ((HY.out.below H5.out.low).below hb)
  have K3 : Hid (∀ v, Below W5.heap.size W5 v → _) := fun v hb => check_any S R (HT5.out.below hb) HW.out
  have K4 : Hid (∀ v, Below W5.heap.size W5 v → _) := fun v hb => rcheck_any S R (HT5.out.below hb)
  have K5 : Hid (∀ v, Below W5.heap.size W5 v → _) := fun v hb => same_sys S R (HT5.out.below hb) (HT5.out.below hb)
  rw [decide_eq_true rfl] at K5
  unfold TV.val at K1 K2
  generalize rightOf y s = q1 at K1 K2
  generalize checkOf S R M = q2 at K3 K4
  have MK : Hid (∀ v, Below W5.heap.size W5 v → (Below W5.heap.size W5 v ∧ v.cell? ⟨g1, 0, none⟩ = some (.int .i64 y.id) ∧ v.cell? ⟨g1, 1, none⟩ = some (.int .i64 y.c) ∧ v.cell? ⟨g1, 2, none⟩ = some (.int .i64 y.d) ∧ v.cell? ⟨g1, 3, none⟩ = some (.int .i64 y.t) ∧ v.cell? ⟨g1, 4, none⟩ = some (.int .i64 y.p) ∧ v.cell? ⟨g1, 5, none⟩ = some (.slice y.a1 y.ch.length y.c1) ∧ v.cell? ⟨g1, 6, none⟩ = some (.slice y.a2 y.us.length y.c2) ∧ v.cell? ⟨g2, 0, none⟩ = some (.int .i64 S) ∧ v.cell? ⟨g2, 1, none⟩ = some (.int .i64 R) ∧ v.cell? ⟨g2, 2, none⟩ = some (.slice a' m c'))) :=
    fun v hb => ⟨hb, (H5.out.below hb).box.c0, (H5.out.below hb).box.c1, (H5.out.below hb).box.c2, (H5.out.below hb).box.c3, (H5.out.below hb).box.c4, (H5.out.below hb).box.c5, (H5.out.below hb).box.c6, (H5.out.below hb).s0, (H5.out.below hb).s1, (H5.out.below hb).s2⟩
  have HLOW := Lib.hid H5.out.low
  clear H5 HT5 HW HY
  go_region_held3 (fun v => Below W5.heap.size W5 v ∧ v.cell? ⟨g1, 0, none⟩ = some (.int .i64 y.id) ∧ v.cell? ⟨g1, 1, none⟩ = some (.int .i64 y.c) ∧ v.cell? ⟨g1, 2, none⟩ = some (.int .i64 y.d) ∧ v.cell? ⟨g1, 3, none⟩ = some (.int .i64 y.t) ∧ v.cell? ⟨g1, 4, none⟩ = some (.int .i64 y.p) ∧ v.cell? ⟨g1, 5, none⟩ = some (.slice y.a1 y.ch.length y.c1) ∧ v.cell? ⟨g1, 6, none⟩ = some (.slice y.a2 y.us.length y.c2) ∧ v.cell? ⟨g2, 0, none⟩ = some (.int .i64 S) ∧ v.cell? ⟨g2, 1, none⟩ = some (.int .i64 R) ∧ v.cell? ⟨g2, 2, none⟩ = some (.slice a' m c')) (exact MK.out _ (by repeat (first | exact Below.refl _ _ | (with_reducible assumption) | refine bw_alloc ?_ _ | refine bw_drew ?_)))
    (first
      | (go_at_call 10; (with_reducible refine (K1.out _ (by repeat (first | exact Below.refl _ _ | (with_reducible assumption) | refine bw_alloc ?_ _ | refine bw_drew ?_))).mono ?_); rintro e wx ⟨rfl, bx⟩; have by1 := below_up (W := W5) (by repeat (first | exact Below.refl _ _ | (with_reducible assumption) | refine bw_alloc ?_ _ | refine bw_drew ?_)) bx; clear bx)
      | (go_at_call 11; (with_reducible refine (K2.out _ (by repeat (first | exact Below.refl _ _ | (with_reducible assumption) | refine bw_alloc ?_ _ | refine bw_drew ?_))).mono ?_); rintro e wx ⟨rfl, bx⟩; have by1 := below_up (W := W5) (by repeat (first | exact Below.refl _ _ | (with_reducible assumption) | refine bw_alloc ?_ _ | refine bw_drew ?_)) bx; clear bx)
      | (go_at_call 12; (with_reducible refine (K3.out _ (by repeat (first | exact Below.refl _ _ | (with_reducible assumption) | refine bw_alloc ?_ _ | refine bw_drew ?_))).mono ?_); rintro e wx ⟨rfl, bx⟩; have by1 := below_up (W := W5) (by repeat (first | exact Below.refl _ _ | (with_reducible assumption) | refine bw_alloc ?_ _ | refine bw_drew ?_)) bx; clear bx)
      | (go_at_call 13; (with_reducible refine (K4.out _ (by repeat (first | exact Below.refl _ _ | (with_reducible assumption) | refine bw_alloc ?_ _ | refine bw_drew ?_))).mono ?_); rintro e wx ⟨rfl, bx⟩; have by1 := below_up (W := W5) (by repeat (first | exact Below.refl _ _ | (with_reducible assumption) | refine bw_alloc ?_ _ | refine bw_drew ?_)) bx; clear bx)
      | (go_at_call 14; (with_reducible refine (K5.out _ (by repeat (first | exact Below.refl _ _ | (with_reducible assumption) | refine bw_alloc ?_ _ | refine bw_drew ?_))).mono ?_); rintro e wx ⟨rfl, bx⟩; have by1 := below_up (W := W5) (by repeat (first | exact Below.refl _ _ | (with_reducible assumption) | refine bw_alloc ?_ _ | refine bw_drew ?_)) bx; clear bx))
  all_goals
    go_wp2
    go_ret
    exact ⟨rfl, below_up HLOW.out (by repeat (first | exact Below.refl _ _ | (with_reducible assumption) | refine bw_alloc ?_ _ | refine bw_drew ?_))⟩
end Go.Proofs.Ytknjldmpcokgfaa
