/-
  The walk over the statement that what is in both sets, and what is in the first one alone, are the first one.
-/
import Derived.Test.YtigafpmhgogpmaaDoorBLawOne
namespace Go.Proofs.YtigafpmhgogpmaaDoor
open Go.RowKit
attribute [local go_sem] set_eq

theorem zero_eq (w : World) : (Op.equalIn 10000 24 (.agg #[.int .u64 0, .int .u64 0, .int .u64 0, .int .u64 0]) (.agg #[.int .u64 0, .int .u64 0, .int .u64 0, .int .u64 0])).run Tryd.prog w = .ok true w := set_eq 0 0 0 0 0 0 0 0 w
attribute [local go_sem] zero_eq

theorem six_kept {W0 w' : World} {b0 b1 b2 b3 b4 b5 : Nat} {a : Nat → Nat} {b : Nat → Nat} {m : Nat → Nat} {r : Nat → Nat} {u : Nat → Nat} (h0 : Four W0 b0 (a 0) (a 1) (a 2) (a 3)) (h1 : Four W0 b1 (b 0) (b 1) (b 2) (b 3)) (h2 : Four W0 b2 (m 0) (m 1) (m 2) (m 3)) (h3 : Four W0 b3 (r 0) (r 1) (r 2) (r 3)) (h4 : Four W0 b4 (u 0) (u 1) (u 2) (u 3)) (h5 : Four W0 b5 0 0 0 0) (hb : Below W0.heap.size W0 w') : Below W0.heap.size W0 w' ∧ w'.cell? ⟨b0, 0, none⟩ = some (.int .u64 (a 0)) ∧ w'.cell? ⟨b0, 1, none⟩ = some (.int .u64 (a 1)) ∧ w'.cell? ⟨b0, 2, none⟩ = some (.int .u64 (a 2)) ∧ w'.cell? ⟨b0, 3, none⟩ = some (.int .u64 (a 3)) ∧ w'.cell? ⟨b1, 0, none⟩ = some (.int .u64 (b 0)) ∧ w'.cell? ⟨b1, 1, none⟩ = some (.int .u64 (b 1)) ∧ w'.cell? ⟨b1, 2, none⟩ = some (.int .u64 (b 2)) ∧ w'.cell? ⟨b1, 3, none⟩ = some (.int .u64 (b 3)) ∧ w'.cell? ⟨b2, 0, none⟩ = some (.int .u64 (m 0)) ∧ w'.cell? ⟨b2, 1, none⟩ = some (.int .u64 (m 1)) ∧ w'.cell? ⟨b2, 2, none⟩ = some (.int .u64 (m 2)) ∧ w'.cell? ⟨b2, 3, none⟩ = some (.int .u64 (m 3)) ∧ w'.cell? ⟨b3, 0, none⟩ = some (.int .u64 (r 0)) ∧ w'.cell? ⟨b3, 1, none⟩ = some (.int .u64 (r 1)) ∧ w'.cell? ⟨b3, 2, none⟩ = some (.int .u64 (r 2)) ∧ w'.cell? ⟨b3, 3, none⟩ = some (.int .u64 (r 3)) ∧ w'.cell? ⟨b4, 0, none⟩ = some (.int .u64 (u 0)) ∧ w'.cell? ⟨b4, 1, none⟩ = some (.int .u64 (u 1)) ∧ w'.cell? ⟨b4, 2, none⟩ = some (.int .u64 (u 2)) ∧ w'.cell? ⟨b4, 3, none⟩ = some (.int .u64 (u 3)) ∧ w'.cell? ⟨b5, 0, none⟩ = some (.int .u64 0) ∧ w'.cell? ⟨b5, 1, none⟩ = some (.int .u64 0) ∧ w'.cell? ⟨b5, 2, none⟩ = some (.int .u64 0) ∧ w'.cell? ⟨b5, 3, none⟩ = some (.int .u64 0) := by
  have g0 := h0.kept hb
  have g1 := h1.kept hb
  have g2 := h2.kept hb
  have g3 := h3.kept hb
  have g4 := h4.kept hb
  have g5 := h5.kept hb
  exact ⟨hb, g0.c0, g0.c1, g0.c2, g0.c3, g1.c0, g1.c1, g1.c2, g1.c3, g2.c0, g2.c1, g2.c2, g2.c3, g3.c0, g3.c1, g3.c2, g3.c3, g4.c0, g4.c1, g4.c2, g4.c3, g5.c0, g5.c1, g5.c2, g5.c3⟩

set_option maxRecDepth 100000 in
set_option maxHeartbeats 8000000 in
theorem law_parts (a b m r u : Nat → Nat) (lu la lb lm : Nat) (hn : lu + lm = la + lb) (ha : la ≤ 256) (hb : lb ≤ 256) (W : World)
    (A : Hid (∀ w, Below W.heap.size W w → Calls Tryd.prog 9 #[] w fun e w' => e = .returned (.bool true) ∧ Below w.heap.size w w'))
    (A0 : ∀ W0 : World, Hid (∀ w, Below W0.heap.size W0 w → Calls Tryd.prog 24 #[.agg #[.int .u64 (a 0), .int .u64 (a 1), .int .u64 (a 2), .int .u64 (a 3)], .agg #[.int .u64 (b 0), .int .u64 (b 1), .int .u64 (b 2), .int .u64 (b 3)]] w fun e w' => e = .returned (.agg #[.int .u64 (m 0), .int .u64 (m 1), .int .u64 (m 2), .int .u64 (m 3)]) ∧ Below W0.heap.size W0 w'))
    (A1 : ∀ W0 : World, Hid (∀ w, Below W0.heap.size W0 w → Calls Tryd.prog 24 #[.agg #[.int .u64 (m 0), .int .u64 (m 1), .int .u64 (m 2), .int .u64 (m 3)], .agg #[.int .u64 (r 0), .int .u64 (r 1), .int .u64 (r 2), .int .u64 (r 3)]] w fun e w' => e = .returned (.agg #[.int .u64 0, .int .u64 0, .int .u64 0, .int .u64 0]) ∧ Below W0.heap.size W0 w'))
    (A2 : ∀ W0 : World, Hid (∀ w, Below W0.heap.size W0 w → Calls Tryd.prog 24 #[.agg #[.int .u64 (b 0), .int .u64 (b 1), .int .u64 (b 2), .int .u64 (b 3)], .agg #[.int .u64 (a 0), .int .u64 (a 1), .int .u64 (a 2), .int .u64 (a 3)]] w fun e w' => e = .returned (.agg #[.int .u64 (m 0), .int .u64 (m 1), .int .u64 (m 2), .int .u64 (m 3)]) ∧ Below W0.heap.size W0 w'))
    (M0 : ∀ W0 : World, Hid (∀ w, Below W0.heap.size W0 w → Calls Tryd.prog 26 #[.agg #[.int .u64 (a 0), .int .u64 (a 1), .int .u64 (a 2), .int .u64 (a 3)], .agg #[.int .u64 (b 0), .int .u64 (b 1), .int .u64 (b 2), .int .u64 (b 3)]] w fun e w' => e = .returned (.agg #[.int .u64 (r 0), .int .u64 (r 1), .int .u64 (r 2), .int .u64 (r 3)]) ∧ Below W0.heap.size W0 w'))
    (M1 : ∀ W0 : World, Hid (∀ w, Below W0.heap.size W0 w → Calls Tryd.prog 26 #[.agg #[.int .u64 (u 0), .int .u64 (u 1), .int .u64 (u 2), .int .u64 (u 3)], .agg #[.int .u64 (b 0), .int .u64 (b 1), .int .u64 (b 2), .int .u64 (b 3)]] w fun e w' => e = .returned (.agg #[.int .u64 (r 0), .int .u64 (r 1), .int .u64 (r 2), .int .u64 (r 3)]) ∧ Below W0.heap.size W0 w'))
    (L0 : ∀ W0 : World, Hid (∀ w, Below W0.heap.size W0 w → Calls Tryd.prog 28 #[.agg #[.int .u64 (u 0), .int .u64 (u 1), .int .u64 (u 2), .int .u64 (u 3)]] w fun e w' => e = .returned (.int .i64 (lu : Nat)) ∧ Below W0.heap.size W0 w'))
    (L1 : ∀ W0 : World, Hid (∀ w, Below W0.heap.size W0 w → Calls Tryd.prog 28 #[.agg #[.int .u64 (a 0), .int .u64 (a 1), .int .u64 (a 2), .int .u64 (a 3)]] w fun e w' => e = .returned (.int .i64 (la : Nat)) ∧ Below W0.heap.size W0 w'))
    (L2 : ∀ W0 : World, Hid (∀ w, Below W0.heap.size W0 w → Calls Tryd.prog 28 #[.agg #[.int .u64 (b 0), .int .u64 (b 1), .int .u64 (b 2), .int .u64 (b 3)]] w fun e w' => e = .returned (.int .i64 (lb : Nat)) ∧ Below W0.heap.size W0 w'))
    (L3 : ∀ W0 : World, Hid (∀ w, Below W0.heap.size W0 w → Calls Tryd.prog 28 #[.agg #[.int .u64 (m 0), .int .u64 (m 1), .int .u64 (m 2), .int .u64 (m 3)]] w fun e w' => e = .returned (.int .i64 (lm : Nat)) ∧ Below W0.heap.size W0 w'))
    (N0 : ∀ W0 : World, Hid (∀ w, Below W0.heap.size W0 w → Calls Tryd.prog 22 #[.slice none 0 0] w fun e w' => e = .returned (.agg #[.int .u64 0, .int .u64 0, .int .u64 0, .int .u64 0]) ∧ Below W0.heap.size W0 w'))
    (O0 : ∀ W0 : World, Hid (∀ g w, Below W0.heap.size W0 w → g < w.heap.size → w.cell? ⟨g, 0, none⟩ = some (.int .u64 (a 0)) → w.cell? ⟨g, 1, none⟩ = some (.int .u64 (a 1)) → w.cell? ⟨g, 2, none⟩ = some (.int .u64 (a 2)) → w.cell? ⟨g, 3, none⟩ = some (.int .u64 (a 3)) → w.cell? ⟨g, 4, none⟩ = some (.int .u64 (b 0)) → w.cell? ⟨g, 5, none⟩ = some (.int .u64 (b 1)) → w.cell? ⟨g, 6, none⟩ = some (.int .u64 (b 2)) → w.cell? ⟨g, 7, none⟩ = some (.int .u64 (b 3)) → Calls Tryd.prog 22 #[.slice (some ⟨g, 0, none⟩) 2 2] w fun e w' => e = .returned (.agg #[.int .u64 (u 0), .int .u64 (u 1), .int .u64 (u 2), .int .u64 (u 3)]) ∧ Below W0.heap.size W0 w'))
    (O1 : ∀ W0 : World, Hid (∀ g w, Below W0.heap.size W0 w → g < w.heap.size → w.cell? ⟨g, 0, none⟩ = some (.int .u64 (m 0)) → w.cell? ⟨g, 1, none⟩ = some (.int .u64 (m 1)) → w.cell? ⟨g, 2, none⟩ = some (.int .u64 (m 2)) → w.cell? ⟨g, 3, none⟩ = some (.int .u64 (m 3)) → w.cell? ⟨g, 4, none⟩ = some (.int .u64 (r 0)) → w.cell? ⟨g, 5, none⟩ = some (.int .u64 (r 1)) → w.cell? ⟨g, 6, none⟩ = some (.int .u64 (r 2)) → w.cell? ⟨g, 7, none⟩ = some (.int .u64 (r 3)) → Calls Tryd.prog 22 #[.slice (some ⟨g, 0, none⟩) 2 2] w fun e w' => e = .returned (.agg #[.int .u64 (a 0), .int .u64 (a 1), .int .u64 (a 2), .int .u64 (a 3)]) ∧ Below W0.heap.size W0 w')) :
    Calls Tryd.prog 5 #[.agg #[.int .u64 (a 0), .int .u64 (a 1), .int .u64 (a 2), .int .u64 (a 3)], .agg #[.int .u64 (b 0), .int .u64 (b 1), .int .u64 (b 2), .int .u64 (b 3)]] W fun e w' => e = .returned (.bool true) ∧ Below W.heap.size W w' := by
  have s1 : IntKind.i64.wrap ((la : Int) + (lb : Int)) = ((la + lb : Nat) : Int) := by rw [IntWalk.i64_in _ (by omega)]; simp
  have s2 : IntKind.i64.wrap (((la + lb : Nat) : Int) - (lm : Int)) = (lu : Int) := by rw [IntWalk.i64_in _ (by omega)]; omega
  generalize la + lb = S at s1 s2
  clear hn ha hb
  go_enter Tryd.func5, Tryd.ntmps5
  go_upto_region 2 with (go_at_call 9; (refine (A.out _ (((Below.refl _ _).alloc (Nat.le_refl _) _).alloc (by simp) _)).mono ?_); rintro e w1 ⟨rfl, hw1⟩; have F1 := Lib.hid (Four.next hw1 ((Four.new W (a 0) (a 1) (a 2) (a 3) _).alloc _)); have G1 := Four.next hw1 (Four.new (W.alloc _) (b 0) (b 1) (b 2) (b 3) _); have B1 := Lib.hid (below_next hw1 (((Below.refl W.heap.size W).alloc (Nat.le_refl _) _).alloc (by simp) _) (Nat.le_refl _)); rw [World.size_alloc] at G1; have G1 := Lib.hid G1; clear hw1)
  refine gen_world (fun v => Four v W.heap.size (a 0) (a 1) (a 2) (a 3) ∧ Four v (W.heap.size + 1) (b 0) (b 1) (b 2) (b 3) ∧ Below W.heap.size W v) ⟨F1.out, G1.out, B1.out⟩ ?_
  clear F1 G1 B1 A
  intro v1 ⟨f10, f11, b1⟩
  have l10 := f10.lt
  have l11 := f11.lt
  obtain ⟨x00, x01, x02, x03, _, _, _, _⟩ := id f10
  obtain ⟨x10, x11, x12, x13, _, _, _, _⟩ := id f11
  go_upto_region 3 with (go_at_call 24; refine ((A0 v1).out _ (Below.refl _ _)).mono ?_; rintro e u1 ⟨rfl, hw⟩)
  refine gen_world (fun v => Four v W.heap.size (a 0) (a 1) (a 2) (a 3) ∧ Four v (W.heap.size + 1) (b 0) (b 1) (b 2) (b 3) ∧ Four v u1.heap.size (m 0) (m 1) (m 2) (m 3) ∧ Below W.heap.size W v) ⟨(f10.kept hw).alloc _, (f11.kept hw).alloc _, Four.new _ _ _ _ _ _, (b1.trans (hw.mono b1.size)).alloc (Nat.le_trans b1.size hw.size) _⟩ ?_
  intro v2 ⟨f20, f21, f22, b2⟩
  clear hw b1 f10 l10 x00 x01 x02 x03 f11 l11 x10 x11 x12 x13
  generalize u1.heap.size = c2 at f22 ⊢
  have l20 := f20.lt
  have l21 := f21.lt
  have l22 := f22.lt
  obtain ⟨x00, x01, x02, x03, _, _, _, _⟩ := id f20
  obtain ⟨x10, x11, x12, x13, _, _, _, _⟩ := id f21
  obtain ⟨x20, x21, x22, x23, _, _, _, _⟩ := id f22
  go_upto_region 4 with (go_at_call 26; refine ((M0 v2).out _ (Below.refl _ _)).mono ?_; rintro e u2 ⟨rfl, hw⟩)
  refine gen_world (fun v => Four v W.heap.size (a 0) (a 1) (a 2) (a 3) ∧ Four v (W.heap.size + 1) (b 0) (b 1) (b 2) (b 3) ∧ Four v c2 (m 0) (m 1) (m 2) (m 3) ∧ Four v u2.heap.size (r 0) (r 1) (r 2) (r 3) ∧ Below W.heap.size W v) ⟨(f20.kept hw).alloc _, (f21.kept hw).alloc _, (f22.kept hw).alloc _, Four.new _ _ _ _ _ _, (b2.trans (hw.mono b2.size)).alloc (Nat.le_trans b2.size hw.size) _⟩ ?_
  intro v3 ⟨f30, f31, f32, f33, b3⟩
  clear hw b2 f20 l20 x00 x01 x02 x03 f21 l21 x10 x11 x12 x13 f22 l22 x20 x21 x22 x23
  generalize u2.heap.size = c3 at f33 ⊢
  have l30 := f30.lt
  have l31 := f31.lt
  have l32 := f32.lt
  have l33 := f33.lt
  obtain ⟨x00, x01, x02, x03, _, _, _, _⟩ := id f30
  obtain ⟨x10, x11, x12, x13, _, _, _, _⟩ := id f31
  obtain ⟨x20, x21, x22, x23, _, _, _, _⟩ := id f32
  obtain ⟨x30, x31, x32, x33, _, _, _, _⟩ := id f33
  go_upto_region 5 with (go_at_call 22; refine ((O0 v3).out _ _ ((Below.refl _ _).alloc (Nat.le_refl _) _) (by simp) (by simp) (by simp) (by simp) (by simp) (by simp) (by simp) (by simp) (by simp)).mono ?_; rintro e u3 ⟨rfl, hw⟩)
  refine gen_world (fun v => Four v W.heap.size (a 0) (a 1) (a 2) (a 3) ∧ Four v (W.heap.size + 1) (b 0) (b 1) (b 2) (b 3) ∧ Four v c2 (m 0) (m 1) (m 2) (m 3) ∧ Four v c3 (r 0) (r 1) (r 2) (r 3) ∧ Four v u3.heap.size (u 0) (u 1) (u 2) (u 3) ∧ Below W.heap.size W v) ⟨(f30.kept hw).alloc _, (f31.kept hw).alloc _, (f32.kept hw).alloc _, (f33.kept hw).alloc _, Four.new _ _ _ _ _ _, (b3.trans (hw.mono b3.size)).alloc (Nat.le_trans b3.size hw.size) _⟩ ?_
  intro v4 ⟨f40, f41, f42, f43, f44, b4⟩
  clear hw b3 f30 l30 x00 x01 x02 x03 f31 l31 x10 x11 x12 x13 f32 l32 x20 x21 x22 x23 f33 l33 x30 x31 x32 x33
  generalize u3.heap.size = c4 at f44 ⊢
  have l40 := f40.lt
  have l41 := f41.lt
  have l42 := f42.lt
  have l43 := f43.lt
  have l44 := f44.lt
  go_upto_region 6 with (fail)
  refine gen_world (fun v => Four v W.heap.size (a 0) (a 1) (a 2) (a 3) ∧ Four v (W.heap.size + 1) (b 0) (b 1) (b 2) (b 3) ∧ Four v c2 (m 0) (m 1) (m 2) (m 3) ∧ Four v c3 (r 0) (r 1) (r 2) (r 3) ∧ Four v c4 (u 0) (u 1) (u 2) (u 3) ∧ Four v v4.heap.size 0 0 0 0 ∧ Below W.heap.size W v) ⟨f40.alloc _, f41.alloc _, f42.alloc _, f43.alloc _, f44.alloc _, Four.new _ 0 0 0 0 _, b4.alloc b4.size _⟩ ?_
  intro W0 ⟨f50, f51, f52, f53, f54, f55, b5⟩
  clear b4 f40 l40 f41 l41 f42 l42 f43 l43 f44 l44
  generalize v4.heap.size = c5 at f55 ⊢
  have HB := Lib.hid b5
  have MK := Lib.hid (fun w' (h : Below W0.heap.size W0 w') => six_kept f50 f51 f52 f53 f54 f55 h)
  have r0 := Below.refl W0.heap.size W0
  have sx0 := r0.size
  have e1 := eq4_self (a 0) (a 1) (a 2) (a 3)
  have e2 := eq4_self (m 0) (m 1) (m 2) (m 3)
  have e3 := eq4_self (r 0) (r 1) (r 2) (r 3)
  have KA0 := A0 W0
  have KA1 := A1 W0
  have KA2 := A2 W0
  have KM0 := M0 W0
  have KM1 := M1 W0
  have KL0 := L0 W0
  have KL1 := L1 W0
  have KL2 := L2 W0
  have KL3 := L3 W0
  have KN0 := N0 W0
  have KO1 := O1 W0
  clear b5 f50 f51 f52 f53 f54 f55 A0 A1 A2 M0 M1 L0 L1 L2 L3 N0 O0 O1
  go_region_held3 (fun w' => Below W0.heap.size W0 w' ∧ w'.cell? ⟨W.heap.size, 0, none⟩ = some (.int .u64 (a 0)) ∧ w'.cell? ⟨W.heap.size, 1, none⟩ = some (.int .u64 (a 1)) ∧ w'.cell? ⟨W.heap.size, 2, none⟩ = some (.int .u64 (a 2)) ∧ w'.cell? ⟨W.heap.size, 3, none⟩ = some (.int .u64 (a 3)) ∧ w'.cell? ⟨(W.heap.size + 1), 0, none⟩ = some (.int .u64 (b 0)) ∧ w'.cell? ⟨(W.heap.size + 1), 1, none⟩ = some (.int .u64 (b 1)) ∧ w'.cell? ⟨(W.heap.size + 1), 2, none⟩ = some (.int .u64 (b 2)) ∧ w'.cell? ⟨(W.heap.size + 1), 3, none⟩ = some (.int .u64 (b 3)) ∧ w'.cell? ⟨c2, 0, none⟩ = some (.int .u64 (m 0)) ∧ w'.cell? ⟨c2, 1, none⟩ = some (.int .u64 (m 1)) ∧ w'.cell? ⟨c2, 2, none⟩ = some (.int .u64 (m 2)) ∧ w'.cell? ⟨c2, 3, none⟩ = some (.int .u64 (m 3)) ∧ w'.cell? ⟨c3, 0, none⟩ = some (.int .u64 (r 0)) ∧ w'.cell? ⟨c3, 1, none⟩ = some (.int .u64 (r 1)) ∧ w'.cell? ⟨c3, 2, none⟩ = some (.int .u64 (r 2)) ∧ w'.cell? ⟨c3, 3, none⟩ = some (.int .u64 (r 3)) ∧ w'.cell? ⟨c4, 0, none⟩ = some (.int .u64 (u 0)) ∧ w'.cell? ⟨c4, 1, none⟩ = some (.int .u64 (u 1)) ∧ w'.cell? ⟨c4, 2, none⟩ = some (.int .u64 (u 2)) ∧ w'.cell? ⟨c4, 3, none⟩ = some (.int .u64 (u 3)) ∧ w'.cell? ⟨c5, 0, none⟩ = some (.int .u64 0) ∧ w'.cell? ⟨c5, 1, none⟩ = some (.int .u64 0) ∧ w'.cell? ⟨c5, 2, none⟩ = some (.int .u64 0) ∧ w'.cell? ⟨c5, 3, none⟩ = some (.int .u64 0)) (exact MK.out _ (by repeat (first | (with_reducible assumption) | refine Below.drew ?_ | refine Below.alloc ?_ (by first | omega | (simp; omega)) _))) (first | (go_at_call 24; (with_reducible refine (KA0.out _ (by repeat (first | (with_reducible assumption) | refine Below.drew ?_ | refine Below.alloc ?_ (by first | omega | (simp; omega)) _))).mono ?_); rintro e wx ⟨rfl, bx⟩; have sx := bx.size) | (go_at_call 24; (with_reducible refine (KA1.out _ (by repeat (first | (with_reducible assumption) | refine Below.drew ?_ | refine Below.alloc ?_ (by first | omega | (simp; omega)) _))).mono ?_); rintro e wx ⟨rfl, bx⟩; have sx := bx.size) | (go_at_call 24; (with_reducible refine (KA2.out _ (by repeat (first | (with_reducible assumption) | refine Below.drew ?_ | refine Below.alloc ?_ (by first | omega | (simp; omega)) _))).mono ?_); rintro e wx ⟨rfl, bx⟩; have sx := bx.size) | (go_at_call 26; (with_reducible refine (KM0.out _ (by repeat (first | (with_reducible assumption) | refine Below.drew ?_ | refine Below.alloc ?_ (by first | omega | (simp; omega)) _))).mono ?_); rintro e wx ⟨rfl, bx⟩; have sx := bx.size) | (go_at_call 26; (with_reducible refine (KM1.out _ (by repeat (first | (with_reducible assumption) | refine Below.drew ?_ | refine Below.alloc ?_ (by first | omega | (simp; omega)) _))).mono ?_); rintro e wx ⟨rfl, bx⟩; have sx := bx.size) | (go_at_call 28; (with_reducible refine (KL0.out _ (by repeat (first | (with_reducible assumption) | refine Below.drew ?_ | refine Below.alloc ?_ (by first | omega | (simp; omega)) _))).mono ?_); rintro e wx ⟨rfl, bx⟩; have sx := bx.size) | (go_at_call 28; (with_reducible refine (KL1.out _ (by repeat (first | (with_reducible assumption) | refine Below.drew ?_ | refine Below.alloc ?_ (by first | omega | (simp; omega)) _))).mono ?_); rintro e wx ⟨rfl, bx⟩; have sx := bx.size) | (go_at_call 28; (with_reducible refine (KL2.out _ (by repeat (first | (with_reducible assumption) | refine Below.drew ?_ | refine Below.alloc ?_ (by first | omega | (simp; omega)) _))).mono ?_); rintro e wx ⟨rfl, bx⟩; have sx := bx.size) | (go_at_call 28; (with_reducible refine (KL3.out _ (by repeat (first | (with_reducible assumption) | refine Below.drew ?_ | refine Below.alloc ?_ (by first | omega | (simp; omega)) _))).mono ?_); rintro e wx ⟨rfl, bx⟩; have sx := bx.size) | (go_at_call 22; (with_reducible refine (KN0.out _ (by repeat (first | (with_reducible assumption) | refine Below.drew ?_ | refine Below.alloc ?_ (by first | omega | (simp; omega)) _))).mono ?_); rintro e wx ⟨rfl, bx⟩; have sx := bx.size) | (go_at_call 22; (refine (KO1.out _ _ (by repeat (first | (with_reducible assumption) | refine Below.drew ?_ | refine Below.alloc ?_ (by first | omega | (simp; omega)) _)) (by simp) (by simp) (by simp) (by simp) (by simp) (by simp) (by simp) (by simp) (by simp)).mono ?_); rintro e wx ⟨rfl, bx⟩; have sx := bx.size))
  go_wp2
  go_ret
  exact ⟨rfl, HB.out.trans (Below.mono (by with_reducible assumption) HB.out.size)⟩

theorem cnt_parts (p q : Nat → Bool) : ∀ n, cntN (orP p q) n + cntN (andP p q) n = cntN p n + cntN q n
  | 0 => rfl
  | n + 1 => by
    have := cnt_parts p q n
    simp only [cntN]
    have e : (if orP p q n = true then 1 else 0) + (if andP p q n = true then 1 else 0) = (if p n = true then 1 else 0) + (if q n = true then 1 else 0) := by
      unfold orP andP; cases p n <;> cases q n <;> rfl
    omega

theorem or_under (p q : Nat → Bool) (W0 : World) (g : Nat) (w : World) (hb : Below W0.heap.size W0 w) (hg : g < w.heap.size)
    (h0 : w.cell? ⟨g, 0, none⟩ = some (.int .u64 (wd p 0))) (h1 : w.cell? ⟨g, 1, none⟩ = some (.int .u64 (wd p 1))) (h2 : w.cell? ⟨g, 2, none⟩ = some (.int .u64 (wd p 2))) (h3 : w.cell? ⟨g, 3, none⟩ = some (.int .u64 (wd p 3)))
    (h4 : w.cell? ⟨g, 4, none⟩ = some (.int .u64 (wd q 0))) (h5 : w.cell? ⟨g, 5, none⟩ = some (.int .u64 (wd q 1))) (h6 : w.cell? ⟨g, 6, none⟩ = some (.int .u64 (wd q 2))) (h7 : w.cell? ⟨g, 7, none⟩ = some (.int .u64 (wd q 3))) :
    Calls Tryd.prog 22 #[.slice (some ⟨g, 0, none⟩) 2 2] w fun e w' => e = .returned (.agg #[.int .u64 (wd (orP p q) 0), .int .u64 (wd (orP p q) 1), .int .u64 (wd (orP p q) 2), .int .u64 (wd (orP p q) 3)]) ∧ Below W0.heap.size W0 w' :=
  Calls.under hb (Nat.le_refl _) (or_two p q g w hg h0 h1 h2 h3 h4 h5 h6 h7)

theorem or_none (w : World) : Calls Tryd.prog 22 #[.slice none 0 0] w fun e w' => e = .returned (.agg #[.int .u64 0, .int .u64 0, .int .u64 0, .int .u64 0]) ∧ Below w.heap.size w w' := by
  have h := or_any [] (by simp) 0 none w (.inl rfl)
  have e : ∀ k, wd (orN [] ([] : List (Nat → Bool)).length) k = 0 := fun k => wd_none k
  rw [e, e, e, e] at h
  exact h

theorem set_same {f : FuncId} {args : Array Value} {w : World} {p q : Nat → Bool} (h : ∀ i, i < 256 → p i = q i) (hc : Calls Tryd.prog f args w fun e w' => e = .returned (.agg #[.int .u64 (wd p 0), .int .u64 (wd p 1), .int .u64 (wd p 2), .int .u64 (wd p 3)]) ∧ Below w.heap.size w w') :
    Calls Tryd.prog f args w fun e w' => e = .returned (.agg #[.int .u64 (wd q 0), .int .u64 (wd q 1), .int .u64 (wd q 2), .int .u64 (wd q 3)]) ∧ Below w.heap.size w w' := by
  rw [wd_congr h (k := 0) (by omega), wd_congr h (k := 1) (by omega), wd_congr h (k := 2) (by omega), wd_congr h (k := 3) (by omega)] at hc
  exact hc
theorem set_same_at {f : FuncId} {args : Array Value} {w W0 : World} {p q : Nat → Bool} (h : ∀ i, i < 256 → p i = q i) (hc : Calls Tryd.prog f args w fun e w' => e = .returned (.agg #[.int .u64 (wd p 0), .int .u64 (wd p 1), .int .u64 (wd p 2), .int .u64 (wd p 3)]) ∧ Below W0.heap.size W0 w') :
    Calls Tryd.prog f args w fun e w' => e = .returned (.agg #[.int .u64 (wd q 0), .int .u64 (wd q 1), .int .u64 (wd q 2), .int .u64 (wd q 3)]) ∧ Below W0.heap.size W0 w' := by
  rw [wd_congr h (k := 0) (by omega), wd_congr h (k := 1) (by omega), wd_congr h (k := 2) (by omega), wd_congr h (k := 3) (by omega)] at hc
  exact hc

theorem parts_in (p q : Nat → Bool) (W : World) (hT : Tab W) :
    Calls Tryd.prog 5 #[.agg #[.int .u64 (wd p 0), .int .u64 (wd p 1), .int .u64 (wd p 2), .int .u64 (wd p 3)], .agg #[.int .u64 (wd q 0), .int .u64 (wd q 1), .int .u64 (wd q 2), .int .u64 (wd q 3)]] W fun e w' => e = .returned (.bool true) ∧ Below W.heap.size W w' := by
  have hz : ∀ k, k < 4 → wd (andP (andP p q) (minusP p q)) k = 0 := fun k hk => by
    rw [← wd_none k]; exact wd_congr (fun i _ => by unfold andP minusP noneP; cases p i <;> cases q i <;> rfl) hk
  refine law_parts (wd p) (wd q) (wd (andP p q)) (wd (minusP p q)) (wd (orP p q)) (cntN (orP p q) 256) (cntN p 256) (cntN q 256) (cntN (andP p q) 256) (cnt_parts p q 256) (cntN_le _ _) (cntN_le _ _) W (awake_under hT)
    (fun W0 => under W0 fun w => and_any p q w) (fun W0 => under W0 fun w => ?_) (fun W0 => under W0 fun w => set_same (fun i _ => by unfold andP; cases p i <;> cases q i <;> rfl) (and_any q p w))
    (fun W0 => under W0 fun w => minus_any p q w) (fun W0 => under W0 fun w => set_same (fun i _ => by unfold minusP orP; cases p i <;> cases q i <;> rfl) (minus_any (orP p q) q w))
    (fun W0 => under W0 fun w => len_any _ w) (fun W0 => under W0 fun w => len_any _ w) (fun W0 => under W0 fun w => len_any _ w) (fun W0 => under W0 fun w => len_any _ w)
    (fun W0 => under W0 fun w => or_none w) (fun W0 => or_under p q W0)
    (fun W0 g w hb hg h0 h1 h2 h3 h4 h5 h6 h7 => set_same_at (fun i _ => by unfold orP andP minusP; cases p i <;> cases q i <;> rfl) (or_under (andP p q) (minusP p q) W0 g w hb hg h0 h1 h2 h3 h4 h5 h6 h7))
  have h := and_any (andP p q) (minusP p q) w
  rw [hz 0 (by omega), hz 1 (by omega), hz 2 (by omega), hz 3 (by omega)] at h
  exact h

theorem row_parts (W : World) (hT : Tab W) (z : List Int) (hz : z.length = 4) (hwz : ∀ x ∈ z, (Lit.int .u64 x).wf = true) (y : List Int) (hy : y.length = 4) (hwy : ∀ x ∈ y, (Lit.int .u64 x).wf = true) :
    Calls Tryd.prog 5 #[.agg (z.map (Value.int .u64)).toArray, .agg (y.map (Value.int .u64)).toArray] W fun e w' => e = .returned (.bool true) ∧ Below W.heap.size W w' := by
  obtain ⟨p, hp⟩ := set_in z hz hwz
  obtain ⟨q, hq⟩ := set_in y hy hwy
  rw [hp, hq]
  exact parts_in p q W hT

end Go.Proofs.YtigafpmhgogpmaaDoor
