/-
  The walk over the statement that of three sets, what is in one of them is what is in the first one, and what the others have beside.
-/
import Derived.Test.YtfffkfmgifamgaaDoorBLawParts
namespace Go.Proofs.YtfffkfmgifamgaaDoor
open Go.RowKit
attribute [local go_sem] set_eq

theorem four_kept {W0 w' : World} {b0 b1 b2 b3 : Nat} {a : Nat → Nat} {b : Nat → Nat} {c : Nat → Nat} {u : Nat → Nat} (h0 : Four W0 b0 (a 0) (a 1) (a 2) (a 3)) (h1 : Four W0 b1 (b 0) (b 1) (b 2) (b 3)) (h2 : Four W0 b2 (c 0) (c 1) (c 2) (c 3)) (h3 : Four W0 b3 (u 0) (u 1) (u 2) (u 3)) (hb : Below W0.heap.size W0 w') : Below W0.heap.size W0 w' ∧ w'.cell? ⟨b0, 0, none⟩ = some (.int .u64 (a 0)) ∧ w'.cell? ⟨b0, 1, none⟩ = some (.int .u64 (a 1)) ∧ w'.cell? ⟨b0, 2, none⟩ = some (.int .u64 (a 2)) ∧ w'.cell? ⟨b0, 3, none⟩ = some (.int .u64 (a 3)) ∧ w'.cell? ⟨b1, 0, none⟩ = some (.int .u64 (b 0)) ∧ w'.cell? ⟨b1, 1, none⟩ = some (.int .u64 (b 1)) ∧ w'.cell? ⟨b1, 2, none⟩ = some (.int .u64 (b 2)) ∧ w'.cell? ⟨b1, 3, none⟩ = some (.int .u64 (b 3)) ∧ w'.cell? ⟨b2, 0, none⟩ = some (.int .u64 (c 0)) ∧ w'.cell? ⟨b2, 1, none⟩ = some (.int .u64 (c 1)) ∧ w'.cell? ⟨b2, 2, none⟩ = some (.int .u64 (c 2)) ∧ w'.cell? ⟨b2, 3, none⟩ = some (.int .u64 (c 3)) ∧ w'.cell? ⟨b3, 0, none⟩ = some (.int .u64 (u 0)) ∧ w'.cell? ⟨b3, 1, none⟩ = some (.int .u64 (u 1)) ∧ w'.cell? ⟨b3, 2, none⟩ = some (.int .u64 (u 2)) ∧ w'.cell? ⟨b3, 3, none⟩ = some (.int .u64 (u 3)) := by
  have g0 := h0.kept hb
  have g1 := h1.kept hb
  have g2 := h2.kept hb
  have g3 := h3.kept hb
  exact ⟨hb, g0.c0, g0.c1, g0.c2, g0.c3, g1.c0, g1.c1, g1.c2, g1.c3, g2.c0, g2.c1, g2.c2, g2.c3, g3.c0, g3.c1, g3.c2, g3.c3⟩

set_option maxRecDepth 100000 in
set_option maxHeartbeats 8000000 in
theorem law_shares (a b c u v x y s t z d f : Nat → Nat) (lu la : Nat) (hn : la ≤ lu) (W : World)
    (A : Hid (∀ w, Below W.heap.size W w → Calls Tryd.prog 9 #[] w fun e w' => e = .returned (.bool true) ∧ Below w.heap.size w w'))
    (M0 : ∀ W0 : World, Hid (∀ w, Below W0.heap.size W0 w → Calls Tryd.prog 26 #[.agg #[.int .u64 (v 0), .int .u64 (v 1), .int .u64 (v 2), .int .u64 (v 3)], .agg #[.int .u64 (a 0), .int .u64 (a 1), .int .u64 (a 2), .int .u64 (a 3)]] w fun e w' => e = .returned (.agg #[.int .u64 (x 0), .int .u64 (x 1), .int .u64 (x 2), .int .u64 (x 3)]) ∧ Below W0.heap.size W0 w'))
    (A0 : ∀ W0 : World, Hid (∀ w, Below W0.heap.size W0 w → Calls Tryd.prog 24 #[.agg #[.int .u64 (a 0), .int .u64 (a 1), .int .u64 (a 2), .int .u64 (a 3)], .agg #[.int .u64 (v 0), .int .u64 (v 1), .int .u64 (v 2), .int .u64 (v 3)]] w fun e w' => e = .returned (.agg #[.int .u64 (y 0), .int .u64 (y 1), .int .u64 (y 2), .int .u64 (y 3)]) ∧ Below W0.heap.size W0 w'))
    (A1 : ∀ W0 : World, Hid (∀ w, Below W0.heap.size W0 w → Calls Tryd.prog 24 #[.agg #[.int .u64 (a 0), .int .u64 (a 1), .int .u64 (a 2), .int .u64 (a 3)], .agg #[.int .u64 (b 0), .int .u64 (b 1), .int .u64 (b 2), .int .u64 (b 3)]] w fun e w' => e = .returned (.agg #[.int .u64 (s 0), .int .u64 (s 1), .int .u64 (s 2), .int .u64 (s 3)]) ∧ Below W0.heap.size W0 w'))
    (A2 : ∀ W0 : World, Hid (∀ w, Below W0.heap.size W0 w → Calls Tryd.prog 24 #[.agg #[.int .u64 (a 0), .int .u64 (a 1), .int .u64 (a 2), .int .u64 (a 3)], .agg #[.int .u64 (c 0), .int .u64 (c 1), .int .u64 (c 2), .int .u64 (c 3)]] w fun e w' => e = .returned (.agg #[.int .u64 (t 0), .int .u64 (t 1), .int .u64 (t 2), .int .u64 (t 3)]) ∧ Below W0.heap.size W0 w'))
    (M1 : ∀ W0 : World, Hid (∀ w, Below W0.heap.size W0 w → Calls Tryd.prog 26 #[.agg #[.int .u64 (a 0), .int .u64 (a 1), .int .u64 (a 2), .int .u64 (a 3)], .agg #[.int .u64 (v 0), .int .u64 (v 1), .int .u64 (v 2), .int .u64 (v 3)]] w fun e w' => e = .returned (.agg #[.int .u64 (z 0), .int .u64 (z 1), .int .u64 (z 2), .int .u64 (z 3)]) ∧ Below W0.heap.size W0 w'))
    (M2 : ∀ W0 : World, Hid (∀ w, Below W0.heap.size W0 w → Calls Tryd.prog 26 #[.agg #[.int .u64 (a 0), .int .u64 (a 1), .int .u64 (a 2), .int .u64 (a 3)], .agg #[.int .u64 (b 0), .int .u64 (b 1), .int .u64 (b 2), .int .u64 (b 3)]] w fun e w' => e = .returned (.agg #[.int .u64 (d 0), .int .u64 (d 1), .int .u64 (d 2), .int .u64 (d 3)]) ∧ Below W0.heap.size W0 w'))
    (M3 : ∀ W0 : World, Hid (∀ w, Below W0.heap.size W0 w → Calls Tryd.prog 26 #[.agg #[.int .u64 (a 0), .int .u64 (a 1), .int .u64 (a 2), .int .u64 (a 3)], .agg #[.int .u64 (c 0), .int .u64 (c 1), .int .u64 (c 2), .int .u64 (c 3)]] w fun e w' => e = .returned (.agg #[.int .u64 (f 0), .int .u64 (f 1), .int .u64 (f 2), .int .u64 (f 3)]) ∧ Below W0.heap.size W0 w'))
    (A3 : ∀ W0 : World, Hid (∀ w, Below W0.heap.size W0 w → Calls Tryd.prog 24 #[.agg #[.int .u64 (d 0), .int .u64 (d 1), .int .u64 (d 2), .int .u64 (d 3)], .agg #[.int .u64 (f 0), .int .u64 (f 1), .int .u64 (f 2), .int .u64 (f 3)]] w fun e w' => e = .returned (.agg #[.int .u64 (z 0), .int .u64 (z 1), .int .u64 (z 2), .int .u64 (z 3)]) ∧ Below W0.heap.size W0 w'))
    (L0 : ∀ W0 : World, Hid (∀ w, Below W0.heap.size W0 w → Calls Tryd.prog 28 #[.agg #[.int .u64 (u 0), .int .u64 (u 1), .int .u64 (u 2), .int .u64 (u 3)]] w fun e w' => e = .returned (.int .i64 (lu : Nat)) ∧ Below W0.heap.size W0 w'))
    (L1 : ∀ W0 : World, Hid (∀ w, Below W0.heap.size W0 w → Calls Tryd.prog 28 #[.agg #[.int .u64 (a 0), .int .u64 (a 1), .int .u64 (a 2), .int .u64 (a 3)]] w fun e w' => e = .returned (.int .i64 (la : Nat)) ∧ Below W0.heap.size W0 w'))
    (O3 : ∀ W0 : World, Hid (∀ g w, Below W0.heap.size W0 w → g < w.heap.size → w.cell? ⟨g, 0, none⟩ = some (.int .u64 (a 0)) → w.cell? ⟨g, 1, none⟩ = some (.int .u64 (a 1)) → w.cell? ⟨g, 2, none⟩ = some (.int .u64 (a 2)) → w.cell? ⟨g, 3, none⟩ = some (.int .u64 (a 3)) → w.cell? ⟨g, 4, none⟩ = some (.int .u64 (b 0)) → w.cell? ⟨g, 5, none⟩ = some (.int .u64 (b 1)) → w.cell? ⟨g, 6, none⟩ = some (.int .u64 (b 2)) → w.cell? ⟨g, 7, none⟩ = some (.int .u64 (b 3)) → w.cell? ⟨g, 8, none⟩ = some (.int .u64 (c 0)) → w.cell? ⟨g, 9, none⟩ = some (.int .u64 (c 1)) → w.cell? ⟨g, 10, none⟩ = some (.int .u64 (c 2)) → w.cell? ⟨g, 11, none⟩ = some (.int .u64 (c 3)) → Calls Tryd.prog 22 #[.slice (some ⟨g, 0, none⟩) 3 3] w fun e w' => e = .returned (.agg #[.int .u64 (u 0), .int .u64 (u 1), .int .u64 (u 2), .int .u64 (u 3)]) ∧ Below W0.heap.size W0 w'))
    (O0 : ∀ W0 : World, Hid (∀ g w, Below W0.heap.size W0 w → g < w.heap.size → w.cell? ⟨g, 0, none⟩ = some (.int .u64 (b 0)) → w.cell? ⟨g, 1, none⟩ = some (.int .u64 (b 1)) → w.cell? ⟨g, 2, none⟩ = some (.int .u64 (b 2)) → w.cell? ⟨g, 3, none⟩ = some (.int .u64 (b 3)) → w.cell? ⟨g, 4, none⟩ = some (.int .u64 (c 0)) → w.cell? ⟨g, 5, none⟩ = some (.int .u64 (c 1)) → w.cell? ⟨g, 6, none⟩ = some (.int .u64 (c 2)) → w.cell? ⟨g, 7, none⟩ = some (.int .u64 (c 3)) → Calls Tryd.prog 22 #[.slice (some ⟨g, 0, none⟩) 2 2] w fun e w' => e = .returned (.agg #[.int .u64 (v 0), .int .u64 (v 1), .int .u64 (v 2), .int .u64 (v 3)]) ∧ Below W0.heap.size W0 w'))
    (O1 : ∀ W0 : World, Hid (∀ g w, Below W0.heap.size W0 w → g < w.heap.size → w.cell? ⟨g, 0, none⟩ = some (.int .u64 (a 0)) → w.cell? ⟨g, 1, none⟩ = some (.int .u64 (a 1)) → w.cell? ⟨g, 2, none⟩ = some (.int .u64 (a 2)) → w.cell? ⟨g, 3, none⟩ = some (.int .u64 (a 3)) → w.cell? ⟨g, 4, none⟩ = some (.int .u64 (x 0)) → w.cell? ⟨g, 5, none⟩ = some (.int .u64 (x 1)) → w.cell? ⟨g, 6, none⟩ = some (.int .u64 (x 2)) → w.cell? ⟨g, 7, none⟩ = some (.int .u64 (x 3)) → Calls Tryd.prog 22 #[.slice (some ⟨g, 0, none⟩) 2 2] w fun e w' => e = .returned (.agg #[.int .u64 (u 0), .int .u64 (u 1), .int .u64 (u 2), .int .u64 (u 3)]) ∧ Below W0.heap.size W0 w'))
    (O2 : ∀ W0 : World, Hid (∀ g w, Below W0.heap.size W0 w → g < w.heap.size → w.cell? ⟨g, 0, none⟩ = some (.int .u64 (s 0)) → w.cell? ⟨g, 1, none⟩ = some (.int .u64 (s 1)) → w.cell? ⟨g, 2, none⟩ = some (.int .u64 (s 2)) → w.cell? ⟨g, 3, none⟩ = some (.int .u64 (s 3)) → w.cell? ⟨g, 4, none⟩ = some (.int .u64 (t 0)) → w.cell? ⟨g, 5, none⟩ = some (.int .u64 (t 1)) → w.cell? ⟨g, 6, none⟩ = some (.int .u64 (t 2)) → w.cell? ⟨g, 7, none⟩ = some (.int .u64 (t 3)) → Calls Tryd.prog 22 #[.slice (some ⟨g, 0, none⟩) 2 2] w fun e w' => e = .returned (.agg #[.int .u64 (y 0), .int .u64 (y 1), .int .u64 (y 2), .int .u64 (y 3)]) ∧ Below W0.heap.size W0 w')) :
    Calls Tryd.prog 8 #[.agg #[.int .u64 (a 0), .int .u64 (a 1), .int .u64 (a 2), .int .u64 (a 3)], .agg #[.int .u64 (b 0), .int .u64 (b 1), .int .u64 (b 2), .int .u64 (b 3)], .agg #[.int .u64 (c 0), .int .u64 (c 1), .int .u64 (c 2), .int .u64 (c 3)]] W fun e w' => e = .returned (.bool true) ∧ Below W.heap.size W w' := by
  have hle : (la : Int) ≤ (lu : Int) := by omega
  clear hn
  go_enter Tryd.func8, Tryd.ntmps8
  go_upto_region 2 with (go_at_call 9; (refine (A.out _ ((((Below.refl _ _).alloc (Nat.le_refl _) _).alloc (by simp) _).alloc (by simp; omega) _)).mono ?_); rintro e w1 ⟨rfl, hw1⟩; have F1 := Four.next hw1 (((Four.new W (a 0) (a 1) (a 2) (a 3) _).alloc _).alloc _); have G1 := Four.next hw1 ((Four.new (W.alloc _) (b 0) (b 1) (b 2) (b 3) _).alloc _); have H1 := Four.next hw1 (Four.new ((W.alloc _).alloc _) (c 0) (c 1) (c 2) (c 3) _); have B1 := below_next hw1 ((((Below.refl W.heap.size W).alloc (Nat.le_refl _) _).alloc (by simp) _).alloc (by simp; omega) _) (Nat.le_refl _); rw [World.size_alloc] at G1; rw [World.size_alloc, World.size_alloc] at H1; have F1 := Lib.hid F1; have G1 := Lib.hid G1; have H1 := Lib.hid H1; have B1 := Lib.hid B1; clear hw1)
  refine gen_world (fun v => Four v W.heap.size (a 0) (a 1) (a 2) (a 3) ∧ Four v (W.heap.size + 1) (b 0) (b 1) (b 2) (b 3) ∧ Four v (W.heap.size + 1 + 1) (c 0) (c 1) (c 2) (c 3) ∧ Below W.heap.size W v) ⟨F1.out, G1.out, H1.out, B1.out⟩ ?_
  clear F1 G1 H1 B1 A
  intro v1 ⟨f10, f11, f12, b1⟩
  have l0 := f10.lt
  have l1 := f11.lt
  have l2 := f12.lt
  obtain ⟨x0, x1, x2, x3, _, _, _, _⟩ := id f10
  obtain ⟨y0, y1, y2, y3, _, _, _, _⟩ := id f11
  obtain ⟨z0, z1, z2, z3, _, _, _, _⟩ := id f12
  go_upto_region 3 with (go_at_call 22; refine ((O3 v1).out _ _ ((Below.refl _ _).alloc (Nat.le_refl _) _) (by simp) (by simp) (by simp) (by simp) (by simp) (by simp) (by simp) (by simp) (by simp) (by simp) (by simp) (by simp) (by simp)).mono ?_; rintro e u1 ⟨rfl, hw⟩)
  refine gen_world (fun v => Four v W.heap.size (a 0) (a 1) (a 2) (a 3) ∧ Four v (W.heap.size + 1) (b 0) (b 1) (b 2) (b 3) ∧ Four v (W.heap.size + 1 + 1) (c 0) (c 1) (c 2) (c 3) ∧ Four v u1.heap.size (u 0) (u 1) (u 2) (u 3) ∧ Below W.heap.size W v) ⟨(f10.kept hw).alloc _, (f11.kept hw).alloc _, (f12.kept hw).alloc _, Four.new _ _ _ _ _ _, (b1.trans (hw.mono b1.size)).alloc (Nat.le_trans b1.size hw.size) _⟩ ?_
  intro W0 ⟨f20, f21, f22, f23, b2⟩
  clear hw b1 f10 f11 f12 l0 l1 l2 x0 x1 x2 x3 y0 y1 y2 y3 z0 z1 z2 z3
  generalize u1.heap.size = c4 at f23 ⊢
  have HB := Lib.hid b2
  have MK := Lib.hid (fun w' (h : Below W0.heap.size W0 w') => four_kept f20 f21 f22 f23 h)
  have r0 := Below.refl W0.heap.size W0
  have sx0 := r0.size
  have e1 := eq4_self (u 0) (u 1) (u 2) (u 3)
  have e2 := eq4_self (y 0) (y 1) (y 2) (y 3)
  have e3 := eq4_self (z 0) (z 1) (z 2) (z 3)
  have KM0 := M0 W0
  have KA0 := A0 W0
  have KA1 := A1 W0
  have KA2 := A2 W0
  have KM1 := M1 W0
  have KM2 := M2 W0
  have KM3 := M3 W0
  have KA3 := A3 W0
  have KL0 := L0 W0
  have KL1 := L1 W0
  have KO0 := O0 W0
  have KO1 := O1 W0
  have KO2 := O2 W0
  clear b2 f20 f21 f22 f23 O3 M0 A0 A1 A2 M1 M2 M3 A3 L0 L1 O0 O1 O2
  go_region_held3 (fun w' => Below W0.heap.size W0 w' ∧ w'.cell? ⟨W.heap.size, 0, none⟩ = some (.int .u64 (a 0)) ∧ w'.cell? ⟨W.heap.size, 1, none⟩ = some (.int .u64 (a 1)) ∧ w'.cell? ⟨W.heap.size, 2, none⟩ = some (.int .u64 (a 2)) ∧ w'.cell? ⟨W.heap.size, 3, none⟩ = some (.int .u64 (a 3)) ∧ w'.cell? ⟨W.heap.size + 1, 0, none⟩ = some (.int .u64 (b 0)) ∧ w'.cell? ⟨W.heap.size + 1, 1, none⟩ = some (.int .u64 (b 1)) ∧ w'.cell? ⟨W.heap.size + 1, 2, none⟩ = some (.int .u64 (b 2)) ∧ w'.cell? ⟨W.heap.size + 1, 3, none⟩ = some (.int .u64 (b 3)) ∧ w'.cell? ⟨W.heap.size + 1 + 1, 0, none⟩ = some (.int .u64 (c 0)) ∧ w'.cell? ⟨W.heap.size + 1 + 1, 1, none⟩ = some (.int .u64 (c 1)) ∧ w'.cell? ⟨W.heap.size + 1 + 1, 2, none⟩ = some (.int .u64 (c 2)) ∧ w'.cell? ⟨W.heap.size + 1 + 1, 3, none⟩ = some (.int .u64 (c 3)) ∧ w'.cell? ⟨c4, 0, none⟩ = some (.int .u64 (u 0)) ∧ w'.cell? ⟨c4, 1, none⟩ = some (.int .u64 (u 1)) ∧ w'.cell? ⟨c4, 2, none⟩ = some (.int .u64 (u 2)) ∧ w'.cell? ⟨c4, 3, none⟩ = some (.int .u64 (u 3))) (exact MK.out _ (by repeat (first | (with_reducible assumption) | refine Below.drew ?_ | refine Below.alloc ?_ (by first | omega | (simp; omega)) _))) (first | (go_at_call 24; (with_reducible refine (KA0.out _ (by repeat (first | (with_reducible assumption) | refine Below.drew ?_ | refine Below.alloc ?_ (by first | omega | (simp; omega)) _))).mono ?_); rintro e wx ⟨rfl, bx⟩; have sx := bx.size) | (go_at_call 24; (with_reducible refine (KA1.out _ (by repeat (first | (with_reducible assumption) | refine Below.drew ?_ | refine Below.alloc ?_ (by first | omega | (simp; omega)) _))).mono ?_); rintro e wx ⟨rfl, bx⟩; have sx := bx.size) | (go_at_call 24; (with_reducible refine (KA2.out _ (by repeat (first | (with_reducible assumption) | refine Below.drew ?_ | refine Below.alloc ?_ (by first | omega | (simp; omega)) _))).mono ?_); rintro e wx ⟨rfl, bx⟩; have sx := bx.size) | (go_at_call 24; (with_reducible refine (KA3.out _ (by repeat (first | (with_reducible assumption) | refine Below.drew ?_ | refine Below.alloc ?_ (by first | omega | (simp; omega)) _))).mono ?_); rintro e wx ⟨rfl, bx⟩; have sx := bx.size) | (go_at_call 26; (with_reducible refine (KM0.out _ (by repeat (first | (with_reducible assumption) | refine Below.drew ?_ | refine Below.alloc ?_ (by first | omega | (simp; omega)) _))).mono ?_); rintro e wx ⟨rfl, bx⟩; have sx := bx.size) | (go_at_call 26; (with_reducible refine (KM1.out _ (by repeat (first | (with_reducible assumption) | refine Below.drew ?_ | refine Below.alloc ?_ (by first | omega | (simp; omega)) _))).mono ?_); rintro e wx ⟨rfl, bx⟩; have sx := bx.size) | (go_at_call 26; (with_reducible refine (KM2.out _ (by repeat (first | (with_reducible assumption) | refine Below.drew ?_ | refine Below.alloc ?_ (by first | omega | (simp; omega)) _))).mono ?_); rintro e wx ⟨rfl, bx⟩; have sx := bx.size) | (go_at_call 26; (with_reducible refine (KM3.out _ (by repeat (first | (with_reducible assumption) | refine Below.drew ?_ | refine Below.alloc ?_ (by first | omega | (simp; omega)) _))).mono ?_); rintro e wx ⟨rfl, bx⟩; have sx := bx.size) | (go_at_call 28; (with_reducible refine (KL0.out _ (by repeat (first | (with_reducible assumption) | refine Below.drew ?_ | refine Below.alloc ?_ (by first | omega | (simp; omega)) _))).mono ?_); rintro e wx ⟨rfl, bx⟩; have sx := bx.size) | (go_at_call 28; (with_reducible refine (KL1.out _ (by repeat (first | (with_reducible assumption) | refine Below.drew ?_ | refine Below.alloc ?_ (by first | omega | (simp; omega)) _))).mono ?_); rintro e wx ⟨rfl, bx⟩; have sx := bx.size) | (go_at_call 22; (refine (KO0.out _ _ (by repeat (first | (with_reducible assumption) | refine Below.drew ?_ | refine Below.alloc ?_ (by first | omega | (simp; omega)) _)) ?_ ?_ ?_ ?_ ?_ ?_ ?_ ?_ ?_).mono ?_); (iterate 9 (focus (simp; done))); rintro e wx ⟨rfl, bx⟩; have sx := bx.size) | (go_at_call 22; (refine (KO1.out _ _ (by repeat (first | (with_reducible assumption) | refine Below.drew ?_ | refine Below.alloc ?_ (by first | omega | (simp; omega)) _)) ?_ ?_ ?_ ?_ ?_ ?_ ?_ ?_ ?_).mono ?_); (iterate 9 (focus (simp; done))); rintro e wx ⟨rfl, bx⟩; have sx := bx.size) | (go_at_call 22; (refine (KO2.out _ _ (by repeat (first | (with_reducible assumption) | refine Below.drew ?_ | refine Below.alloc ?_ (by first | omega | (simp; omega)) _)) ?_ ?_ ?_ ?_ ?_ ?_ ?_ ?_ ?_).mono ?_); (iterate 9 (focus (simp; done))); rintro e wx ⟨rfl, bx⟩; have sx := bx.size))
  go_wp2
  go_ret
  exact ⟨rfl, HB.out.trans (Below.mono (by with_reducible assumption) HB.out.size)⟩

theorem or_three (p q r : Nat → Bool) (W0 : World) (g : Nat) (w : World) (hb : Below W0.heap.size W0 w) (hg : g < w.heap.size)
    (h0 : w.cell? ⟨g, 0, none⟩ = some (.int .u64 (wd p 0))) (h1 : w.cell? ⟨g, 1, none⟩ = some (.int .u64 (wd p 1))) (h2 : w.cell? ⟨g, 2, none⟩ = some (.int .u64 (wd p 2))) (h3 : w.cell? ⟨g, 3, none⟩ = some (.int .u64 (wd p 3)))
    (h4 : w.cell? ⟨g, 4, none⟩ = some (.int .u64 (wd q 0))) (h5 : w.cell? ⟨g, 5, none⟩ = some (.int .u64 (wd q 1))) (h6 : w.cell? ⟨g, 6, none⟩ = some (.int .u64 (wd q 2))) (h7 : w.cell? ⟨g, 7, none⟩ = some (.int .u64 (wd q 3)))
    (h8 : w.cell? ⟨g, 8, none⟩ = some (.int .u64 (wd r 0))) (h9 : w.cell? ⟨g, 9, none⟩ = some (.int .u64 (wd r 1))) (h10 : w.cell? ⟨g, 10, none⟩ = some (.int .u64 (wd r 2))) (h11 : w.cell? ⟨g, 11, none⟩ = some (.int .u64 (wd r 3))) :
    Calls Tryd.prog 22 #[.slice (some ⟨g, 0, none⟩) 3 3] w fun e w' => e = .returned (.agg #[.int .u64 (wd (orP p (orP q r)) 0), .int .u64 (wd (orP p (orP q r)) 1), .int .u64 (wd (orP p (orP q r)) 2), .int .u64 (wd (orP p (orP q r)) 3)]) ∧ Below W0.heap.size W0 w' := by
  have h := or_any [p, q, r] (by simp) 3 (some ⟨g, 0, none⟩) w (.inr ⟨g, 0, rfl, hg, fun k hk => by
    rcases (show k = 0 ∨ k = 1 ∨ k = 2 by simp at hk; omega) with rfl | rfl | rfl
    · exact ⟨h0, h1, h2, h3⟩
    · exact ⟨h4, h5, h6, h7⟩
    · exact ⟨h8, h9, h10, h11⟩⟩)
  exact set_same_at (fun i _ => by simp [orN, orP, noneP, Bool.or_assoc]) (Calls.under hb (Nat.le_refl _) h)

theorem cnt_more (p q : Nat → Bool) : ∀ n, cntN p n ≤ cntN (orP p q) n
  | 0 => Nat.le_refl _
  | n + 1 => by
    have := cnt_more p q n
    simp only [cntN]
    have e : (if p n = true then 1 else 0) ≤ (if orP p q n = true then 1 else 0) := by unfold orP; cases p n <;> cases q n <;> decide
    omega

theorem shares_in (p q r : Nat → Bool) (W : World) (hT : Tab W) :
    Calls Tryd.prog 8 #[.agg #[.int .u64 (wd p 0), .int .u64 (wd p 1), .int .u64 (wd p 2), .int .u64 (wd p 3)], .agg #[.int .u64 (wd q 0), .int .u64 (wd q 1), .int .u64 (wd q 2), .int .u64 (wd q 3)], .agg #[.int .u64 (wd r 0), .int .u64 (wd r 1), .int .u64 (wd r 2), .int .u64 (wd r 3)]] W fun e w' => e = .returned (.bool true) ∧ Below W.heap.size W w' := by
  refine law_shares (wd p) (wd q) (wd r) (wd (orP p (orP q r))) (wd (orP q r)) (wd (minusP (orP q r) p)) (wd (andP p (orP q r))) (wd (andP p q)) (wd (andP p r)) (wd (minusP p (orP q r))) (wd (minusP p q)) (wd (minusP p r)) (cntN (orP p (orP q r)) 256) (cntN p 256) (cnt_more _ _ _) W (awake_under hT)
    (fun W0 => under W0 fun w => minus_any _ _ w) (fun W0 => under W0 fun w => and_any _ _ w) (fun W0 => under W0 fun w => and_any _ _ w) (fun W0 => under W0 fun w => and_any _ _ w)
    (fun W0 => under W0 fun w => minus_any _ _ w) (fun W0 => under W0 fun w => minus_any _ _ w) (fun W0 => under W0 fun w => minus_any _ _ w)
    (fun W0 => under W0 fun w => set_same (fun i _ => by simp only [andP, minusP, orP]; cases p i <;> cases q i <;> cases r i <;> rfl) (and_any (minusP p q) (minusP p r) w))
    (fun W0 => under W0 fun w => len_any _ w) (fun W0 => under W0 fun w => len_any _ w)
    (fun W0 => or_three p q r W0) (fun W0 => or_under q r W0)
    (fun W0 g w hb hg h0 h1 h2 h3 h4 h5 h6 h7 => set_same_at (fun i _ => by simp only [orP, minusP]; cases p i <;> cases q i <;> cases r i <;> rfl) (or_under p (minusP (orP q r) p) W0 g w hb hg h0 h1 h2 h3 h4 h5 h6 h7))
    (fun W0 g w hb hg h0 h1 h2 h3 h4 h5 h6 h7 => set_same_at (fun i _ => by simp only [orP, andP]; cases p i <;> cases q i <;> cases r i <;> rfl) (or_under (andP p q) (andP p r) W0 g w hb hg h0 h1 h2 h3 h4 h5 h6 h7))

theorem row_shares (W : World) (hT : Tab W) (z : List Int) (hz : z.length = 4) (hwz : ∀ x ∈ z, (Lit.int .u64 x).wf = true) (y : List Int) (hy : y.length = 4) (hwy : ∀ x ∈ y, (Lit.int .u64 x).wf = true) (x : List Int) (hx : x.length = 4) (hwx : ∀ n ∈ x, (Lit.int .u64 n).wf = true) :
    Calls Tryd.prog 8 #[.agg (z.map (Value.int .u64)).toArray, .agg (y.map (Value.int .u64)).toArray, .agg (x.map (Value.int .u64)).toArray] W fun e w' => e = .returned (.bool true) ∧ Below W.heap.size W w' := by
  obtain ⟨p, hp⟩ := set_in z hz hwz
  obtain ⟨q, hq⟩ := set_in y hy hwy
  obtain ⟨r, hr⟩ := set_in x hx hwx
  rw [hp, hq, hr]
  exact shares_in p q r W hT

end Go.Proofs.YtfffkfmgifamgaaDoor
