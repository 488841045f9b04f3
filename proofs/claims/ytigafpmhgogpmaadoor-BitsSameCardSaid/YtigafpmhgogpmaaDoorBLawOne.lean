/-
  The walk over the statement that a number that is put in is there, and one that is taken out is not.
-/
import Derived.Test.YtigafpmhgogpmaaDoorBRef6
import Derived.Deep.RegionHeld3
import Derived.Deep.CutBlock
import Derived.Deep.CutRange
import Derived.Deep.DeepCutAuto
import Derived.Deep.RegionLaw
namespace Go.Proofs.YtigafpmhgogpmaaDoor
open Go.RowKit
attribute [local go_sem] set_eq

theorem under {f : FuncId} {args : Array Value} {R : Ending → Prop} (W0 : World) (h : ∀ w, Calls Tryd.prog f args w fun e w' => R e ∧ Below w.heap.size w w') :
    ∀ w, Below W0.heap.size W0 w → Calls Tryd.prog f args w fun e w' => R e ∧ Below W0.heap.size W0 w' := fun w hb => Calls.under hb (Nat.le_refl _) (h w)

theorem has_out {p : Nat → Bool} {i : Int} : hasP (minusP p (oneP i)) i = false := by
  unfold hasP minusP oneP
  by_cases h : 0 ≤ i ∧ i ≤ 255
  · rw [decide_eq_true (show ((i.toNat : Nat) : Int) = i by omega)]; simp
  · rw [decide_eq_false h]; simp
theorem has_or_ne {p : Nat → Bool} {i k : Int} (h : k ≠ i) : hasP (orP p (oneP i)) k = hasP p k := by
  unfold hasP orP oneP
  by_cases h2 : 0 ≤ k ∧ k ≤ 255
  · rw [decide_eq_false (show ¬ ((k.toNat : Nat) : Int) = i by omega)]; simp
  · rw [decide_eq_false h2]; simp
theorem has_minus_ne {p : Nat → Bool} {i k : Int} (h : k ≠ i) : hasP (minusP p (oneP i)) k = hasP p k := by
  unfold hasP minusP oneP
  by_cases h2 : 0 ≤ k ∧ k ≤ 255
  · rw [decide_eq_false (show ¬ ((k.toNat : Nat) : Int) = i by omega)]; simp
  · rw [decide_eq_false h2]; simp
theorem has_in {p : Nat → Bool} {i : Int} (h0 : 0 ≤ i) (h1 : i ≤ 255) : hasP (orP p (oneP i)) i = true := by
  unfold hasP orP oneP
  rw [decide_eq_true (show ((i.toNat : Nat) : Int) = i by omega), decide_eq_true (⟨h0, h1⟩ : 0 ≤ i ∧ i ≤ 255)]; simp
theorem or_minus (p : Nat → Bool) (i : Int) (k : Nat) (_hk : k < 4) : wd (minusP (orP p (oneP i)) (oneP i)) k = wd (minusP p (oneP i)) k := natOf_congr fun j _ => by
  unfold minusP orP; cases oneP i (64 * k + j) <;> simp
theorem minus_or (p : Nat → Bool) (i : Int) (k : Nat) (_hk : k < 4) : wd (orP (minusP p (oneP i)) (oneP i)) k = wd (orP p (oneP i)) k := natOf_congr fun j _ => by
  unfold minusP orP; cases h : oneP i (64 * k + j) <;> simp [h]

/-- Three sets in three blocks. -/
def Trio (W0 : World) (b1 b2 b3 : Nat) (a x y : Nat → Nat) (w' : World) : Prop :=
  Below W0.heap.size W0 w' ∧ w'.cell? ⟨b1, 0, none⟩ = some (.int .u64 (a 0)) ∧ w'.cell? ⟨b1, 1, none⟩ = some (.int .u64 (a 1)) ∧ w'.cell? ⟨b1, 2, none⟩ = some (.int .u64 (a 2)) ∧ w'.cell? ⟨b1, 3, none⟩ = some (.int .u64 (a 3)) ∧
  w'.cell? ⟨b2, 0, none⟩ = some (.int .u64 (x 0)) ∧ w'.cell? ⟨b2, 1, none⟩ = some (.int .u64 (x 1)) ∧ w'.cell? ⟨b2, 2, none⟩ = some (.int .u64 (x 2)) ∧ w'.cell? ⟨b2, 3, none⟩ = some (.int .u64 (x 3)) ∧
  w'.cell? ⟨b3, 0, none⟩ = some (.int .u64 (y 0)) ∧ w'.cell? ⟨b3, 1, none⟩ = some (.int .u64 (y 1)) ∧ w'.cell? ⟨b3, 2, none⟩ = some (.int .u64 (y 2)) ∧ w'.cell? ⟨b3, 3, none⟩ = some (.int .u64 (y 3))
theorem Trio.mk {W0 w' : World} {b1 b2 b3 : Nat} {a x y : Nat → Nat} (h1 : Four W0 b1 (a 0) (a 1) (a 2) (a 3)) (h2 : Four W0 b2 (x 0) (x 1) (x 2) (x 3)) (h3 : Four W0 b3 (y 0) (y 1) (y 2) (y 3)) (hb : Below W0.heap.size W0 w') : Trio W0 b1 b2 b3 a x y w' := by
  have g1 := h1.kept hb; have g2 := h2.kept hb; have g3 := h3.kept hb
  exact ⟨hb, g1.c0, g1.c1, g1.c2, g1.c3, g2.c0, g2.c1, g2.c2, g2.c3, g3.c0, g3.c1, g3.c2, g3.c3⟩

/-- What the calls of the statement answer, in any world that has grown out of W0. -/
structure OneCalls (a x y : Nat → Nat) (i k : Int) (may b : Bool) (W0 : World) : Prop where
  h1 : ∀ w, Below W0.heap.size W0 w → Calls Tryd.prog 11 #[.agg #[.int .u64 (x 0), .int .u64 (x 1), .int .u64 (x 2), .int .u64 (x 3)], .int .i64 i] w fun e w' => e = .returned (.bool may) ∧ Below W0.heap.size W0 w'
  h2 : ∀ w, Below W0.heap.size W0 w → Calls Tryd.prog 11 #[.agg #[.int .u64 (y 0), .int .u64 (y 1), .int .u64 (y 2), .int .u64 (y 3)], .int .i64 i] w fun e w' => e = .returned (.bool false) ∧ Below W0.heap.size W0 w'
  h3 : k ≠ i → ∀ w, Below W0.heap.size W0 w → Calls Tryd.prog 11 #[.agg #[.int .u64 (x 0), .int .u64 (x 1), .int .u64 (x 2), .int .u64 (x 3)], .int .i64 k] w fun e w' => e = .returned (.bool b) ∧ Below W0.heap.size W0 w'
  h4 : ∀ w, Below W0.heap.size W0 w → Calls Tryd.prog 11 #[.agg #[.int .u64 (a 0), .int .u64 (a 1), .int .u64 (a 2), .int .u64 (a 3)], .int .i64 k] w fun e w' => e = .returned (.bool b) ∧ Below W0.heap.size W0 w'
  h5 : k ≠ i → ∀ w, Below W0.heap.size W0 w → Calls Tryd.prog 11 #[.agg #[.int .u64 (y 0), .int .u64 (y 1), .int .u64 (y 2), .int .u64 (y 3)], .int .i64 k] w fun e w' => e = .returned (.bool b) ∧ Below W0.heap.size W0 w'
  w3 : ∀ w, Below W0.heap.size W0 w → Calls Tryd.prog 15 #[.agg #[.int .u64 (x 0), .int .u64 (x 1), .int .u64 (x 2), .int .u64 (x 3)], .int .i64 i] w fun e w' => e = .returned (.agg #[.int .u64 (y 0), .int .u64 (y 1), .int .u64 (y 2), .int .u64 (y 3)]) ∧ Below W0.heap.size W0 w'
  w4 : ∀ w, Below W0.heap.size W0 w → Calls Tryd.prog 13 #[.agg #[.int .u64 (y 0), .int .u64 (y 1), .int .u64 (y 2), .int .u64 (y 3)], .int .i64 i] w fun e w' => e = .returned (.agg #[.int .u64 (x 0), .int .u64 (x 1), .int .u64 (x 2), .int .u64 (x 3)]) ∧ Below W0.heap.size W0 w'

set_option maxRecDepth 100000 in
set_option maxHeartbeats 4000000 in
theorem law_one (a x y : Nat → Nat) (i k : Int) (b : Bool) (W : World) (h0 : 0 ≤ i) (h255 : i ≤ 255)
    (A : Hid (∀ w, Below W.heap.size W w → Calls Tryd.prog 9 #[] w fun e w' => e = .returned (.bool true) ∧ Below w.heap.size w w'))
    (W1 : Hid (∀ w, Calls Tryd.prog 13 #[.agg #[.int .u64 (a 0), .int .u64 (a 1), .int .u64 (a 2), .int .u64 (a 3)], .int .i64 i] w fun e w' => e = .returned (.agg #[.int .u64 (x 0), .int .u64 (x 1), .int .u64 (x 2), .int .u64 (x 3)]) ∧ Below w.heap.size w w'))
    (W2 : Hid (∀ w, Calls Tryd.prog 15 #[.agg #[.int .u64 (a 0), .int .u64 (a 1), .int .u64 (a 2), .int .u64 (a 3)], .int .i64 i] w fun e w' => e = .returned (.agg #[.int .u64 (y 0), .int .u64 (y 1), .int .u64 (y 2), .int .u64 (y 3)]) ∧ Below w.heap.size w w'))
    (C : ∀ W0, Hid (OneCalls a x y i k true b W0)) :
    Calls Tryd.prog 6 #[.agg #[.int .u64 (a 0), .int .u64 (a 1), .int .u64 (a 2), .int .u64 (a 3)], .int .i64 i, .int .i64 k] W fun e w' => e = .returned (.bool true) ∧ Below W.heap.size W w' := by
  have HC := Lib.hid C
  clear C
  go_enter Tryd.func6, Tryd.ntmps6
  go_upto_region 5 with (first
    | (go_at_call 9; (refine (A.out _ ((Below.refl _ _).alloc (Nat.le_refl _) _)).mono ?_); rintro e w1 ⟨rfl, hw1⟩; have F1 := Lib.hid (Four.next hw1 (Four.new W (a 0) (a 1) (a 2) (a 3) _)); have B1 := Lib.hid (below_next hw1 ((Below.refl W.heap.size W).alloc (Nat.le_refl _) _) (Nat.le_refl _)); obtain ⟨a0, a1, a2, a3, _, _, _, _⟩ := F1.out; clear hw1)
    | (go_at_call 13; (refine (W1.out _).mono ?_); rintro e w2 ⟨rfl, hw2⟩; have F2 := Lib.hid ((Four.next hw2 F1.out).alloc (.cells #[.int .u64 (x 0), .int .u64 (x 1), .int .u64 (x 2), .int .u64 (x 3)] 24)); have X2 := Lib.hid (Four.new w2 (x 0) (x 1) (x 2) (x 3) 24); have B2 := Lib.hid ((below_next hw2 B1.out (Nat.le_refl _)).alloc (below_next hw2 B1.out (Nat.le_refl _)).size (.cells #[.int .u64 (x 0), .int .u64 (x 1), .int .u64 (x 2), .int .u64 (x 3)] 24)); obtain ⟨c0, c1, c2, c3, _, _, _, _⟩ := Four.next hw2 F1.out; have hl2 := (Four.next hw2 F1.out).lt; clear hw2)
    | (go_at_call 15; (refine (W2.out _).mono ?_); rintro e w3 ⟨rfl, hw3⟩; have F3 := Lib.hid (Four.next hw3 F2.out); have X3 := Lib.hid (Four.next hw3 X2.out); have B3 := Lib.hid (below_next hw3 B2.out (Nat.le_refl _)); clear hw3))
  refine gen_world (fun W0 => Four W0 W.heap.size (a 0) (a 1) (a 2) (a 3) ∧ Four W0 w2.heap.size (x 0) (x 1) (x 2) (x 3) ∧ Four W0 w3.heap.size (y 0) (y 1) (y 2) (y 3) ∧ Below W.heap.size W W0) ⟨F3.out.alloc _, X3.out.alloc _, Four.new _ _ _ _ _ _, B3.out.alloc B3.out.size _⟩ ?_
  intro W0 ⟨f1, f2, f3, hb⟩
  have HB := Lib.hid hb
  have MK := Lib.hid (fun w' (h : Below W0.heap.size W0 w') => Trio.mk f1 f2 f3 h)
  have T0 := MK.out W0 (Below.refl _ _)
  have R0 := Lib.hid (Below.refl W0.heap.size W0)
  have D := HC.out W0
  clear F1 F2 F3 X2 X3 B1 B2 B3 f1 f2 f3 hb A W1 W2 HC
  generalize w2.heap.size = b2 at MK T0 ⊢
  generalize w3.heap.size = b3 at MK T0 ⊢
  clear a0 a1 a2 a3 c0 c1 c2 c3
  obtain ⟨r0, q0, q1, q2, q3, q4, q5, q6, q7, q8, q9, q10, q11⟩ := T0
  have H1 := Lib.hid D.out.h1
  have H2 := Lib.hid D.out.h2
  have H4 := Lib.hid D.out.h4
  have W3 := Lib.hid D.out.w3
  have W4 := Lib.hid D.out.w4
  have e1 := eq4_self (x 0) (x 1) (x 2) (x 3)
  have e2 := eq4_self (y 0) (y 1) (y 2) (y 3)
  by_cases hk : k = i
  · subst hk
    clear D
    have e3 : (k != k) = false := by simp
    have e4 : (k == k) = true := by simp
    go_upto_region 7 with (first | (go_at_call 11; (with_reducible refine (H1.out _ (by repeat (first | (with_reducible assumption) | refine Below.drew ?_ | refine Below.alloc ?_ (by first | omega | (simp; omega)) _))).mono ?_); rintro e wx ⟨rfl, bx⟩; have sx := bx.size; obtain ⟨_, q0, q1, q2, q3, q4, q5, q6, q7, q8, q9, q10, q11⟩ := MK.out _ bx) | (go_at_call 11; (with_reducible refine (H2.out _ (by repeat (first | (with_reducible assumption) | refine Below.drew ?_ | refine Below.alloc ?_ (by first | omega | (simp; omega)) _))).mono ?_); rintro e wx ⟨rfl, bx⟩; have sx := bx.size; obtain ⟨_, q0, q1, q2, q3, q4, q5, q6, q7, q8, q9, q10, q11⟩ := MK.out _ bx))
    go_region
    go_upto_region 9 with (fail)
    go_region_held3 (fun w' => Below W0.heap.size W0 w' ∧ w'.cell? ⟨W.heap.size, 0, none⟩ = some (.int .u64 (a 0)) ∧ w'.cell? ⟨W.heap.size, 1, none⟩ = some (.int .u64 (a 1)) ∧ w'.cell? ⟨W.heap.size, 2, none⟩ = some (.int .u64 (a 2)) ∧ w'.cell? ⟨W.heap.size, 3, none⟩ = some (.int .u64 (a 3)) ∧ w'.cell? ⟨b2, 0, none⟩ = some (.int .u64 (x 0)) ∧ w'.cell? ⟨b2, 1, none⟩ = some (.int .u64 (x 1)) ∧ w'.cell? ⟨b2, 2, none⟩ = some (.int .u64 (x 2)) ∧ w'.cell? ⟨b2, 3, none⟩ = some (.int .u64 (x 3)) ∧ w'.cell? ⟨b3, 0, none⟩ = some (.int .u64 (y 0)) ∧ w'.cell? ⟨b3, 1, none⟩ = some (.int .u64 (y 1)) ∧ w'.cell? ⟨b3, 2, none⟩ = some (.int .u64 (y 2)) ∧ w'.cell? ⟨b3, 3, none⟩ = some (.int .u64 (y 3))) (exact MK.out _ (by repeat (first | (with_reducible assumption) | refine Below.drew ?_ | refine Below.alloc ?_ (by first | omega | (simp; omega)) _))) (first | (go_at_call 15; (with_reducible refine (W3.out _ (by repeat (first | (with_reducible assumption) | refine Below.drew ?_ | refine Below.alloc ?_ (by first | omega | (simp; omega)) _))).mono ?_); rintro e wx ⟨rfl, bx⟩; have sx := bx.size) | (go_at_call 13; (with_reducible refine (W4.out _ (by repeat (first | (with_reducible assumption) | refine Below.drew ?_ | refine Below.alloc ?_ (by first | omega | (simp; omega)) _))).mono ?_); rintro e wx ⟨rfl, bx⟩; have sx := bx.size))
    go_wp2
    go_ret
    exact ⟨rfl, HB.out.trans (Below.mono (by with_reducible assumption) HB.out.size)⟩
  · have H3 := Lib.hid (D.out.h3 hk)
    have H5 := Lib.hid (D.out.h5 hk)
    have e3 : (k == i) = false := by rw [beq_eq_false_iff_ne]; exact hk
    have e4 : (k != i) = true := by simp [bne, e3]
    clear D hk
    go_upto_region 7 with (first | (go_at_call 11; (with_reducible refine (H1.out _ (by repeat (first | (with_reducible assumption) | refine Below.drew ?_ | refine Below.alloc ?_ (by first | omega | (simp; omega)) _))).mono ?_); rintro e wx ⟨rfl, bx⟩; have sx := bx.size; obtain ⟨_, q0, q1, q2, q3, q4, q5, q6, q7, q8, q9, q10, q11⟩ := MK.out _ bx) | (go_at_call 11; (with_reducible refine (H2.out _ (by repeat (first | (with_reducible assumption) | refine Below.drew ?_ | refine Below.alloc ?_ (by first | omega | (simp; omega)) _))).mono ?_); rintro e wx ⟨rfl, bx⟩; have sx := bx.size; obtain ⟨_, q0, q1, q2, q3, q4, q5, q6, q7, q8, q9, q10, q11⟩ := MK.out _ bx))
    go_region_held3 (fun w' => Below W0.heap.size W0 w' ∧ w'.cell? ⟨W.heap.size, 0, none⟩ = some (.int .u64 (a 0)) ∧ w'.cell? ⟨W.heap.size, 1, none⟩ = some (.int .u64 (a 1)) ∧ w'.cell? ⟨W.heap.size, 2, none⟩ = some (.int .u64 (a 2)) ∧ w'.cell? ⟨W.heap.size, 3, none⟩ = some (.int .u64 (a 3)) ∧ w'.cell? ⟨b2, 0, none⟩ = some (.int .u64 (x 0)) ∧ w'.cell? ⟨b2, 1, none⟩ = some (.int .u64 (x 1)) ∧ w'.cell? ⟨b2, 2, none⟩ = some (.int .u64 (x 2)) ∧ w'.cell? ⟨b2, 3, none⟩ = some (.int .u64 (x 3)) ∧ w'.cell? ⟨b3, 0, none⟩ = some (.int .u64 (y 0)) ∧ w'.cell? ⟨b3, 1, none⟩ = some (.int .u64 (y 1)) ∧ w'.cell? ⟨b3, 2, none⟩ = some (.int .u64 (y 2)) ∧ w'.cell? ⟨b3, 3, none⟩ = some (.int .u64 (y 3))) (exact MK.out _ (by repeat (first | (with_reducible assumption) | refine Below.drew ?_ | refine Below.alloc ?_ (by first | omega | (simp; omega)) _))) (first | (go_at_call 11; (with_reducible refine (H3.out _ (by repeat (first | (with_reducible assumption) | refine Below.drew ?_ | refine Below.alloc ?_ (by first | omega | (simp; omega)) _))).mono ?_); rintro e wx ⟨rfl, bx⟩; have sx := bx.size) | (go_at_call 11; (with_reducible refine (H4.out _ (by repeat (first | (with_reducible assumption) | refine Below.drew ?_ | refine Below.alloc ?_ (by first | omega | (simp; omega)) _))).mono ?_); rintro e wx ⟨rfl, bx⟩; have sx := bx.size) | (go_at_call 11; (with_reducible refine (H5.out _ (by repeat (first | (with_reducible assumption) | refine Below.drew ?_ | refine Below.alloc ?_ (by first | omega | (simp; omega)) _))).mono ?_); rintro e wx ⟨rfl, bx⟩; have sx := bx.size))
    go_upto_region 9 with (fail)
    go_region_held3 (fun w' => Below W0.heap.size W0 w' ∧ w'.cell? ⟨W.heap.size, 0, none⟩ = some (.int .u64 (a 0)) ∧ w'.cell? ⟨W.heap.size, 1, none⟩ = some (.int .u64 (a 1)) ∧ w'.cell? ⟨W.heap.size, 2, none⟩ = some (.int .u64 (a 2)) ∧ w'.cell? ⟨W.heap.size, 3, none⟩ = some (.int .u64 (a 3)) ∧ w'.cell? ⟨b2, 0, none⟩ = some (.int .u64 (x 0)) ∧ w'.cell? ⟨b2, 1, none⟩ = some (.int .u64 (x 1)) ∧ w'.cell? ⟨b2, 2, none⟩ = some (.int .u64 (x 2)) ∧ w'.cell? ⟨b2, 3, none⟩ = some (.int .u64 (x 3)) ∧ w'.cell? ⟨b3, 0, none⟩ = some (.int .u64 (y 0)) ∧ w'.cell? ⟨b3, 1, none⟩ = some (.int .u64 (y 1)) ∧ w'.cell? ⟨b3, 2, none⟩ = some (.int .u64 (y 2)) ∧ w'.cell? ⟨b3, 3, none⟩ = some (.int .u64 (y 3))) (exact MK.out _ (by repeat (first | (with_reducible assumption) | refine Below.drew ?_ | refine Below.alloc ?_ (by first | omega | (simp; omega)) _))) (first | (go_at_call 15; (with_reducible refine (W3.out _ (by repeat (first | (with_reducible assumption) | refine Below.drew ?_ | refine Below.alloc ?_ (by first | omega | (simp; omega)) _))).mono ?_); rintro e wx ⟨rfl, bx⟩; have sx := bx.size) | (go_at_call 13; (with_reducible refine (W4.out _ (by repeat (first | (with_reducible assumption) | refine Below.drew ?_ | refine Below.alloc ?_ (by first | omega | (simp; omega)) _))).mono ?_); rintro e wx ⟨rfl, bx⟩; have sx := bx.size))
    go_wp2
    go_ret
    exact ⟨rfl, HB.out.trans (Below.mono (by with_reducible assumption) HB.out.size)⟩

set_option maxRecDepth 100000 in
set_option maxHeartbeats 4000000 in
theorem law_one_low (a : Nat → Nat) (i k : Int) (b : Bool) (W : World) (h0 : i < 0)
    (A : Hid (∀ w, Below W.heap.size W w → Calls Tryd.prog 9 #[] w fun e w' => e = .returned (.bool true) ∧ Below w.heap.size w w'))
    (W1 : Hid (∀ w, Calls Tryd.prog 13 #[.agg #[.int .u64 (a 0), .int .u64 (a 1), .int .u64 (a 2), .int .u64 (a 3)], .int .i64 i] w fun e w' => e = .returned (.agg #[.int .u64 (a 0), .int .u64 (a 1), .int .u64 (a 2), .int .u64 (a 3)]) ∧ Below w.heap.size w w'))
    (W2 : Hid (∀ w, Calls Tryd.prog 15 #[.agg #[.int .u64 (a 0), .int .u64 (a 1), .int .u64 (a 2), .int .u64 (a 3)], .int .i64 i] w fun e w' => e = .returned (.agg #[.int .u64 (a 0), .int .u64 (a 1), .int .u64 (a 2), .int .u64 (a 3)]) ∧ Below w.heap.size w w'))
    (C : ∀ W0, Hid (OneCalls a a a i k false b W0)) :
    Calls Tryd.prog 6 #[.agg #[.int .u64 (a 0), .int .u64 (a 1), .int .u64 (a 2), .int .u64 (a 3)], .int .i64 i, .int .i64 k] W fun e w' => e = .returned (.bool true) ∧ Below W.heap.size W w' := by
  have HC := Lib.hid C
  clear C
  go_enter Tryd.func6, Tryd.ntmps6
  go_upto_region 5 with (first
    | (go_at_call 9; (refine (A.out _ ((Below.refl _ _).alloc (Nat.le_refl _) _)).mono ?_); rintro e w1 ⟨rfl, hw1⟩; have F1 := Lib.hid (Four.next hw1 (Four.new W (a 0) (a 1) (a 2) (a 3) _)); have B1 := Lib.hid (below_next hw1 ((Below.refl W.heap.size W).alloc (Nat.le_refl _) _) (Nat.le_refl _)); obtain ⟨a0, a1, a2, a3, _, _, _, _⟩ := F1.out; clear hw1)
    | (go_at_call 13; (refine (W1.out _).mono ?_); rintro e w2 ⟨rfl, hw2⟩; have F2 := Lib.hid ((Four.next hw2 F1.out).alloc (.cells #[.int .u64 (a 0), .int .u64 (a 1), .int .u64 (a 2), .int .u64 (a 3)] 24)); have X2 := Lib.hid (Four.new w2 (a 0) (a 1) (a 2) (a 3) 24); have B2 := Lib.hid ((below_next hw2 B1.out (Nat.le_refl _)).alloc (below_next hw2 B1.out (Nat.le_refl _)).size (.cells #[.int .u64 (a 0), .int .u64 (a 1), .int .u64 (a 2), .int .u64 (a 3)] 24)); obtain ⟨c0, c1, c2, c3, _, _, _, _⟩ := Four.next hw2 F1.out; have hl2 := (Four.next hw2 F1.out).lt; clear hw2)
    | (go_at_call 15; (refine (W2.out _).mono ?_); rintro e w3 ⟨rfl, hw3⟩; have F3 := Lib.hid (Four.next hw3 F2.out); have X3 := Lib.hid (Four.next hw3 X2.out); have B3 := Lib.hid (below_next hw3 B2.out (Nat.le_refl _)); clear hw3))
  refine gen_world (fun W0 => Four W0 W.heap.size (a 0) (a 1) (a 2) (a 3) ∧ Four W0 w2.heap.size (a 0) (a 1) (a 2) (a 3) ∧ Four W0 w3.heap.size (a 0) (a 1) (a 2) (a 3) ∧ Below W.heap.size W W0) ⟨F3.out.alloc _, X3.out.alloc _, Four.new _ _ _ _ _ _, B3.out.alloc B3.out.size _⟩ ?_
  intro W0 ⟨f1, f2, f3, hb⟩
  have HB := Lib.hid hb
  have MK := Lib.hid (fun w' (h : Below W0.heap.size W0 w') => Trio.mk f1 f2 f3 h)
  have T0 := MK.out W0 (Below.refl _ _)
  have R0 := Lib.hid (Below.refl W0.heap.size W0)
  have D := HC.out W0
  clear F1 F2 F3 X2 X3 B1 B2 B3 f1 f2 f3 hb A W1 W2 HC
  generalize w2.heap.size = b2 at MK T0 ⊢
  generalize w3.heap.size = b3 at MK T0 ⊢
  clear a0 a1 a2 a3 c0 c1 c2 c3
  obtain ⟨r0, q0, q1, q2, q3, q4, q5, q6, q7, q8, q9, q10, q11⟩ := T0
  have H1 := Lib.hid D.out.h1
  have H2 := Lib.hid D.out.h2
  have H4 := Lib.hid D.out.h4
  have W3 := Lib.hid D.out.w3
  have W4 := Lib.hid D.out.w4
  have e1 := eq4_self (a 0) (a 1) (a 2) (a 3)
  have e2 := eq4_self (a 0) (a 1) (a 2) (a 3)
  by_cases hk : k = i
  · subst hk
    clear D
    have e3 : (k != k) = false := by simp
    have e4 : (k == k) = true := by simp
    go_upto_region 7 with (first | (go_at_call 11; (with_reducible refine (H1.out _ (by repeat (first | (with_reducible assumption) | refine Below.drew ?_ | refine Below.alloc ?_ (by first | omega | (simp; omega)) _))).mono ?_); rintro e wx ⟨rfl, bx⟩; have sx := bx.size; obtain ⟨_, q0, q1, q2, q3, q4, q5, q6, q7, q8, q9, q10, q11⟩ := MK.out _ bx) | (go_at_call 11; (with_reducible refine (H2.out _ (by repeat (first | (with_reducible assumption) | refine Below.drew ?_ | refine Below.alloc ?_ (by first | omega | (simp; omega)) _))).mono ?_); rintro e wx ⟨rfl, bx⟩; have sx := bx.size; obtain ⟨_, q0, q1, q2, q3, q4, q5, q6, q7, q8, q9, q10, q11⟩ := MK.out _ bx))
    go_region
    go_upto_region 9 with (fail)
    go_region_held3 (fun w' => Below W0.heap.size W0 w' ∧ w'.cell? ⟨W.heap.size, 0, none⟩ = some (.int .u64 (a 0)) ∧ w'.cell? ⟨W.heap.size, 1, none⟩ = some (.int .u64 (a 1)) ∧ w'.cell? ⟨W.heap.size, 2, none⟩ = some (.int .u64 (a 2)) ∧ w'.cell? ⟨W.heap.size, 3, none⟩ = some (.int .u64 (a 3)) ∧ w'.cell? ⟨b2, 0, none⟩ = some (.int .u64 (a 0)) ∧ w'.cell? ⟨b2, 1, none⟩ = some (.int .u64 (a 1)) ∧ w'.cell? ⟨b2, 2, none⟩ = some (.int .u64 (a 2)) ∧ w'.cell? ⟨b2, 3, none⟩ = some (.int .u64 (a 3)) ∧ w'.cell? ⟨b3, 0, none⟩ = some (.int .u64 (a 0)) ∧ w'.cell? ⟨b3, 1, none⟩ = some (.int .u64 (a 1)) ∧ w'.cell? ⟨b3, 2, none⟩ = some (.int .u64 (a 2)) ∧ w'.cell? ⟨b3, 3, none⟩ = some (.int .u64 (a 3))) (exact MK.out _ (by repeat (first | (with_reducible assumption) | refine Below.drew ?_ | refine Below.alloc ?_ (by first | omega | (simp; omega)) _))) (first | (go_at_call 15; (with_reducible refine (W3.out _ (by repeat (first | (with_reducible assumption) | refine Below.drew ?_ | refine Below.alloc ?_ (by first | omega | (simp; omega)) _))).mono ?_); rintro e wx ⟨rfl, bx⟩; have sx := bx.size) | (go_at_call 13; (with_reducible refine (W4.out _ (by repeat (first | (with_reducible assumption) | refine Below.drew ?_ | refine Below.alloc ?_ (by first | omega | (simp; omega)) _))).mono ?_); rintro e wx ⟨rfl, bx⟩; have sx := bx.size))
    go_wp2
    go_ret
    exact ⟨rfl, HB.out.trans (Below.mono (by with_reducible assumption) HB.out.size)⟩
  · have H3 := Lib.hid (D.out.h3 hk)
    have H5 := Lib.hid (D.out.h5 hk)
    have e3 : (k == i) = false := by rw [beq_eq_false_iff_ne]; exact hk
    have e4 : (k != i) = true := by simp [bne, e3]
    clear D hk
    go_upto_region 7 with (first | (go_at_call 11; (with_reducible refine (H1.out _ (by repeat (first | (with_reducible assumption) | refine Below.drew ?_ | refine Below.alloc ?_ (by first | omega | (simp; omega)) _))).mono ?_); rintro e wx ⟨rfl, bx⟩; have sx := bx.size; obtain ⟨_, q0, q1, q2, q3, q4, q5, q6, q7, q8, q9, q10, q11⟩ := MK.out _ bx) | (go_at_call 11; (with_reducible refine (H2.out _ (by repeat (first | (with_reducible assumption) | refine Below.drew ?_ | refine Below.alloc ?_ (by first | omega | (simp; omega)) _))).mono ?_); rintro e wx ⟨rfl, bx⟩; have sx := bx.size; obtain ⟨_, q0, q1, q2, q3, q4, q5, q6, q7, q8, q9, q10, q11⟩ := MK.out _ bx))
    go_region_held3 (fun w' => Below W0.heap.size W0 w' ∧ w'.cell? ⟨W.heap.size, 0, none⟩ = some (.int .u64 (a 0)) ∧ w'.cell? ⟨W.heap.size, 1, none⟩ = some (.int .u64 (a 1)) ∧ w'.cell? ⟨W.heap.size, 2, none⟩ = some (.int .u64 (a 2)) ∧ w'.cell? ⟨W.heap.size, 3, none⟩ = some (.int .u64 (a 3)) ∧ w'.cell? ⟨b2, 0, none⟩ = some (.int .u64 (a 0)) ∧ w'.cell? ⟨b2, 1, none⟩ = some (.int .u64 (a 1)) ∧ w'.cell? ⟨b2, 2, none⟩ = some (.int .u64 (a 2)) ∧ w'.cell? ⟨b2, 3, none⟩ = some (.int .u64 (a 3)) ∧ w'.cell? ⟨b3, 0, none⟩ = some (.int .u64 (a 0)) ∧ w'.cell? ⟨b3, 1, none⟩ = some (.int .u64 (a 1)) ∧ w'.cell? ⟨b3, 2, none⟩ = some (.int .u64 (a 2)) ∧ w'.cell? ⟨b3, 3, none⟩ = some (.int .u64 (a 3))) (exact MK.out _ (by repeat (first | (with_reducible assumption) | refine Below.drew ?_ | refine Below.alloc ?_ (by first | omega | (simp; omega)) _))) (first | (go_at_call 11; (with_reducible refine (H3.out _ (by repeat (first | (with_reducible assumption) | refine Below.drew ?_ | refine Below.alloc ?_ (by first | omega | (simp; omega)) _))).mono ?_); rintro e wx ⟨rfl, bx⟩; have sx := bx.size) | (go_at_call 11; (with_reducible refine (H4.out _ (by repeat (first | (with_reducible assumption) | refine Below.drew ?_ | refine Below.alloc ?_ (by first | omega | (simp; omega)) _))).mono ?_); rintro e wx ⟨rfl, bx⟩; have sx := bx.size) | (go_at_call 11; (with_reducible refine (H5.out _ (by repeat (first | (with_reducible assumption) | refine Below.drew ?_ | refine Below.alloc ?_ (by first | omega | (simp; omega)) _))).mono ?_); rintro e wx ⟨rfl, bx⟩; have sx := bx.size))
    go_upto_region 9 with (fail)
    go_region_held3 (fun w' => Below W0.heap.size W0 w' ∧ w'.cell? ⟨W.heap.size, 0, none⟩ = some (.int .u64 (a 0)) ∧ w'.cell? ⟨W.heap.size, 1, none⟩ = some (.int .u64 (a 1)) ∧ w'.cell? ⟨W.heap.size, 2, none⟩ = some (.int .u64 (a 2)) ∧ w'.cell? ⟨W.heap.size, 3, none⟩ = some (.int .u64 (a 3)) ∧ w'.cell? ⟨b2, 0, none⟩ = some (.int .u64 (a 0)) ∧ w'.cell? ⟨b2, 1, none⟩ = some (.int .u64 (a 1)) ∧ w'.cell? ⟨b2, 2, none⟩ = some (.int .u64 (a 2)) ∧ w'.cell? ⟨b2, 3, none⟩ = some (.int .u64 (a 3)) ∧ w'.cell? ⟨b3, 0, none⟩ = some (.int .u64 (a 0)) ∧ w'.cell? ⟨b3, 1, none⟩ = some (.int .u64 (a 1)) ∧ w'.cell? ⟨b3, 2, none⟩ = some (.int .u64 (a 2)) ∧ w'.cell? ⟨b3, 3, none⟩ = some (.int .u64 (a 3))) (exact MK.out _ (by repeat (first | (with_reducible assumption) | refine Below.drew ?_ | refine Below.alloc ?_ (by first | omega | (simp; omega)) _))) (first | (go_at_call 15; (with_reducible refine (W3.out _ (by repeat (first | (with_reducible assumption) | refine Below.drew ?_ | refine Below.alloc ?_ (by first | omega | (simp; omega)) _))).mono ?_); rintro e wx ⟨rfl, bx⟩; have sx := bx.size) | (go_at_call 13; (with_reducible refine (W4.out _ (by repeat (first | (with_reducible assumption) | refine Below.drew ?_ | refine Below.alloc ?_ (by first | omega | (simp; omega)) _))).mono ?_); rintro e wx ⟨rfl, bx⟩; have sx := bx.size))
    go_wp2
    go_ret
    exact ⟨rfl, HB.out.trans (Below.mono (by with_reducible assumption) HB.out.size)⟩

set_option maxRecDepth 100000 in
set_option maxHeartbeats 4000000 in
theorem law_one_high (a : Nat → Nat) (i k : Int) (b : Bool) (W : World) (h0 : 0 ≤ i) (h255 : 255 < i)
    (A : Hid (∀ w, Below W.heap.size W w → Calls Tryd.prog 9 #[] w fun e w' => e = .returned (.bool true) ∧ Below w.heap.size w w'))
    (W1 : Hid (∀ w, Calls Tryd.prog 13 #[.agg #[.int .u64 (a 0), .int .u64 (a 1), .int .u64 (a 2), .int .u64 (a 3)], .int .i64 i] w fun e w' => e = .returned (.agg #[.int .u64 (a 0), .int .u64 (a 1), .int .u64 (a 2), .int .u64 (a 3)]) ∧ Below w.heap.size w w'))
    (W2 : Hid (∀ w, Calls Tryd.prog 15 #[.agg #[.int .u64 (a 0), .int .u64 (a 1), .int .u64 (a 2), .int .u64 (a 3)], .int .i64 i] w fun e w' => e = .returned (.agg #[.int .u64 (a 0), .int .u64 (a 1), .int .u64 (a 2), .int .u64 (a 3)]) ∧ Below w.heap.size w w'))
    (C : ∀ W0, Hid (OneCalls a a a i k false b W0)) :
    Calls Tryd.prog 6 #[.agg #[.int .u64 (a 0), .int .u64 (a 1), .int .u64 (a 2), .int .u64 (a 3)], .int .i64 i, .int .i64 k] W fun e w' => e = .returned (.bool true) ∧ Below W.heap.size W w' := by
  have HC := Lib.hid C
  clear C
  go_enter Tryd.func6, Tryd.ntmps6
  go_upto_region 5 with (first
    | (go_at_call 9; (refine (A.out _ ((Below.refl _ _).alloc (Nat.le_refl _) _)).mono ?_); rintro e w1 ⟨rfl, hw1⟩; have F1 := Lib.hid (Four.next hw1 (Four.new W (a 0) (a 1) (a 2) (a 3) _)); have B1 := Lib.hid (below_next hw1 ((Below.refl W.heap.size W).alloc (Nat.le_refl _) _) (Nat.le_refl _)); obtain ⟨a0, a1, a2, a3, _, _, _, _⟩ := F1.out; clear hw1)
    | (go_at_call 13; (refine (W1.out _).mono ?_); rintro e w2 ⟨rfl, hw2⟩; have F2 := Lib.hid ((Four.next hw2 F1.out).alloc (.cells #[.int .u64 (a 0), .int .u64 (a 1), .int .u64 (a 2), .int .u64 (a 3)] 24)); have X2 := Lib.hid (Four.new w2 (a 0) (a 1) (a 2) (a 3) 24); have B2 := Lib.hid ((below_next hw2 B1.out (Nat.le_refl _)).alloc (below_next hw2 B1.out (Nat.le_refl _)).size (.cells #[.int .u64 (a 0), .int .u64 (a 1), .int .u64 (a 2), .int .u64 (a 3)] 24)); obtain ⟨c0, c1, c2, c3, _, _, _, _⟩ := Four.next hw2 F1.out; have hl2 := (Four.next hw2 F1.out).lt; clear hw2)
    | (go_at_call 15; (refine (W2.out _).mono ?_); rintro e w3 ⟨rfl, hw3⟩; have F3 := Lib.hid (Four.next hw3 F2.out); have X3 := Lib.hid (Four.next hw3 X2.out); have B3 := Lib.hid (below_next hw3 B2.out (Nat.le_refl _)); clear hw3))
  refine gen_world (fun W0 => Four W0 W.heap.size (a 0) (a 1) (a 2) (a 3) ∧ Four W0 w2.heap.size (a 0) (a 1) (a 2) (a 3) ∧ Four W0 w3.heap.size (a 0) (a 1) (a 2) (a 3) ∧ Below W.heap.size W W0) ⟨F3.out.alloc _, X3.out.alloc _, Four.new _ _ _ _ _ _, B3.out.alloc B3.out.size _⟩ ?_
  intro W0 ⟨f1, f2, f3, hb⟩
  have HB := Lib.hid hb
  have MK := Lib.hid (fun w' (h : Below W0.heap.size W0 w') => Trio.mk f1 f2 f3 h)
  have T0 := MK.out W0 (Below.refl _ _)
  have R0 := Lib.hid (Below.refl W0.heap.size W0)
  have D := HC.out W0
  clear F1 F2 F3 X2 X3 B1 B2 B3 f1 f2 f3 hb A W1 W2 HC
  generalize w2.heap.size = b2 at MK T0 ⊢
  generalize w3.heap.size = b3 at MK T0 ⊢
  clear a0 a1 a2 a3 c0 c1 c2 c3
  obtain ⟨r0, q0, q1, q2, q3, q4, q5, q6, q7, q8, q9, q10, q11⟩ := T0
  have H1 := Lib.hid D.out.h1
  have H2 := Lib.hid D.out.h2
  have H4 := Lib.hid D.out.h4
  have W3 := Lib.hid D.out.w3
  have W4 := Lib.hid D.out.w4
  have e1 := eq4_self (a 0) (a 1) (a 2) (a 3)
  have e2 := eq4_self (a 0) (a 1) (a 2) (a 3)
  by_cases hk : k = i
  · subst hk
    clear D
    have e3 : (k != k) = false := by simp
    have e4 : (k == k) = true := by simp
    go_upto_region 7 with (first | (go_at_call 11; (with_reducible refine (H1.out _ (by repeat (first | (with_reducible assumption) | refine Below.drew ?_ | refine Below.alloc ?_ (by first | omega | (simp; omega)) _))).mono ?_); rintro e wx ⟨rfl, bx⟩; have sx := bx.size; obtain ⟨_, q0, q1, q2, q3, q4, q5, q6, q7, q8, q9, q10, q11⟩ := MK.out _ bx) | (go_at_call 11; (with_reducible refine (H2.out _ (by repeat (first | (with_reducible assumption) | refine Below.drew ?_ | refine Below.alloc ?_ (by first | omega | (simp; omega)) _))).mono ?_); rintro e wx ⟨rfl, bx⟩; have sx := bx.size; obtain ⟨_, q0, q1, q2, q3, q4, q5, q6, q7, q8, q9, q10, q11⟩ := MK.out _ bx))
    go_region
    go_upto_region 9 with (fail)
    go_region_held3 (fun w' => Below W0.heap.size W0 w' ∧ w'.cell? ⟨W.heap.size, 0, none⟩ = some (.int .u64 (a 0)) ∧ w'.cell? ⟨W.heap.size, 1, none⟩ = some (.int .u64 (a 1)) ∧ w'.cell? ⟨W.heap.size, 2, none⟩ = some (.int .u64 (a 2)) ∧ w'.cell? ⟨W.heap.size, 3, none⟩ = some (.int .u64 (a 3)) ∧ w'.cell? ⟨b2, 0, none⟩ = some (.int .u64 (a 0)) ∧ w'.cell? ⟨b2, 1, none⟩ = some (.int .u64 (a 1)) ∧ w'.cell? ⟨b2, 2, none⟩ = some (.int .u64 (a 2)) ∧ w'.cell? ⟨b2, 3, none⟩ = some (.int .u64 (a 3)) ∧ w'.cell? ⟨b3, 0, none⟩ = some (.int .u64 (a 0)) ∧ w'.cell? ⟨b3, 1, none⟩ = some (.int .u64 (a 1)) ∧ w'.cell? ⟨b3, 2, none⟩ = some (.int .u64 (a 2)) ∧ w'.cell? ⟨b3, 3, none⟩ = some (.int .u64 (a 3))) (exact MK.out _ (by repeat (first | (with_reducible assumption) | refine Below.drew ?_ | refine Below.alloc ?_ (by first | omega | (simp; omega)) _))) (first | (go_at_call 15; (with_reducible refine (W3.out _ (by repeat (first | (with_reducible assumption) | refine Below.drew ?_ | refine Below.alloc ?_ (by first | omega | (simp; omega)) _))).mono ?_); rintro e wx ⟨rfl, bx⟩; have sx := bx.size) | (go_at_call 13; (with_reducible refine (W4.out _ (by repeat (first | (with_reducible assumption) | refine Below.drew ?_ | refine Below.alloc ?_ (by first | omega | (simp; omega)) _))).mono ?_); rintro e wx ⟨rfl, bx⟩; have sx := bx.size))
    go_wp2
    go_ret
    exact ⟨rfl, HB.out.trans (Below.mono (by with_reducible assumption) HB.out.size)⟩
  · have H3 := Lib.hid (D.out.h3 hk)
    have H5 := Lib.hid (D.out.h5 hk)
    have e3 : (k == i) = false := by rw [beq_eq_false_iff_ne]; exact hk
    have e4 : (k != i) = true := by simp [bne, e3]
    clear D hk
    go_upto_region 7 with (first | (go_at_call 11; (with_reducible refine (H1.out _ (by repeat (first | (with_reducible assumption) | refine Below.drew ?_ | refine Below.alloc ?_ (by first | omega | (simp; omega)) _))).mono ?_); rintro e wx ⟨rfl, bx⟩; have sx := bx.size; obtain ⟨_, q0, q1, q2, q3, q4, q5, q6, q7, q8, q9, q10, q11⟩ := MK.out _ bx) | (go_at_call 11; (with_reducible refine (H2.out _ (by repeat (first | (with_reducible assumption) | refine Below.drew ?_ | refine Below.alloc ?_ (by first | omega | (simp; omega)) _))).mono ?_); rintro e wx ⟨rfl, bx⟩; have sx := bx.size; obtain ⟨_, q0, q1, q2, q3, q4, q5, q6, q7, q8, q9, q10, q11⟩ := MK.out _ bx))
    go_region_held3 (fun w' => Below W0.heap.size W0 w' ∧ w'.cell? ⟨W.heap.size, 0, none⟩ = some (.int .u64 (a 0)) ∧ w'.cell? ⟨W.heap.size, 1, none⟩ = some (.int .u64 (a 1)) ∧ w'.cell? ⟨W.heap.size, 2, none⟩ = some (.int .u64 (a 2)) ∧ w'.cell? ⟨W.heap.size, 3, none⟩ = some (.int .u64 (a 3)) ∧ w'.cell? ⟨b2, 0, none⟩ = some (.int .u64 (a 0)) ∧ w'.cell? ⟨b2, 1, none⟩ = some (.int .u64 (a 1)) ∧ w'.cell? ⟨b2, 2, none⟩ = some (.int .u64 (a 2)) ∧ w'.cell? ⟨b2, 3, none⟩ = some (.int .u64 (a 3)) ∧ w'.cell? ⟨b3, 0, none⟩ = some (.int .u64 (a 0)) ∧ w'.cell? ⟨b3, 1, none⟩ = some (.int .u64 (a 1)) ∧ w'.cell? ⟨b3, 2, none⟩ = some (.int .u64 (a 2)) ∧ w'.cell? ⟨b3, 3, none⟩ = some (.int .u64 (a 3))) (exact MK.out _ (by repeat (first | (with_reducible assumption) | refine Below.drew ?_ | refine Below.alloc ?_ (by first | omega | (simp; omega)) _))) (first | (go_at_call 11; (with_reducible refine (H3.out _ (by repeat (first | (with_reducible assumption) | refine Below.drew ?_ | refine Below.alloc ?_ (by first | omega | (simp; omega)) _))).mono ?_); rintro e wx ⟨rfl, bx⟩; have sx := bx.size) | (go_at_call 11; (with_reducible refine (H4.out _ (by repeat (first | (with_reducible assumption) | refine Below.drew ?_ | refine Below.alloc ?_ (by first | omega | (simp; omega)) _))).mono ?_); rintro e wx ⟨rfl, bx⟩; have sx := bx.size) | (go_at_call 11; (with_reducible refine (H5.out _ (by repeat (first | (with_reducible assumption) | refine Below.drew ?_ | refine Below.alloc ?_ (by first | omega | (simp; omega)) _))).mono ?_); rintro e wx ⟨rfl, bx⟩; have sx := bx.size))
    go_upto_region 9 with (fail)
    go_region_held3 (fun w' => Below W0.heap.size W0 w' ∧ w'.cell? ⟨W.heap.size, 0, none⟩ = some (.int .u64 (a 0)) ∧ w'.cell? ⟨W.heap.size, 1, none⟩ = some (.int .u64 (a 1)) ∧ w'.cell? ⟨W.heap.size, 2, none⟩ = some (.int .u64 (a 2)) ∧ w'.cell? ⟨W.heap.size, 3, none⟩ = some (.int .u64 (a 3)) ∧ w'.cell? ⟨b2, 0, none⟩ = some (.int .u64 (a 0)) ∧ w'.cell? ⟨b2, 1, none⟩ = some (.int .u64 (a 1)) ∧ w'.cell? ⟨b2, 2, none⟩ = some (.int .u64 (a 2)) ∧ w'.cell? ⟨b2, 3, none⟩ = some (.int .u64 (a 3)) ∧ w'.cell? ⟨b3, 0, none⟩ = some (.int .u64 (a 0)) ∧ w'.cell? ⟨b3, 1, none⟩ = some (.int .u64 (a 1)) ∧ w'.cell? ⟨b3, 2, none⟩ = some (.int .u64 (a 2)) ∧ w'.cell? ⟨b3, 3, none⟩ = some (.int .u64 (a 3))) (exact MK.out _ (by repeat (first | (with_reducible assumption) | refine Below.drew ?_ | refine Below.alloc ?_ (by first | omega | (simp; omega)) _))) (first | (go_at_call 15; (with_reducible refine (W3.out _ (by repeat (first | (with_reducible assumption) | refine Below.drew ?_ | refine Below.alloc ?_ (by first | omega | (simp; omega)) _))).mono ?_); rintro e wx ⟨rfl, bx⟩; have sx := bx.size) | (go_at_call 13; (with_reducible refine (W4.out _ (by repeat (first | (with_reducible assumption) | refine Below.drew ?_ | refine Below.alloc ?_ (by first | omega | (simp; omega)) _))).mono ?_); rintro e wx ⟨rfl, bx⟩; have sx := bx.size))
    go_wp2
    go_ret
    exact ⟨rfl, HB.out.trans (Below.mono (by with_reducible assumption) HB.out.size)⟩


theorem one_calls (p : Nat → Bool) (i k : Int) (hi : i ≤ 9223372036854775807) (hk : k ≤ 9223372036854775807) (W0 : World) :
    OneCalls (wd p) (wd (orP p (oneP i))) (wd (minusP p (oneP i))) i k (hasP (orP p (oneP i)) i) (hasP p k) W0 where
  h1 := under W0 (fun w => has_any _ i hi w)
  h2 := under W0 (fun w => by have h := has_any (minusP p (oneP i)) i hi w; rw [has_out] at h; exact h)
  h3 := fun hne => under W0 (fun w => by have h := has_any (orP p (oneP i)) k hk w; rw [has_or_ne hne] at h; exact h)
  h4 := under W0 (fun w => has_any _ k hk w)
  h5 := fun hne => under W0 (fun w => by have h := has_any (minusP p (oneP i)) k hk w; rw [has_minus_ne hne] at h; exact h)
  w3 := under W0 (fun w => by
    have h := without_any (orP p (oneP i)) i hi w
    rw [or_minus p i 0 (by omega), or_minus p i 1 (by omega), or_minus p i 2 (by omega), or_minus p i 3 (by omega)] at h
    exact h)
  w4 := under W0 (fun w => by
    have h := with_any (minusP p (oneP i)) i hi w
    rw [minus_or p i 0 (by omega), minus_or p i 1 (by omega), minus_or p i 2 (by omega), minus_or p i 3 (by omega)] at h
    exact h)

/-- The example's answer, in any world that has grown out of W. -/
theorem awake_under {W : World} (hT : Tab W) : ∀ w, Below W.heap.size W w → Calls Tryd.prog 9 #[] w fun e w' => e = .returned (.bool true) ∧ Below w.heap.size w w' := by
  have hg : 0 < W.heap.size := block_of_cell (hT 0 (by decide))
  exact fun w hb => awake_any w (hT.below hb hg)

theorem one_in (p : Nat → Bool) (i k : Int) (hi : i ≤ 9223372036854775807) (hk : k ≤ 9223372036854775807) (W : World) (hT : Tab W) :
    Calls Tryd.prog 6 #[.agg #[.int .u64 (wd p 0), .int .u64 (wd p 1), .int .u64 (wd p 2), .int .u64 (wd p 3)], .int .i64 i, .int .i64 k] W fun e w' => e = .returned (.bool true) ∧ Below W.heap.size W w' := by
  rcases (show i < 0 ∨ (0 ≤ i ∧ 255 < i) ∨ (0 ≤ i ∧ i ≤ 255) by omega) with h | ⟨h0, h⟩ | ⟨h0, h1⟩
  · have f : ∀ {k : Nat}, k < 4 → wd (orP p (oneP i)) k = wd p k := fun hk => with_no (.inr (.inl h)) hk
    have g : ∀ {k : Nat}, k < 4 → wd (minusP p (oneP i)) k = wd p k := fun hk => has_no (hasP_out (.inl h)) hk
    have hW : ∀ w, Calls Tryd.prog 13 #[.agg #[.int .u64 (wd p 0), .int .u64 (wd p 1), .int .u64 (wd p 2), .int .u64 (wd p 3)], .int .i64 i] w fun e w' => e = .returned (.agg #[.int .u64 (wd p 0), .int .u64 (wd p 1), .int .u64 (wd p 2), .int .u64 (wd p 3)]) ∧ Below w.heap.size w w' := fun w => by
      have := with_any p i hi w
      rw [f (k := 0) (by omega), f (k := 1) (by omega), f (k := 2) (by omega), f (k := 3) (by omega)] at this; exact this
    have hO : ∀ w, Calls Tryd.prog 15 #[.agg #[.int .u64 (wd p 0), .int .u64 (wd p 1), .int .u64 (wd p 2), .int .u64 (wd p 3)], .int .i64 i] w fun e w' => e = .returned (.agg #[.int .u64 (wd p 0), .int .u64 (wd p 1), .int .u64 (wd p 2), .int .u64 (wd p 3)]) ∧ Below w.heap.size w w' := fun w => by
      have := without_any p i hi w
      rw [g (k := 0) (by omega), g (k := 1) (by omega), g (k := 2) (by omega), g (k := 3) (by omega)] at this; exact this
    have hH : ∀ w, Calls Tryd.prog 11 #[.agg #[.int .u64 (wd p 0), .int .u64 (wd p 1), .int .u64 (wd p 2), .int .u64 (wd p 3)], .int .i64 i] w fun e w' => e = .returned (.bool false) ∧ Below w.heap.size w w' := fun w => by
      have := has_any p i hi w
      rw [hasP_out (.inl h)] at this; exact this
    have hK : ∀ w, Calls Tryd.prog 11 #[.agg #[.int .u64 (wd p 0), .int .u64 (wd p 1), .int .u64 (wd p 2), .int .u64 (wd p 3)], .int .i64 k] w fun e w' => e = .returned (.bool (hasP p k)) ∧ Below w.heap.size w w' := fun w => has_any p k hk w
    exact law_one_low (wd p) i k (hasP p k) W  h (awake_under hT) hW hO fun W0 => ⟨under W0 hH, under W0 hH, fun _ => under W0 hK, under W0 hK, fun _ => under W0 hK, under W0 hO, under W0 hW⟩
  · have f : ∀ {k : Nat}, k < 4 → wd (orP p (oneP i)) k = wd p k := fun hk => with_no (.inr (.inr h)) hk
    have g : ∀ {k : Nat}, k < 4 → wd (minusP p (oneP i)) k = wd p k := fun hk => has_no (hasP_out (.inr h)) hk
    have hW : ∀ w, Calls Tryd.prog 13 #[.agg #[.int .u64 (wd p 0), .int .u64 (wd p 1), .int .u64 (wd p 2), .int .u64 (wd p 3)], .int .i64 i] w fun e w' => e = .returned (.agg #[.int .u64 (wd p 0), .int .u64 (wd p 1), .int .u64 (wd p 2), .int .u64 (wd p 3)]) ∧ Below w.heap.size w w' := fun w => by
      have := with_any p i hi w
      rw [f (k := 0) (by omega), f (k := 1) (by omega), f (k := 2) (by omega), f (k := 3) (by omega)] at this; exact this
    have hO : ∀ w, Calls Tryd.prog 15 #[.agg #[.int .u64 (wd p 0), .int .u64 (wd p 1), .int .u64 (wd p 2), .int .u64 (wd p 3)], .int .i64 i] w fun e w' => e = .returned (.agg #[.int .u64 (wd p 0), .int .u64 (wd p 1), .int .u64 (wd p 2), .int .u64 (wd p 3)]) ∧ Below w.heap.size w w' := fun w => by
      have := without_any p i hi w
      rw [g (k := 0) (by omega), g (k := 1) (by omega), g (k := 2) (by omega), g (k := 3) (by omega)] at this; exact this
    have hH : ∀ w, Calls Tryd.prog 11 #[.agg #[.int .u64 (wd p 0), .int .u64 (wd p 1), .int .u64 (wd p 2), .int .u64 (wd p 3)], .int .i64 i] w fun e w' => e = .returned (.bool false) ∧ Below w.heap.size w w' := fun w => by
      have := has_any p i hi w
      rw [hasP_out (.inr h)] at this; exact this
    have hK : ∀ w, Calls Tryd.prog 11 #[.agg #[.int .u64 (wd p 0), .int .u64 (wd p 1), .int .u64 (wd p 2), .int .u64 (wd p 3)], .int .i64 k] w fun e w' => e = .returned (.bool (hasP p k)) ∧ Below w.heap.size w w' := fun w => has_any p k hk w
    exact law_one_high (wd p) i k (hasP p k) W h0 h (awake_under hT) hW hO fun W0 => ⟨under W0 hH, under W0 hH, fun _ => under W0 hK, under W0 hK, fun _ => under W0 hK, under W0 hO, under W0 hW⟩
  · refine law_one (wd p) (wd (orP p (oneP i))) (wd (minusP p (oneP i))) i k (hasP p k) W h0 h1 (awake_under hT) (fun w => with_any p i hi w) (fun w => without_any p i hi w) fun W0 => ?_
    have := one_calls p i k hi hk W0
    rw [has_in h0 h1] at this
    exact this

/-- A set that came in. -/
theorem set_in (z : List Int) (hz : z.length = 4) (hwz : ∀ x ∈ z, (Lit.int .u64 x).wf = true) : ∃ p : Nat → Bool, Value.agg (z.map (Value.int .u64)).toArray = .agg #[.int .u64 (wd p 0), .int .u64 (wd p 1), .int .u64 (wd p 2), .int .u64 (wd p 3)] := by
  have u : ∀ x ∈ z, 0 ≤ x ∧ x < 18446744073709551616 := fun x hx => by
    have h := hwz x hx
    simp [Lit.wf, IntKind.min, IntKind.max, IntKind.signed, IntKind.bits] at h
    omega
  match z, hz with
  | [a, b, c, d], _ =>
    obtain ⟨a0, a1⟩ := u a (by simp)
    obtain ⟨b0, b1⟩ := u b (by simp)
    obtain ⟨c0, c1⟩ := u c (by simp)
    obtain ⟨d0, d1⟩ := u d (by simp)
    obtain ⟨h0, h1, h2, h3⟩ := wd_setOf a.toNat b.toNat c.toNat d.toNat (by omega) (by omega) (by omega) (by omega)
    refine ⟨setOf a.toNat b.toNat c.toNat d.toNat, ?_⟩
    rw [h0, h1, h2, h3, Int.toNat_of_nonneg a0, Int.toNat_of_nonneg b0, Int.toNat_of_nonneg c0, Int.toNat_of_nonneg d0]
    rfl

theorem row_one (W : World) (hT : Tab W) (z : List Int) (hz : z.length = 4) (hwz : ∀ x ∈ z, (Lit.int .u64 x).wf = true) (i : Int) (hi : (Lit.int .i64 i).wf = true) (k : Int) (hk : (Lit.int .i64 k).wf = true) :
    Calls Tryd.prog 6 #[.agg (z.map (Value.int .u64)).toArray, .int .i64 i, .int .i64 k] W fun e w' => e = .returned (.bool true) ∧ Below W.heap.size W w' := by
  obtain ⟨p, hp⟩ := set_in z hz hwz
  rw [hp]
  exact one_in p i k (i64_of_wf hi).2 (i64_of_wf hk).2 W hT

end Go.Proofs.YtigafpmhgogpmaaDoor
