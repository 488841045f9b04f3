/-
  The walk over the statement that sets are as the document's own answers have them.
-/
import Derived.Test.YtfffkfmgifamgaaDoorBLawParts
namespace Go.Proofs.YtfffkfmgifamgaaDoor
open Go.RowKit
attribute [local go_sem] set_eq

theorem cell_new_at {w : World} {cs : Array Value} {T : TypeId} {g i : Nat} (hg : g = w.heap.size) : (w.alloc (.cells cs T)).cell? ⟨g, i, none⟩ = cs[i]? := by subst hg; simp

/-- What a list's call hands over: a row that reads as the set's numbers. -/
def ListAt (E : List Int) (W1 w : World) (e : Ending) (w' : World) : Prop :=
  ∃ ao cap, e = .returned (.slice ao E.length cap) ∧ Reads w' w'.heap.size ao E ∧ Below w.heap.size w w' ∧ Below W1.heap.size W1 w'
theorem list_at {f : FuncId} {args : Array Value} {p : Nat → Bool} {W1 w : World} (hb : Below W1.heap.size W1 w) (h : Calls Tryd.prog f args w (ListPost p w)) : Calls Tryd.prog f args w (ListAt (els p) W1 w) :=
  h.mono fun e w' ⟨v, he, hown, hw⟩ => by
    obtain ⟨ao, cap, rfl, hr, _, _⟩ := owns_reads hown
    exact ⟨ao, cap, he, hr, hw, hb.trans (hw.mono hb.size)⟩

/-- What the calls of the statement answer, in any world that has grown out of W1. -/
structure TellCalls (a b u m r oo : Nat → Nat) (n : Nat) (L E : List Int) (ao : Option Addr) (cap : Nat) (W1 : World) : Prop where
  l0 : ∀ w, Below W1.heap.size W1 w → Calls Tryd.prog 18 #[.agg #[.int .u64 (a 0), .int .u64 (a 1), .int .u64 (a 2), .int .u64 (a 3)]] w (ListAt E W1 w)
  l1 : ∀ w, Below W1.heap.size W1 w → Calls Tryd.prog 19 #[.agg #[.int .u64 (a 0), .int .u64 (a 1), .int .u64 (a 2), .int .u64 (a 3)]] w (ListAt E W1 w)
  sm : ∀ a1 a2 c1 c2 w, Below W1.heap.size W1 w → Reads w w.heap.size a1 E → Reads w w.heap.size a2 E → Calls Tryd.prog 17 #[.slice a1 E.length c1, .slice a2 E.length c2] w fun e w' => e = .returned (.bool true) ∧ Below W1.heap.size W1 w'
  of0 : ∀ w, Below W1.heap.size W1 w → Calls Tryd.prog 20 #[.slice ao L.length cap] w fun e w' => e = .returned (.agg #[.int .u64 (oo 0), .int .u64 (oo 1), .int .u64 (oo 2), .int .u64 (oo 3)]) ∧ Below W1.heap.size W1 w'
  of1 : ∀ w, Below W1.heap.size W1 w → Calls Tryd.prog 21 #[.slice ao L.length cap] w fun e w' => e = .returned (.agg #[.int .u64 (oo 0), .int .u64 (oo 1), .int .u64 (oo 2), .int .u64 (oo 3)]) ∧ Below W1.heap.size W1 w'
  or0 : ∀ g w, Below W1.heap.size W1 w → g < w.heap.size → w.cell? ⟨g, 0, none⟩ = some (.int .u64 (a 0)) → w.cell? ⟨g, 1, none⟩ = some (.int .u64 (a 1)) → w.cell? ⟨g, 2, none⟩ = some (.int .u64 (a 2)) → w.cell? ⟨g, 3, none⟩ = some (.int .u64 (a 3)) → w.cell? ⟨g, 4, none⟩ = some (.int .u64 (b 0)) → w.cell? ⟨g, 5, none⟩ = some (.int .u64 (b 1)) → w.cell? ⟨g, 6, none⟩ = some (.int .u64 (b 2)) → w.cell? ⟨g, 7, none⟩ = some (.int .u64 (b 3)) → Calls Tryd.prog 22 #[.slice (some ⟨g, 0, none⟩) 2 2] w fun e w' => e = .returned (.agg #[.int .u64 (u 0), .int .u64 (u 1), .int .u64 (u 2), .int .u64 (u 3)]) ∧ Below w.heap.size w w' ∧ Below W1.heap.size W1 w'
  or1 : ∀ g w, Below W1.heap.size W1 w → g < w.heap.size → w.cell? ⟨g, 0, none⟩ = some (.int .u64 (a 0)) → w.cell? ⟨g, 1, none⟩ = some (.int .u64 (a 1)) → w.cell? ⟨g, 2, none⟩ = some (.int .u64 (a 2)) → w.cell? ⟨g, 3, none⟩ = some (.int .u64 (a 3)) → w.cell? ⟨g, 4, none⟩ = some (.int .u64 (b 0)) → w.cell? ⟨g, 5, none⟩ = some (.int .u64 (b 1)) → w.cell? ⟨g, 6, none⟩ = some (.int .u64 (b 2)) → w.cell? ⟨g, 7, none⟩ = some (.int .u64 (b 3)) → Calls Tryd.prog 23 #[.slice (some ⟨g, 0, none⟩) 2 2] w fun e w' => e = .returned (.agg #[.int .u64 (u 0), .int .u64 (u 1), .int .u64 (u 2), .int .u64 (u 3)]) ∧ Below w.heap.size w w' ∧ Below W1.heap.size W1 w'
  an0 : ∀ w, Below W1.heap.size W1 w → Calls Tryd.prog 24 #[.agg #[.int .u64 (a 0), .int .u64 (a 1), .int .u64 (a 2), .int .u64 (a 3)], .agg #[.int .u64 (b 0), .int .u64 (b 1), .int .u64 (b 2), .int .u64 (b 3)]] w fun e w' => e = .returned (.agg #[.int .u64 (m 0), .int .u64 (m 1), .int .u64 (m 2), .int .u64 (m 3)]) ∧ Below W1.heap.size W1 w'
  an1 : ∀ w, Below W1.heap.size W1 w → Calls Tryd.prog 25 #[.agg #[.int .u64 (a 0), .int .u64 (a 1), .int .u64 (a 2), .int .u64 (a 3)], .agg #[.int .u64 (b 0), .int .u64 (b 1), .int .u64 (b 2), .int .u64 (b 3)]] w fun e w' => e = .returned (.agg #[.int .u64 (m 0), .int .u64 (m 1), .int .u64 (m 2), .int .u64 (m 3)]) ∧ Below W1.heap.size W1 w'
  mi0 : ∀ w, Below W1.heap.size W1 w → Calls Tryd.prog 26 #[.agg #[.int .u64 (a 0), .int .u64 (a 1), .int .u64 (a 2), .int .u64 (a 3)], .agg #[.int .u64 (b 0), .int .u64 (b 1), .int .u64 (b 2), .int .u64 (b 3)]] w fun e w' => e = .returned (.agg #[.int .u64 (r 0), .int .u64 (r 1), .int .u64 (r 2), .int .u64 (r 3)]) ∧ Below W1.heap.size W1 w'
  mi1 : ∀ w, Below W1.heap.size W1 w → Calls Tryd.prog 27 #[.agg #[.int .u64 (a 0), .int .u64 (a 1), .int .u64 (a 2), .int .u64 (a 3)], .agg #[.int .u64 (b 0), .int .u64 (b 1), .int .u64 (b 2), .int .u64 (b 3)]] w fun e w' => e = .returned (.agg #[.int .u64 (r 0), .int .u64 (r 1), .int .u64 (r 2), .int .u64 (r 3)]) ∧ Below W1.heap.size W1 w'
  le0 : ∀ w, Below W1.heap.size W1 w → Calls Tryd.prog 28 #[.agg #[.int .u64 (a 0), .int .u64 (a 1), .int .u64 (a 2), .int .u64 (a 3)]] w fun e w' => e = .returned (.int .i64 (n : Nat)) ∧ Below W1.heap.size W1 w'
  le1 : ∀ w, Below W1.heap.size W1 w → Calls Tryd.prog 29 #[.agg #[.int .u64 (a 0), .int .u64 (a 1), .int .u64 (a 2), .int .u64 (a 3)]] w fun e w' => e = .returned (.int .i64 (n : Nat)) ∧ Below W1.heap.size W1 w'

structure RoundCalls (a x y : Nat → Nat) (v : Int) (h : Bool) (W1 : World) : Prop where
  h0 : ∀ w, Below W1.heap.size W1 w → Calls Tryd.prog 11 #[.agg #[.int .u64 (a 0), .int .u64 (a 1), .int .u64 (a 2), .int .u64 (a 3)], .int .i64 v] w fun e w' => e = .returned (.bool h) ∧ Below W1.heap.size W1 w'
  h1 : ∀ w, Below W1.heap.size W1 w → Calls Tryd.prog 12 #[.agg #[.int .u64 (a 0), .int .u64 (a 1), .int .u64 (a 2), .int .u64 (a 3)], .int .i64 v] w fun e w' => e = .returned (.bool h) ∧ Below W1.heap.size W1 w'
  w0 : ∀ w, Below W1.heap.size W1 w → Calls Tryd.prog 13 #[.agg #[.int .u64 (a 0), .int .u64 (a 1), .int .u64 (a 2), .int .u64 (a 3)], .int .i64 v] w fun e w' => e = .returned (.agg #[.int .u64 (x 0), .int .u64 (x 1), .int .u64 (x 2), .int .u64 (x 3)]) ∧ Below W1.heap.size W1 w'
  w1 : ∀ w, Below W1.heap.size W1 w → Calls Tryd.prog 14 #[.agg #[.int .u64 (a 0), .int .u64 (a 1), .int .u64 (a 2), .int .u64 (a 3)], .int .i64 v] w fun e w' => e = .returned (.agg #[.int .u64 (x 0), .int .u64 (x 1), .int .u64 (x 2), .int .u64 (x 3)]) ∧ Below W1.heap.size W1 w'
  o0 : ∀ w, Below W1.heap.size W1 w → Calls Tryd.prog 15 #[.agg #[.int .u64 (a 0), .int .u64 (a 1), .int .u64 (a 2), .int .u64 (a 3)], .int .i64 v] w fun e w' => e = .returned (.agg #[.int .u64 (y 0), .int .u64 (y 1), .int .u64 (y 2), .int .u64 (y 3)]) ∧ Below W1.heap.size W1 w'
  o1 : ∀ w, Below W1.heap.size W1 w → Calls Tryd.prog 16 #[.agg #[.int .u64 (a 0), .int .u64 (a 1), .int .u64 (a 2), .int .u64 (a 3)], .int .i64 v] w fun e w' => e = .returned (.agg #[.int .u64 (y 0), .int .u64 (y 1), .int .u64 (y 2), .int .u64 (y 3)]) ∧ Below W1.heap.size W1 w'

theorem two_kept {W0 w' : World} {b0 b1 : Nat} {a : Nat → Nat} {b : Nat → Nat} (h0 : Four W0 b0 (a 0) (a 1) (a 2) (a 3)) (h1 : Four W0 b1 (b 0) (b 1) (b 2) (b 3)) (hb : Below W0.heap.size W0 w') : Below W0.heap.size W0 w' ∧ w'.cell? ⟨b0, 0, none⟩ = some (.int .u64 (a 0)) ∧ w'.cell? ⟨b0, 1, none⟩ = some (.int .u64 (a 1)) ∧ w'.cell? ⟨b0, 2, none⟩ = some (.int .u64 (a 2)) ∧ w'.cell? ⟨b0, 3, none⟩ = some (.int .u64 (a 3)) ∧ w'.cell? ⟨b1, 0, none⟩ = some (.int .u64 (b 0)) ∧ w'.cell? ⟨b1, 1, none⟩ = some (.int .u64 (b 1)) ∧ w'.cell? ⟨b1, 2, none⟩ = some (.int .u64 (b 2)) ∧ w'.cell? ⟨b1, 3, none⟩ = some (.int .u64 (b 3)) := by
  have g0 := h0.kept hb
  have g1 := h1.kept hb
  exact ⟨hb, g0.c0, g0.c1, g0.c2, g0.c3, g1.c0, g1.c1, g1.c2, g1.c3⟩

set_option maxRecDepth 100000 in
set_option maxHeartbeats 8000000 in
theorem law_tell (a b u m r oo : Nat → Nat) (n : Nat) (E : List Int) (a0 : Option Addr) (len cap0 : Nat) (L : List Int) (cap : Nat) (W : World) (hl20 : L.length ≤ 20)
    (A : Hid (∀ w, Below W.heap.size W w → Calls Tryd.prog 9 #[] w fun e w' => e = .returned (.bool true) ∧ Below w.heap.size w w'))
    (F : Hid (∀ w', Calls Tryd.prog 10 #[.slice a0 len cap0] w' fun e w'' => e = .returned (.slice a0 L.length cap) ∧ w' = w''))
    (HL : Hid (Reads W W.heap.size a0 L))
    (TC : ∀ W1, Below W.heap.size W W1 → Hid (TellCalls a b u m r oo n L E a0 cap W1))
    (RC : ∀ W1 k, k < L.length → ∃ x y h, Hid (RoundCalls a x y (L.getD k 0) h W1)) :
    Calls Tryd.prog 3 #[.agg #[.int .u64 (a 0), .int .u64 (a 1), .int .u64 (a 2), .int .u64 (a 3)], .agg #[.int .u64 (b 0), .int .u64 (b 1), .int .u64 (b 2), .int .u64 (b 3)], .slice a0 len cap0] W fun e w' => e = .returned (.bool true) ∧ Below W.heap.size W w' := by
  have HRC := Lib.hid RC
  have HTC := Lib.hid TC
  clear RC TC
  have hlc : (L.length : Int) ≤ 20 := by omega
  go_enter Tryd.func3, Tryd.ntmps3
  go_upto_region 3 with (first | (go_at_call 9; (refine (A.out _ (((Below.refl _ _).alloc (Nat.le_refl _) _).alloc (by simp) _)).mono ?_); rintro e w1 ⟨rfl, hw1⟩; have F1 := Lib.hid (Four.next hw1 ((Four.new W (a 0) (a 1) (a 2) (a 3) _).alloc _)); have G1 := Four.next hw1 (Four.new (W.alloc _) (b 0) (b 1) (b 2) (b 3) _); have B1 := Lib.hid (below_next hw1 (((Below.refl W.heap.size W).alloc (Nat.le_refl _) _).alloc (by simp) _) (Nat.le_refl _)); rw [World.size_alloc] at G1; have G1 := Lib.hid G1; clear hw1) | (go_at_call 10; (refine (F.out _).mono ?_); rintro e w' ⟨rfl, rfl⟩))
  refine gen_world (fun v => Four v W.heap.size (a 0) (a 1) (a 2) (a 3) ∧ Four v (W.heap.size + 1) (b 0) (b 1) (b 2) (b 3) ∧ Below W.heap.size W v) ⟨F1.out, G1.out, B1.out⟩ ?_
  clear F1 G1 B1 A F
  intro W1 ⟨f1, f2, hb⟩
  have HB := Lib.hid hb
  have HR := Lib.hid (HL.out.later (Nat.le_refl _) hb)
  have MK := Lib.hid (fun w' (h : Below W1.heap.size W1 w') => two_kept f1 f2 h)
  have D := HTC.out W1 hb
  clear f1 f2 hb HL HTC
  go_wp2
  go_loopw [9] (fun i wr => ∃ k : Nat, k ≤ L.length ∧ i = .int .i64 k ∧ Hid (Below W1.heap.size W1 wr)) (fun i _ => (L.length - intOf i).toNat)
  case atStart => exact ⟨0, by omega, rfl, Below.refl _ _⟩
  case round =>
    obtain ⟨k, hk, rfl, HW⟩ := hrel
    by_cases hlt : k < L.length
    · obtain ⟨g, off, rfl, hbb, hc⟩ : ∃ g off, a0 = some ⟨g, off, none⟩ ∧ g < W1.heap.size ∧ ∀ k, k < L.length → W1.cell? ⟨g, off + k, none⟩ = some (.int .i64 (L.getD k 0)) := by
        rcases HR.out with h | h
        · rw [h] at hlt; exact absurd hlt (Nat.not_lt_zero _)
        · exact h
      have ck := hc k hlt
      obtain ⟨x, y, h, rc⟩ := HRC.out W1 k hlt
      have K0 := Lib.hid rc.out.h0
      have K1 := Lib.hid rc.out.h1
      have K2 := Lib.hid rc.out.w0
      have K3 := Lib.hid rc.out.w1
      have K4 := Lib.hid rc.out.o0
      have K5 := Lib.hid rc.out.o1
      have MK3 : Hid (∀ w', Below W1.heap.size W1 w' → Below W1.heap.size W1 w' ∧ w'.cell? ⟨W.heap.size, 0, none⟩ = some (.int .u64 (a 0)) ∧ w'.cell? ⟨W.heap.size, 1, none⟩ = some (.int .u64 (a 1)) ∧ w'.cell? ⟨W.heap.size, 2, none⟩ = some (.int .u64 (a 2)) ∧ w'.cell? ⟨W.heap.size, 3, none⟩ = some (.int .u64 (a 3)) ∧ w'.cell? ⟨W.heap.size + 1, 0, none⟩ = some (.int .u64 (b 0)) ∧ w'.cell? ⟨W.heap.size + 1, 1, none⟩ = some (.int .u64 (b 1)) ∧ w'.cell? ⟨W.heap.size + 1, 2, none⟩ = some (.int .u64 (b 2)) ∧ w'.cell? ⟨W.heap.size + 1, 3, none⟩ = some (.int .u64 (b 3)) ∧ w'.cell? ⟨g, off + k, none⟩ = some (.int .i64 (L.getD k 0))) := fun w' h => by
        obtain ⟨q0, q1, q2, q3, q4, q5, q6, q7, q8⟩ := MK.out w' h
        exact ⟨q0, q1, q2, q3, q4, q5, q6, q7, q8, kept_cell h ck⟩
      clear hc ck D HRC rc HR
      generalize L.getD k 0 = v at K0 K1 K2 K3 K4 K5 MK3
      have hkz : (0 : Int) ≤ (k : Int) := by omega
      have hkl : (k : Int) < (L.length : Int) := by omega
      have e1 := eq4_self (x 0) (x 1) (x 2) (x 3)
      have e2 := eq4_self (y 0) (y 1) (y 2) (y 3)
      have r0 := HW.out
      have sx0 := r0.size
      cases h
      all_goals
        go_wp2
        go_region_held3 (fun w' => Below W1.heap.size W1 w' ∧ w'.cell? ⟨W.heap.size, 0, none⟩ = some (.int .u64 (a 0)) ∧ w'.cell? ⟨W.heap.size, 1, none⟩ = some (.int .u64 (a 1)) ∧ w'.cell? ⟨W.heap.size, 2, none⟩ = some (.int .u64 (a 2)) ∧ w'.cell? ⟨W.heap.size, 3, none⟩ = some (.int .u64 (a 3)) ∧ w'.cell? ⟨W.heap.size + 1, 0, none⟩ = some (.int .u64 (b 0)) ∧ w'.cell? ⟨W.heap.size + 1, 1, none⟩ = some (.int .u64 (b 1)) ∧ w'.cell? ⟨W.heap.size + 1, 2, none⟩ = some (.int .u64 (b 2)) ∧ w'.cell? ⟨W.heap.size + 1, 3, none⟩ = some (.int .u64 (b 3)) ∧ w'.cell? ⟨g, off + k, none⟩ = some (.int .i64 v)) (exact MK3.out _ (by repeat (first | (with_reducible assumption) | refine Below.drew ?_ | refine Below.alloc ?_ (by first | omega | (simp; omega)) _))) (first | (go_at_call 11; (with_reducible refine (K0.out _ (by repeat (first | (with_reducible assumption) | refine Below.drew ?_ | refine Below.alloc ?_ (by first | omega | (simp; omega)) _))).mono ?_); rintro e wx ⟨rfl, bx⟩; have sx := bx.size) | (go_at_call 12; (with_reducible refine (K1.out _ (by repeat (first | (with_reducible assumption) | refine Below.drew ?_ | refine Below.alloc ?_ (by first | omega | (simp; omega)) _))).mono ?_); rintro e wx ⟨rfl, bx⟩; have sx := bx.size) | (go_at_call 13; (with_reducible refine (K2.out _ (by repeat (first | (with_reducible assumption) | refine Below.drew ?_ | refine Below.alloc ?_ (by first | omega | (simp; omega)) _))).mono ?_); rintro e wx ⟨rfl, bx⟩; have sx := bx.size) | (go_at_call 14; (with_reducible refine (K3.out _ (by repeat (first | (with_reducible assumption) | refine Below.drew ?_ | refine Below.alloc ?_ (by first | omega | (simp; omega)) _))).mono ?_); rintro e wx ⟨rfl, bx⟩; have sx := bx.size) | (go_at_call 15; (with_reducible refine (K4.out _ (by repeat (first | (with_reducible assumption) | refine Below.drew ?_ | refine Below.alloc ?_ (by first | omega | (simp; omega)) _))).mono ?_); rintro e wx ⟨rfl, bx⟩; have sx := bx.size) | (go_at_call 16; (with_reducible refine (K5.out _ (by repeat (first | (with_reducible assumption) | refine Below.drew ?_ | refine Below.alloc ?_ (by first | omega | (simp; omega)) _))).mono ?_); rintro e wx ⟨rfl, bx⟩; have sx := bx.size))
        go_wp2
        go_roundw
        case rel => exact ⟨k + 1, by omega, by go_num, (by with_reducible assumption : Below _ _ _)⟩
        case measure => simp [intOf]; omega
    · obtain rfl : k = L.length := by omega
      have L0 := Lib.hid D.out.l0
      have L1 := Lib.hid D.out.l1
      have SM := Lib.hid D.out.sm
      have F0 := Lib.hid D.out.of0
      have F1 := Lib.hid D.out.of1
      have F2 := Lib.hid D.out.or0
      have F3 := Lib.hid D.out.or1
      have F4 := Lib.hid D.out.an0
      have F5 := Lib.hid D.out.an1
      have F6 := Lib.hid D.out.mi0
      have F7 := Lib.hid D.out.mi1
      have F8 := Lib.hid D.out.le0
      have F9 := Lib.hid D.out.le1
      clear D HRC HR
      have e1 := eq4_self (oo 0) (oo 1) (oo 2) (oo 3)
      have e2 := eq4_self (u 0) (u 1) (u 2) (u 3)
      have e3 := eq4_self (m 0) (m 1) (m 2) (m 3)
      have e4 := eq4_self (r 0) (r 1) (r 2) (r 3)
      have r0 := HW.out
      have sx0 := r0.size
      go_upto_region 8 with (fail)
      go_region_held3 (fun w' => Below W1.heap.size W1 w' ∧ w'.cell? ⟨W.heap.size, 0, none⟩ = some (.int .u64 (a 0)) ∧ w'.cell? ⟨W.heap.size, 1, none⟩ = some (.int .u64 (a 1)) ∧ w'.cell? ⟨W.heap.size, 2, none⟩ = some (.int .u64 (a 2)) ∧ w'.cell? ⟨W.heap.size, 3, none⟩ = some (.int .u64 (a 3)) ∧ w'.cell? ⟨W.heap.size + 1, 0, none⟩ = some (.int .u64 (b 0)) ∧ w'.cell? ⟨W.heap.size + 1, 1, none⟩ = some (.int .u64 (b 1)) ∧ w'.cell? ⟨W.heap.size + 1, 2, none⟩ = some (.int .u64 (b 2)) ∧ w'.cell? ⟨W.heap.size + 1, 3, none⟩ = some (.int .u64 (b 3))) (exact MK.out _ (by repeat (first | (with_reducible assumption) | refine Below.drew ?_ | refine Below.alloc ?_ (by first | omega | (simp; omega)) _))) (first | (go_at_call 18; (refine (L0.out _ (by repeat (first | (with_reducible assumption) | refine Below.drew ?_ | refine Below.alloc ?_ (by first | omega | (simp; omega)) _))).mono ?_); rintro e w3 ⟨a1, c1, rfl, hr1, hw3, bx⟩; have sx := bx.size; have R1 := Lib.hid hr1; clear hr1 hw3) | (go_at_call 19; (refine (L1.out _ (by repeat (first | (with_reducible assumption) | refine Below.drew ?_ | refine Below.alloc ?_ (by first | omega | (simp; omega)) _))).mono ?_); rintro e w4 ⟨a2, c2, rfl, hr2, hw4, bx⟩; have sx := bx.size; have R2 := Lib.hid hr2; have R3 := Lib.hid (reads_next hw4 R1.out (Nat.le_refl _)); clear hr2 hw4) | (go_at_call 17; (refine (SM.out _ _ _ _ _ (by repeat (first | (with_reducible assumption) | refine Below.drew ?_ | refine Below.alloc ?_ (by first | omega | (simp; omega)) _)) R3.out R2.out).mono ?_); rintro e wx ⟨rfl, bx⟩; have sx := bx.size))
      go_upto_region 9 with (fail)
      go_region_held3 (fun w' => Below W1.heap.size W1 w' ∧ w'.cell? ⟨W.heap.size, 0, none⟩ = some (.int .u64 (a 0)) ∧ w'.cell? ⟨W.heap.size, 1, none⟩ = some (.int .u64 (a 1)) ∧ w'.cell? ⟨W.heap.size, 2, none⟩ = some (.int .u64 (a 2)) ∧ w'.cell? ⟨W.heap.size, 3, none⟩ = some (.int .u64 (a 3)) ∧ w'.cell? ⟨W.heap.size + 1, 0, none⟩ = some (.int .u64 (b 0)) ∧ w'.cell? ⟨W.heap.size + 1, 1, none⟩ = some (.int .u64 (b 1)) ∧ w'.cell? ⟨W.heap.size + 1, 2, none⟩ = some (.int .u64 (b 2)) ∧ w'.cell? ⟨W.heap.size + 1, 3, none⟩ = some (.int .u64 (b 3))) (exact MK.out _ (by repeat (first | (with_reducible assumption) | refine Below.drew ?_ | refine Below.alloc ?_ (by first | omega | (simp; omega)) _))) (first | (go_at_call 20; (with_reducible refine (F0.out _ (by repeat (first | (with_reducible assumption) | refine Below.drew ?_ | refine Below.alloc ?_ (by first | omega | (simp; omega)) _))).mono ?_); rintro e wx ⟨rfl, bx⟩; have sx := bx.size) | (go_at_call 21; (with_reducible refine (F1.out _ (by repeat (first | (with_reducible assumption) | refine Below.drew ?_ | refine Below.alloc ?_ (by first | omega | (simp; omega)) _))).mono ?_); rintro e wx ⟨rfl, bx⟩; have sx := bx.size) | (go_at_call 22; (with_reducible refine (F2.out _ _ (by repeat (first | (with_reducible assumption) | refine Below.drew ?_ | refine Below.alloc ?_ (by first | omega | (simp; omega)) _)) ?_ ?_ ?_ ?_ ?_ ?_ ?_ ?_ ?_).mono ?_); (iterate 9 (focus (first | (simp; done) | (simp; omega) | omega | (simp [cell_new_at]; done) | (rw [hcq _ _ (by first | (simp; done) | (simp; omega))]; first | (simp; done) | (simp [cell_new_at]; done))))); rintro e wx ⟨rfl, hwq, bx⟩; have sx := bx.size; have hcq := (bcell hwq).1; have hsq := hwq.size; try (simp only [World.size_alloc] at hsq); clear hwq) | (go_at_call 23; (with_reducible refine (F3.out _ _ (by repeat (first | (with_reducible assumption) | refine Below.drew ?_ | refine Below.alloc ?_ (by first | omega | (simp; omega)) _)) ?_ ?_ ?_ ?_ ?_ ?_ ?_ ?_ ?_).mono ?_); (iterate 9 (focus (first | (simp; done) | (simp; omega) | omega | (simp [cell_new_at]; done) | (rw [hcq _ _ (by first | (simp; done) | (simp; omega))]; first | (simp; done) | (simp [cell_new_at]; done))))); rintro e wx ⟨rfl, hwq, bx⟩; have sx := bx.size; have hcq := (bcell hwq).1; have hsq := hwq.size; try (simp only [World.size_alloc] at hsq); clear hwq) | (go_at_call 24; (with_reducible refine (F4.out _ (by repeat (first | (with_reducible assumption) | refine Below.drew ?_ | refine Below.alloc ?_ (by first | omega | (simp; omega)) _))).mono ?_); rintro e wx ⟨rfl, bx⟩; have sx := bx.size) | (go_at_call 25; (with_reducible refine (F5.out _ (by repeat (first | (with_reducible assumption) | refine Below.drew ?_ | refine Below.alloc ?_ (by first | omega | (simp; omega)) _))).mono ?_); rintro e wx ⟨rfl, bx⟩; have sx := bx.size) | (go_at_call 26; (with_reducible refine (F6.out _ (by repeat (first | (with_reducible assumption) | refine Below.drew ?_ | refine Below.alloc ?_ (by first | omega | (simp; omega)) _))).mono ?_); rintro e wx ⟨rfl, bx⟩; have sx := bx.size) | (go_at_call 27; (with_reducible refine (F7.out _ (by repeat (first | (with_reducible assumption) | refine Below.drew ?_ | refine Below.alloc ?_ (by first | omega | (simp; omega)) _))).mono ?_); rintro e wx ⟨rfl, bx⟩; have sx := bx.size) | (go_at_call 28; (with_reducible refine (F8.out _ (by repeat (first | (with_reducible assumption) | refine Below.drew ?_ | refine Below.alloc ?_ (by first | omega | (simp; omega)) _))).mono ?_); rintro e wx ⟨rfl, bx⟩; have sx := bx.size) | (go_at_call 29; (with_reducible refine (F9.out _ (by repeat (first | (with_reducible assumption) | refine Below.drew ?_ | refine Below.alloc ?_ (by first | omega | (simp; omega)) _))).mono ?_); rintro e wx ⟨rfl, bx⟩; have sx := bx.size))
      all_goals
        go_wp2
        go_ret
        exact ⟨rfl, HB.out.trans (Below.mono (by with_reducible assumption) HB.out.size)⟩

theorem ror_two (p q : Nat → Bool) (b : Nat) (w : World) (hb : b < w.heap.size)
    (h0 : w.cell? ⟨b, 0, none⟩ = some (.int .u64 (wd p 0))) (h1 : w.cell? ⟨b, 1, none⟩ = some (.int .u64 (wd p 1))) (h2 : w.cell? ⟨b, 2, none⟩ = some (.int .u64 (wd p 2))) (h3 : w.cell? ⟨b, 3, none⟩ = some (.int .u64 (wd p 3)))
    (h4 : w.cell? ⟨b, 4, none⟩ = some (.int .u64 (wd q 0))) (h5 : w.cell? ⟨b, 5, none⟩ = some (.int .u64 (wd q 1))) (h6 : w.cell? ⟨b, 6, none⟩ = some (.int .u64 (wd q 2))) (h7 : w.cell? ⟨b, 7, none⟩ = some (.int .u64 (wd q 3))) :
    Calls Tryd.prog 23 #[.slice (some ⟨b, 0, none⟩) 2 2] w fun e w' => e = .returned (.agg #[.int .u64 (wd (orP p q) 0), .int .u64 (wd (orP p q) 1), .int .u64 (wd (orP p q) 2), .int .u64 (wd (orP p q) 3)]) ∧ Below w.heap.size w w' := by
  have h := ror_any [p, q] (by simp) 2 (some ⟨b, 0, none⟩) w (.inr ⟨b, 0, rfl, hb, fun k hk => by
    rcases (show k = 0 ∨ k = 1 by simp at hk; omega) with rfl | rfl
    · exact ⟨h0, h1, h2, h3⟩
    · exact ⟨h4, h5, h6, h7⟩⟩)
  rw [show ([p, q] : List (Nat → Bool)).length = 2 from rfl, orN_two p q 0 (by omega), orN_two p q 1 (by omega), orN_two p q 2 (by omega), orN_two p q 3 (by omega)] at h
  exact h

theorem tell_in (p q : Nat → Bool) (W : World) (hT : Tab W) (a0 : Option Addr) (len cap0 : Nat) (z : List Int) (hrow : IsRow .i64 W a0 len cap0 z) :
    Calls Tryd.prog 3 #[.agg #[.int .u64 (wd p 0), .int .u64 (wd p 1), .int .u64 (wd p 2), .int .u64 (wd p 3)], .agg #[.int .u64 (wd q 0), .int .u64 (wd q 1), .int .u64 (wd q 2), .int .u64 (wd q 3)], .slice a0 len cap0] W fun e w' => e = .returned (.bool true) ∧ Below W.heap.size W w' := by
  obtain ⟨L, hl20, hu, hL, cap, _, _, F⟩ := few_any hrow
  have hg : 0 < W.heap.size := block_of_cell (hT 0 (by decide))
  have hE : ((els p).length : Int) ≤ 9223372036854775807 := by rw [els_length]; have := cntN_le p 256; omega
  refine law_tell (wd p) (wd q) (wd (orP p q)) (wd (andP p q)) (wd (minusP p q)) (wd (ofN L L.length)) (cntN p 256) (els p) a0 len cap0 L cap W hl20 (awake_under hT) F hL (fun W1 hW => ?_) (fun W1 k hk => ?_)
  · have go : ∀ w, Below W1.heap.size W1 w → Below W.heap.size W w := fun w h => hW.trans (h.mono hW.size)
    exact {
      l0 := fun w h => list_at h (list_in p w (hT.below (go w h) hg))
      l1 := fun w h => list_at h (rlist_any p w)
      sm := fun a1 a2 c1 c2 w hb h1 h2 => Calls.under hb (Nat.le_refl _) (same_any (els p) hE a1 a2 c1 c2 w h1 h2)
      of0 := fun w h => Calls.under h (Nat.le_refl _) (of_any L (by omega) (fun x hx => (hu x hx).2) cap a0 w (hL.later (Nat.le_refl _) (go w h)))
      of1 := fun w h => Calls.under h (Nat.le_refl _) (rof_any L (by omega) cap a0 w (hL.later (Nat.le_refl _) (go w h)))
      or0 := fun g w hb hg h0 h1 h2 h3 h4 h5 h6 h7 => (or_two p q g w hg h0 h1 h2 h3 h4 h5 h6 h7).mono fun e w' ⟨he, hw⟩ => ⟨he, hw, hb.trans (hw.mono hb.size)⟩
      or1 := fun g w hb hg h0 h1 h2 h3 h4 h5 h6 h7 => (ror_two p q g w hg h0 h1 h2 h3 h4 h5 h6 h7).mono fun e w' ⟨he, hw⟩ => ⟨he, hw, hb.trans (hw.mono hb.size)⟩
      an0 := under W1 fun w => and_any p q w
      an1 := under W1 fun w => rand_any p q w
      mi0 := under W1 fun w => minus_any p q w
      mi1 := under W1 fun w => rminus_any p q w
      le0 := under W1 fun w => len_any p w
      le1 := under W1 fun w => rlen_any p w }
  · have hv := (hu _ (by rw [List.getD_eq_getElem?_getD, List.getElem?_eq_getElem hk]; exact List.getElem_mem _ : L.getD k 0 ∈ L)).2
    exact ⟨wd (orP p (oneP (L.getD k 0))), wd (minusP p (oneP (L.getD k 0))), hasP p (L.getD k 0), {
      h0 := under W1 fun w => has_any p _ hv w
      h1 := under W1 fun w => rhas_any p _ w
      w0 := under W1 fun w => with_any p _ hv w
      w1 := under W1 fun w => rwith_any p _ w
      o0 := under W1 fun w => without_any p _ hv w
      o1 := under W1 fun w => rwithout_any p _ w }⟩

theorem row_tell (W : World) (hT : Tab W) (z : List Int) (hz : z.length = 4) (hwz : ∀ x ∈ z, (Lit.int .u64 x).wf = true) (y : List Int) (hy : y.length = 4) (hwy : ∀ x ∈ y, (Lit.int .u64 x).wf = true) (a0 : Option Addr) (len cap : Nat) (zs : List Int) (hrow : IsRow .i64 W a0 len cap zs) :
    Calls Tryd.prog 3 #[.agg (z.map (Value.int .u64)).toArray, .agg (y.map (Value.int .u64)).toArray, .slice a0 len cap] W fun e w' => e = .returned (.bool true) ∧ Below W.heap.size W w' := by
  obtain ⟨p, hp⟩ := set_in z hz hwz
  obtain ⟨q, hq⟩ := set_in y hy hwy
  rw [hp, hq]
  exact tell_in p q W hT a0 len cap zs hrow

end Go.Proofs.YtfffkfmgifamgaaDoor
