/-
  The walk over what is asked of all tasks at the beginning.
-/
import Derived.Test.YtknjldmpcokgfaaKW11
namespace Go.Proofs.Ytknjldmpcokgfaa
open Go.RowKit Go.Maps

theorem ints_three (w : World) (x y z : Int) (T : TypeId) : Ints (w.alloc (.cells #[.int .i64 x, .int .i64 y, .int .i64 z] T)) (some ⟨w.heap.size, 0, none⟩) [x, y, z] :=
  .inr ⟨_, 0, rfl, fun j u hj => by
    match j, hj with
    | 0, hj => simp at hj; subst hj; rw [World.cell?_alloc_new]; rfl
    | 1, hj => simp at hj; subst hj; rw [World.cell?_alloc_new]; rfl
    | 2, hj => simp at hj; subst hj; rw [World.cell?_alloc_new]; rfl
    | j + 3, hj => simp at hj⟩
def first0 (a : Option Addr) : TV := ⟨0, 6, 0, 0, 0, a, [2, 3, 1], 3, none, [], 0⟩
def third0 : TV := ⟨3, 0, 0, 0, 0, none, [], 0, none, [], 0⟩
theorem first_ok {w : World} {a : Option Addr} (h : Ints w a [2, 3, 1]) : (first0 a).ok w := ⟨h, .inl rfl, by simp [first0], by simp [first0], by simp [first0], by simp [first0]⟩
theorem third_ok (w : World) : third0.ok w := ⟨.inl rfl, .inl rfl, by simp [third0], by simp [third0], by simp [third0], by simp [third0]⟩
def EndsBack (w : World) (e : Ending) (w' : World) : Prop := ∃ a c, e = .returned (.slice a 3 c) ∧ Ints w' a [2, 5, 6] ∧ Below w.heap.size w w'
theorem ends_first {w : World} {a : Option Addr} (h : Ints w a [2, 3, 1]) : Calls Try.prog 28 #[.agg #[.int .i64 0, .int .i64 6, .int .i64 0, .int .i64 0, .int .i64 0, .slice a 3 3, .slice none 0 0]] w (EndsBack w) :=
  (ends_any (first0 a) w (first_ok h) (by rfl) (by simp [first0]) (by simp [first0])).mono fun _ _ ⟨a', c', h1, h2, h3, _⟩ => ⟨a', c', h1, h2, h3⟩
theorem same_third (w : World) : Calls Try.prog 16 #[.agg #[.int .i64 3, .int .i64 0, .int .i64 0, .int .i64 0, .int .i64 0, .slice none 0 0, .slice none 0 0], .agg #[.int .i64 3, .int .i64 0, .int .i64 0, .int .i64 0, .int .i64 0, .slice none 0 0, .slice none 0 0]] w fun e w' => e = .returned (.bool true) ∧ Below w.heap.size w w' :=
  (same_task third0 third0 w (third_ok w) (third_ok w)).mono fun _ _ ⟨h1, h2⟩ => ⟨by rw [h1, decide_eq_true rfl], h2⟩
theorem samelong_ends {w : World} {a b : Option Addr} {c c' : Nat} (ha : Ints w a [2, 5, 6]) (hb : Ints w b [2, 5, 6]) : Calls Try.prog 27 #[.slice a 3 c, .slice b 3 c'] w fun e w' => e = .returned (.bool true) ∧ Below w.heap.size w w' :=
  (samelong_any 3 3 c c' (by omega) (by omega) a b [2, 5, 6] [2, 5, 6] rfl rfl w ha hb).mono fun _ _ ⟨h1, h2⟩ => ⟨by rw [h1, decide_eq_true rfl], h2⟩

set_option maxRecDepth 100000 in
set_option maxHeartbeats 2000000 in
theorem awake_any (w : World) : Calls Try.prog 7 #[] w fun e w' => e = .returned (.bool true) ∧ Below w.heap.size w w' := by
  have hz := zeroTask
  have CE := Lib.hid (ends_first (ints_three w 2 3 1 2))
  have CS := Lib.hid same_third
  go_enter Try.func7, Try.ntmps7
  go_wp2_with (first
    | (go_at_call 28; (with_reducible refine (CE.out).mono ?_); rintro e w1 ⟨a, c, rfl, h1, b1⟩; have H1 := Lib.hid h1; have B1 := Lib.hid (below_up (W := w) (by repeat (first | exact Below.refl _ _ | (with_reducible assumption) | refine bw_alloc ?_ _ | refine bw_drew ?_)) b1); clear h1 b1)
    | (go_at_call 27; (with_reducible refine (samelong_ends (H1.out.below (by repeat (first | exact Below.refl _ _ | (with_reducible assumption) | refine bw_alloc ?_ _ | refine bw_drew ?_))) (ints_three _ _ _ _ _)).mono ?_); rintro e w2 ⟨rfl, b2⟩; have B2 := Lib.hid (below_up (W := w1) (by repeat (first | exact Below.refl _ _ | (with_reducible assumption) | refine bw_alloc ?_ _ | refine bw_drew ?_)) b2); clear b2)
    | (go_at_call 16; (with_reducible refine (CS.out _).mono ?_); rintro e w3 ⟨rfl, b3⟩; have B3 := Lib.hid b3; clear b3))
  go_ret
  exact ⟨rfl, below_up (below_up B1.out B2.out) B3.out⟩
end Go.Proofs.Ytknjldmpcokgfaa
