/-
  What stands in blocks of two and of three cells, carried through calls, new blocks and stores.
-/
import Derived.Test.YtlpkilfpjdggeaaRef5
import Derived.Test.YtlpkilfpjdggeaaLaws2
namespace Go.Proofs.Ytlpkilfpjdggeaa
open Go.RowKit

/-- The walk goes on in a world of which only so much is known. -/
theorem gen_world {P : Program} {c : Code} {Q : Exit → Act → World → Prop} {a : Act} {w : World} (S : World → Prop) (h : S w) (k : ∀ w', S w' → c.wp P Q a w') : c.wp P Q a w := k w h

structure Cell2 (w : World) (b : Nat) (x y : Value) : Prop where
  c0 : w.cell? ⟨b, 0, none⟩ = some x
  c1 : w.cell? ⟨b, 1, none⟩ = some y
  f0 : w.frozen? ⟨b, 0, none⟩ = false
  f1 : w.frozen? ⟨b, 1, none⟩ = false

theorem Cell2.kept {w w' : World} {b : Nat} {x y : Value} (h : Cell2 w b x y) (hb : Below w.heap.size w w') : Cell2 w' b x y :=
  ⟨kept_cell hb h.c0, kept_cell hb h.c1, kept_frozen hb h.c0 h.f0, kept_frozen hb h.c1 h.f1⟩
theorem Cell2.lt {w : World} {b : Nat} {x y : Value} (h : Cell2 w b x y) : b < w.heap.size := block_of_cell h.c0
theorem Cell2.new (w : World) (x y : Value) (T : TypeId) : Cell2 (w.alloc (.cells #[x, y] T)) w.heap.size x y := ⟨by simp, by simp, by simp, by simp⟩
theorem Cell2.alloc {w : World} {b : Nat} {x y : Value} (h : Cell2 w b x y) (o : Obj) : Cell2 (w.alloc o) b x y :=
  h.kept ((Below.refl _ _).alloc (Nat.le_refl _) o)
theorem Cell2.set {w : World} {b : Nat} {x y : Value} (h : Cell2 w b x y) (u v : Value) : Cell2 ((w.setCell ⟨b, 0, none⟩ u).setCell ⟨b, 1, none⟩ v) b u v := by
  obtain ⟨a1, a2, a3, a4, a5, a6⟩ := two_set u v h.c0 h.c1
  exact ⟨a1, a2, by rw [a4]; exact h.f0, by rw [a4]; exact h.f1⟩
theorem Cell2.far {w : World} {b d : Nat} {x y : Value} (h : Cell2 w b x y) (hne : b ≠ d) (u v : Value) : Cell2 ((w.setCell ⟨d, 0, none⟩ u).setCell ⟨d, 1, none⟩ v) b x y := by
  refine ⟨?_, ?_, ?_, ?_⟩
  · rw [World.cell?_setCell_far _ _ _ _ (by simp; omega), World.cell?_setCell_far _ _ _ _ (by simp; omega)]; exact h.c0
  · rw [World.cell?_setCell_far _ _ _ _ (by simp; omega), World.cell?_setCell_far _ _ _ _ (by simp; omega)]; exact h.c1
  · simp; exact h.f0
  · simp; exact h.f1

theorem cell_far2 {w : World} {b o d : Nat} {x : Value} (h : w.cell? ⟨b, o, none⟩ = some x) (hne : b ≠ d) (u v : Value) : ((w.setCell ⟨d, 0, none⟩ u).setCell ⟨d, 1, none⟩ v).cell? ⟨b, o, none⟩ = some x := by
  rw [World.cell?_setCell_far _ _ _ _ (by simp; omega), World.cell?_setCell_far _ _ _ _ (by simp; omega)]; exact h
theorem cell_alloc {w : World} {b o : Nat} {x : Value} (h : w.cell? ⟨b, o, none⟩ = some x) (ob : Obj) : (w.alloc ob).cell? ⟨b, o, none⟩ = some x :=
  kept_cell ((Below.refl _ _).alloc (Nat.le_refl _) ob) h
theorem below_set2 {B : Nat} {W w : World} {d : Nat} (h : Below B W w) (hd : B ≤ d) (u v : Value) : Below B W ((w.setCell ⟨d, 0, none⟩ u).setCell ⟨d, 1, none⟩ v) :=
  (h.setCell (p := ⟨d, 0, none⟩) hd u).setCell (p := ⟨d, 1, none⟩) hd v

theorem md_eq (a b c : Int) (hc : 0 < c) : mdN a b c = tQ (a * b) c ∧ mdR a b c = tR (a * b) c ∧ mdB a b c = tB (a * b) c := by
  have h : a * b / 18446744073709551616 < c ↔ a * b / c < 18446744073709551616 := by
    rw [Int.ediv_lt_iff_lt_mul (by omega), Int.ediv_lt_iff_lt_mul hc, Int.mul_comm c]
  unfold mdN mdR mdB tQ tR tB
  by_cases g : a * b / c < 18446744073709551616
  · have g' := h.2 g
    rw [if_pos g, if_pos g, if_pos g', if_pos g', decide_eq_true g, decide_eq_true g']
    exact ⟨rfl, rfl, rfl⟩
  · have g' := fun x => g (h.1 x)
    rw [if_neg g, if_neg g, if_neg g', if_neg g', decide_eq_false g, decide_eq_false g']
    exact ⟨rfl, rfl, rfl⟩

set_option maxHeartbeats 400000 in
theorem rmuldiv_zero (a b : Int) (w : World) :
    Calls Try.prog 24 #[.int .u64 a, .int .u64 b, .int .u64 0] w fun e w' => e = .returned (.agg #[.int .u64 0, .int .u64 0, .bool false]) ∧ Below w.heap.size w w' := by
  go_enter Try.func24, Try.ntmps24
  go_wp2
  exact bodyPost_ret (v := .agg #[.int .u64 0, .int .u64 0, .bool false]) (by simp [results, Try.results24, go_sem]) rfl ⟨rfl, (Below.refl _ _).alloc (Nat.le_refl _) _⟩

theorem rmuldiv_any (a b c : Int) (ha : U64 a) (hb : U64 b) (hc : U64 c) (w : World) :
    Calls Try.prog 24 #[.int .u64 a, .int .u64 b, .int .u64 c] w fun e w' => e = .returned (.agg #[.int .u64 (mdN a b c), .int .u64 (mdR a b c), .bool (mdB a b c)]) ∧ Below w.heap.size w w' := by
  have h0 := hc.1; have hb2 := hb.2
  rcases (show c = 0 ∨ 0 < c by omega) with h | h
  · subst h
    have hn := Int.mul_nonneg ha.1 hb.1
    have : ¬ a * b / 18446744073709551616 < 0 := by omega
    unfold mdN mdR mdB
    rw [if_neg this, if_neg this, decide_eq_false this]
    exact rmuldiv_zero a b w
  · obtain ⟨e1, e2, e3⟩ := md_eq a b c h
    rw [e1, e2, e3]
    obtain ⟨β, rfl⟩ := Int.eq_ofNat_of_zero_le hb.1
    exact rmuldiv_pos a c β ha (by omega) hc h w

end Go.Proofs.Ytlpkilfpjdggeaa
