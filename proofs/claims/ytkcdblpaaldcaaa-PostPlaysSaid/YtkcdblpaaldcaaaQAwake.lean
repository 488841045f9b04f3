/-
  The walk over the chapter's example.
-/
import Derived.Test.YtkcdblpaaldcaaaQWalk5
namespace Go.Proofs.Ytkcdblpaaldcaaa
open Go.RowKit Go.Maps Go.Conc

theorem low_step {B : Nat} {W w w' : World} {b c : Nat} (h : Below B W w) (hs : W.heap.size = B) (hn : B ≤ b ∧ B ≤ c) (ht : Turn (Two b c) w w') : Below B W w' :=
  h.trans (ht.below (by have := h.size; omega) (fun i z => by rcases z with rfl | rfl <;> omega))

/-- A box of one's own. -/
structure Mine (W w : World) (b c n : Nat) (q : List Req) (sh : Bool) : Prop where
  box : Box w b c n q sh
  low : Below W.heap.size W w
  new : W.heap.size ≤ b ∧ W.heap.size ≤ c
theorem Mine.step {W w w' : World} {b c n : Nat} {q q' : List Req} {sh sh' : Bool} (h : Mine W w b c n q sh) (l : Looks w b c n q' sh' w') : Mine W w' b c n q' sh' :=
  ⟨l.1, low_step h.low rfl h.new l.2, h.new⟩
theorem Mine.below {W w w' : World} {b c n : Nat} {q : List Req} {sh : Bool} (h : Mine W w b c n q sh) (hb : Below w.heap.size w w') : Mine W w' b c n q sh :=
  ⟨h.box.below hb, h.low.trans (hb.mono h.low.size), h.new⟩
theorem Mine.alloc {W w : World} {b c n : Nat} {q : List Req} {sh : Bool} (h : Mine W w b c n q sh) (o : Obj) : Mine W (w.alloc o) b c n q sh := h.below ((Below.refl _ _).alloc (Nat.le_refl _) o)
theorem Mine.drew {W w : World} {b c n : Nat} {q : List Req} {sh : Bool} (h : Mine W w b c n q sh) : Mine W w.drew b c n q sh := h.below (Below.refl _ _).drew
theorem mine_new {W w w' : World} {b c n : Nat} (hb : Below W.heap.size W w) (h : Box w' b c n [] false ∧ Below w.heap.size w w' ∧ ∀ k, Two b c k → w.heap.size ≤ k) : Mine W w' b c n [] false :=
  ⟨h.1, hb.trans (h.2.1.mono hb.size), by have := h.2.2 b (.inl rfl); have := h.2.2 c (.inr rfl); have := hb.size; omega⟩

theorem new_lit (z : Int) (n : Nat) (hz : z = (n : Int)) (h1 : 1 ≤ z) (h2 : z ≤ 1000) (w : World) : Calls Try.prog 10 #[.int .i64 z] w fun r w' => ∃ b c, r = .returned (.pointer (some ⟨b, 0, none⟩)) ∧ Box w' b c n [] false ∧ Below w.heap.size w w' ∧ ∀ k, Two b c k → w.heap.size ≤ k := by
  subst hz
  exact new_some n h1 h2 w

set_option maxRecDepth 100000 in
set_option maxHeartbeats 2000000 in
theorem awake_any (W : World) : Calls Try.prog 9 #[] W fun r w' => r = .returned (.bool true) ∧ Below W.heap.size W w' := by
  go_enter Try.func9, Try.ntmps9
  go_wp2_with (first
    | (go_at_call 10; refine (new_some 1 (by omega) (by omega) _).mono ?_; rintro e w1 ⟨b, c, rfl, h1⟩; have H1 := Lib.hid (mine_new (Below.refl _ _) h1); clear h1)
    | (go_at_call 19; refine (put_some 1 2 H1.out.box).mono ?_; rintro e w2 ⟨rfl, h2⟩; have H2 := Lib.hid (H1.out.step h2); clear h2 H1)
    | (go_at_call 19; refine (put_some 3 0 H2.out.box).mono ?_; rintro e w3 ⟨rfl, h3⟩; have H3 := Lib.hid (H2.out.step h3); clear h3 H2)
    | (go_at_call 11; refine (take_some (x := (1, 2)) (l := []) H3.out.box).mono ?_; rintro e w4 ⟨rfl, h4⟩; have H4 := Lib.hid (H3.out.step h4); clear h4 H3))
  go_ret
  exact ⟨rfl, (H4.out.alloc _).low⟩
end Go.Proofs.Ytkcdblpaaldcaaa
