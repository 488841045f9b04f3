/-
  The walk over the statement on boxes that are none.
-/
import Derived.Test.YtkcdblpaaldcaaaQAwake
namespace Go.Proofs.Ytkcdblpaaldcaaa
open Go.RowKit Go.Maps Go.Conc

/-- A block of one request ahead of all else. -/
theorem kept_req {W W0 w : World} {x y : Int} (hW : W0 = W.alloc (.cells #[.int .i64 x, .int .i64 y] 31)) (h : Below W0.heap.size W0 w) : w.cell? ⟨W.heap.size, 0, none⟩ = some (.int .i64 x) ∧ w.cell? ⟨W.heap.size, 1, none⟩ = some (.int .i64 y) := by
  subst hW
  refine ⟨?_, ?_⟩
  · rw [h.cell (p := ⟨W.heap.size, 0, none⟩) (by simp), World.cell?_alloc_new]; rfl
  · rw [h.cell (p := ⟨W.heap.size, 1, none⟩) (by simp), World.cell?_alloc_new]; rfl

set_option maxRecDepth 100000 in
set_option maxHeartbeats 4000000 in
theorem law_nil_in (n : Nat) (h1 : 1 ≤ (n : Int)) (h2 : (n : Int) ≤ 1000) (x y : Int) (W : World) : Calls Try.prog 7 #[.int .i64 n, .agg #[.int .i64 x, .int .i64 y]] W fun e w' => e = .returned (.bool true) ∧ Below W.heap.size W w' := by
  obtain ⟨W0, hW0⟩ : ∃ W0, W0 = W.alloc (.cells #[.int .i64 x, .int .i64 y] 31) := ⟨_, rfl⟩
  have HB : Hid (Below W.heap.size W W0) := by subst hW0; exact (Below.refl _ _).alloc (Nat.le_refl _) _
  have CE := Lib.hid (fun w (h : Below W0.heap.size W0 w) => kept_req hW0 h)
  have CA := Lib.hid (fun w => awake_any w)
  have C3 := Lib.hid (fun w => new_lit 3 3 rfl (by omega) (by omega) w)
  go_enter Try.func7, Try.ntmps7
  go_upto_region 1 with (fail)
  rw [← hW0]
  clear hW0
  go_wp2_with (first
    | (go_at_call 10; (with_reducible refine (new_some n h1 h2 _).mono ?_); rintro e w1 ⟨b, c, rfl, z1⟩; have H1 := Lib.hid z1.2.1; clear z1)
    | (go_at_call 11; (with_reducible refine (take_nil _).mono ?_); rintro e w2 ⟨rfl, z2⟩; have H2 := Lib.hid ((H1.out.trans (z2.mono H1.out.size)).alloc (Nat.le_trans H1.out.size z2.size) (.cells #[.int .i64 0, .int .i64 0] 31)); clear z2)
    | (go_at_call 10; (with_reducible refine (C3.out _).mono ?_); rintro e w3 ⟨b3, c3, rfl, z3⟩; have H3 := Lib.hid (mine_new H2.out z3); obtain ⟨n0, n1⟩ := CE.out _ H3.out.low; clear z3)
    | (go_at_call 19; (with_reducible refine (put_some x y H3.out.box).mono ?_); rintro e w4 ⟨rfl, z4⟩; have H4 : Hid (Mine W0 w4 b3 c3 3 [(x, y)] false) := H3.out.step z4; clear z4 H3)
    | (go_at_call 9; (with_reducible refine (CA.out _).mono ?_); rintro e w5 ⟨rfl, z5⟩; have H5 := Lib.hid (H4.out.below z5); clear z5 H4 n0 n1; obtain ⟨n0, n1⟩ := CE.out _ H5.out.low)
    | (go_at_call 19; (with_reducible refine (put_nil _ _ _).mono ?_); rintro e w6 ⟨rfl, z6⟩; have H6 := Lib.hid (H5.out.below z6); clear z6 H5 n0 n1)
    | (go_at_call 14; (with_reducible refine (drain_nil _ _).mono ?_); rintro e w7 ⟨rfl, rfl⟩)
    | (go_at_call 16; (with_reducible refine (move_from_nil _ H6.out.box).mono ?_); rintro e w8 ⟨rfl, z8⟩; have H8 := Lib.hid (H6.out.step z8); clear z8 H6)
    | (go_at_call 16; (with_reducible refine (move_to_nil _ _ _).mono ?_); rintro e w9 ⟨rfl, rfl⟩)
    | (go_at_call 18; (with_reducible refine (shut_nil _).mono ?_); rintro e w9 ⟨rfl, rfl⟩)
    | (go_at_call 24; (with_reducible refine (open_nil _).mono ?_); rintro e w9 ⟨rfl, rfl⟩)
    | (go_at_call 21; (with_reducible refine (len_nil _).mono ?_); rintro e w9 ⟨rfl, rfl⟩)
    | (go_at_call 22; (with_reducible refine (room_nil _).mono ?_); rintro e w9 ⟨rfl, rfl⟩)
    | (go_at_call 21; (with_reducible refine (len_some H8.out.box).mono ?_); rintro e w9 ⟨rfl, z9⟩; have H9 := Lib.hid (H8.out.step z9); clear z9 H8))
  go_ret
  exact ⟨by first | (simp; done) | (simp; omega), HB.out.trans (H9.out.low.mono HB.out.size)⟩

set_option maxRecDepth 100000 in
set_option maxHeartbeats 4000000 in
theorem law_nil_lo (n : Int) (h1 : n < 1) (x y : Int) (W : World) : Calls Try.prog 7 #[.int .i64 n, .agg #[.int .i64 x, .int .i64 y]] W fun e w' => e = .returned (.bool true) ∧ Below W.heap.size W w' := by
  obtain ⟨W0, hW0⟩ : ∃ W0, W0 = W.alloc (.cells #[.int .i64 x, .int .i64 y] 31) := ⟨_, rfl⟩
  have HB : Hid (Below W.heap.size W W0) := by subst hW0; exact (Below.refl _ _).alloc (Nat.le_refl _) _
  have CE := Lib.hid (fun w (h : Below W0.heap.size W0 w) => kept_req hW0 h)
  have CA := Lib.hid (fun w => awake_any w)
  have C3 := Lib.hid (fun w => new_lit 3 3 rfl (by omega) (by omega) w)
  go_enter Try.func7, Try.ntmps7
  go_upto_region 1 with (fail)
  rw [← hW0]
  clear hW0
  go_wp2_with (first
    | (go_at_call 10; (with_reducible refine (new_none n (.inl h1) _).mono ?_); rintro e w1 ⟨rfl, rfl⟩; have H1 := Lib.hid (Below.refl W0.heap.size W0))
    | (go_at_call 11; (with_reducible refine (take_nil _).mono ?_); rintro e w2 ⟨rfl, z2⟩; have H2 := Lib.hid ((H1.out.trans (z2.mono H1.out.size)).alloc (Nat.le_trans H1.out.size z2.size) (.cells #[.int .i64 0, .int .i64 0] 31)); clear z2)
    | (go_at_call 10; (with_reducible refine (C3.out _).mono ?_); rintro e w3 ⟨b3, c3, rfl, z3⟩; have H3 := Lib.hid (mine_new H2.out z3); obtain ⟨n0, n1⟩ := CE.out _ H3.out.low; clear z3)
    | (go_at_call 19; (with_reducible refine (put_some x y H3.out.box).mono ?_); rintro e w4 ⟨rfl, z4⟩; have H4 : Hid (Mine W0 w4 b3 c3 3 [(x, y)] false) := H3.out.step z4; clear z4 H3)
    | (go_at_call 9; (with_reducible refine (CA.out _).mono ?_); rintro e w5 ⟨rfl, z5⟩; have H5 := Lib.hid (H4.out.below z5); clear z5 H4 n0 n1; obtain ⟨n0, n1⟩ := CE.out _ H5.out.low)
    | (go_at_call 19; (with_reducible refine (put_nil _ _ _).mono ?_); rintro e w6 ⟨rfl, z6⟩; have H6 := Lib.hid (H5.out.below z6); clear z6 H5 n0 n1)
    | (go_at_call 14; (with_reducible refine (drain_nil _ _).mono ?_); rintro e w7 ⟨rfl, rfl⟩)
    | (go_at_call 16; (with_reducible refine (move_from_nil _ H6.out.box).mono ?_); rintro e w8 ⟨rfl, z8⟩; have H8 := Lib.hid (H6.out.step z8); clear z8 H6)
    | (go_at_call 16; (with_reducible refine (move_to_nil _ _ _).mono ?_); rintro e w9 ⟨rfl, rfl⟩)
    | (go_at_call 18; (with_reducible refine (shut_nil _).mono ?_); rintro e w9 ⟨rfl, rfl⟩)
    | (go_at_call 24; (with_reducible refine (open_nil _).mono ?_); rintro e w9 ⟨rfl, rfl⟩)
    | (go_at_call 21; (with_reducible refine (len_nil _).mono ?_); rintro e w9 ⟨rfl, rfl⟩)
    | (go_at_call 22; (with_reducible refine (room_nil _).mono ?_); rintro e w9 ⟨rfl, rfl⟩)
    | (go_at_call 21; (with_reducible refine (len_some H8.out.box).mono ?_); rintro e w9 ⟨rfl, z9⟩; have H9 := Lib.hid (H8.out.step z9); clear z9 H8))
  go_ret
  exact ⟨by first | (simp; done) | (simp; omega), HB.out.trans (H9.out.low.mono HB.out.size)⟩

set_option maxRecDepth 100000 in
set_option maxHeartbeats 4000000 in
theorem law_nil_hi (n : Int) (h1 : 1000 < n) (x y : Int) (W : World) : Calls Try.prog 7 #[.int .i64 n, .agg #[.int .i64 x, .int .i64 y]] W fun e w' => e = .returned (.bool true) ∧ Below W.heap.size W w' := by
  obtain ⟨W0, hW0⟩ : ∃ W0, W0 = W.alloc (.cells #[.int .i64 x, .int .i64 y] 31) := ⟨_, rfl⟩
  have HB : Hid (Below W.heap.size W W0) := by subst hW0; exact (Below.refl _ _).alloc (Nat.le_refl _) _
  have CE := Lib.hid (fun w (h : Below W0.heap.size W0 w) => kept_req hW0 h)
  have CA := Lib.hid (fun w => awake_any w)
  have C3 := Lib.hid (fun w => new_lit 3 3 rfl (by omega) (by omega) w)
  have h0 : 1 ≤ n := by omega
  go_enter Try.func7, Try.ntmps7
  go_upto_region 1 with (fail)
  rw [← hW0]
  clear hW0
  go_wp2_with (first
    | (go_at_call 10; (with_reducible refine (new_none n (.inr h1) _).mono ?_); rintro e w1 ⟨rfl, rfl⟩; have H1 := Lib.hid (Below.refl W0.heap.size W0))
    | (go_at_call 11; (with_reducible refine (take_nil _).mono ?_); rintro e w2 ⟨rfl, z2⟩; have H2 := Lib.hid ((H1.out.trans (z2.mono H1.out.size)).alloc (Nat.le_trans H1.out.size z2.size) (.cells #[.int .i64 0, .int .i64 0] 31)); clear z2)
    | (go_at_call 10; (with_reducible refine (C3.out _).mono ?_); rintro e w3 ⟨b3, c3, rfl, z3⟩; have H3 := Lib.hid (mine_new H2.out z3); obtain ⟨n0, n1⟩ := CE.out _ H3.out.low; clear z3)
    | (go_at_call 19; (with_reducible refine (put_some x y H3.out.box).mono ?_); rintro e w4 ⟨rfl, z4⟩; have H4 : Hid (Mine W0 w4 b3 c3 3 [(x, y)] false) := H3.out.step z4; clear z4 H3)
    | (go_at_call 9; (with_reducible refine (CA.out _).mono ?_); rintro e w5 ⟨rfl, z5⟩; have H5 := Lib.hid (H4.out.below z5); clear z5 H4 n0 n1; obtain ⟨n0, n1⟩ := CE.out _ H5.out.low)
    | (go_at_call 19; (with_reducible refine (put_nil _ _ _).mono ?_); rintro e w6 ⟨rfl, z6⟩; have H6 := Lib.hid (H5.out.below z6); clear z6 H5 n0 n1)
    | (go_at_call 14; (with_reducible refine (drain_nil _ _).mono ?_); rintro e w7 ⟨rfl, rfl⟩)
    | (go_at_call 16; (with_reducible refine (move_from_nil _ H6.out.box).mono ?_); rintro e w8 ⟨rfl, z8⟩; have H8 := Lib.hid (H6.out.step z8); clear z8 H6)
    | (go_at_call 16; (with_reducible refine (move_to_nil _ _ _).mono ?_); rintro e w9 ⟨rfl, rfl⟩)
    | (go_at_call 18; (with_reducible refine (shut_nil _).mono ?_); rintro e w9 ⟨rfl, rfl⟩)
    | (go_at_call 24; (with_reducible refine (open_nil _).mono ?_); rintro e w9 ⟨rfl, rfl⟩)
    | (go_at_call 21; (with_reducible refine (len_nil _).mono ?_); rintro e w9 ⟨rfl, rfl⟩)
    | (go_at_call 22; (with_reducible refine (room_nil _).mono ?_); rintro e w9 ⟨rfl, rfl⟩)
    | (go_at_call 21; (with_reducible refine (len_some H8.out.box).mono ?_); rintro e w9 ⟨rfl, z9⟩; have H9 := Lib.hid (H8.out.step z9); clear z9 H8))
  go_ret
  exact ⟨by first | (simp; done) | (simp; omega), HB.out.trans (H9.out.low.mono HB.out.size)⟩

theorem law_nil (n : Int) (_ : (Lit.int .i64 n).wf = true) (x y : Int) (W : World) : Calls Try.prog 7 #[.int .i64 n, .agg #[.int .i64 x, .int .i64 y]] W fun e w' => e = .returned (.bool true) ∧ Below W.heap.size W w' := by
  by_cases h1 : n < 1
  · exact law_nil_lo n h1 x y W
  · by_cases h2 : 1000 < n
    · exact law_nil_hi n h2 x y W
    · obtain ⟨k, rfl⟩ : ∃ k : Nat, n = (k : Int) := ⟨n.toNat, by omega⟩
      exact law_nil_in k (by omega) (by omega) x y W
end Go.Proofs.Ytkcdblpaaldcaaa
