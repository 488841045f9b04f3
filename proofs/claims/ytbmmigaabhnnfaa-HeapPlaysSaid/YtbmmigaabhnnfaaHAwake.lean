/-
  A heap of a call's own; the walk over the chapter's example.
-/
import Derived.Test.YtbmmigaabhnnfaaHOps3
namespace Go.Proofs.Ytbmmigaabhnnfaa
open Go.RowKit Go.Maps

/-- A heap that a call has made itself: all its blocks are new. -/
def St (W w : World) (sb : Nat) (mv : Value) (n N : Nat) (c : Int → Option Int) : Prop :=
  mv ≠ .map none ∧ Below W.heap.size W w ∧ ∃ A, Hp w sb mv A n N c ∧ ∀ k, A k → W.heap.size ≤ k

theorem St.low {W w : World} {sb : Nat} {mv : Value} {n N : Nat} {c : Int → Option Int} (h : St W w sb mv n N c) : Below W.heap.size W w := h.2.1
theorem St.below {W w w' : World} {sb : Nat} {mv : Value} {n N : Nat} {c : Int → Option Int} (h : St W w sb mv n N c) (hb : Below w.heap.size w w') : St W w' sb mv n N c := by
  obtain ⟨h1, h2, A, h3, h4⟩ := h
  exact ⟨h1, h2.trans (hb.mono h2.size), A, h3.below hb, h4⟩
theorem St.same {W w w' : World} {sb : Nat} {mv : Value} {n N : Nat} {c : Int → Option Int} (h : St W w sb mv n N c) (e : w'.heap = w.heap) (e1 : w'.os = w.os) (e2 : w'.tape = w.tape) (e3 : w'.output = w.output) : St W w' sb mv n N c :=
  h.below (below_draws (Below.refl _ _) e e1 e2 e3)
theorem st_step {W w w' : World} {sb : Nat} {mv : Value} {A : Nat → Prop} {n N : Nat} {c : Int → Option Int} (h1 : mv ≠ .map none) (h2 : Below W.heap.size W w) (h4 : ∀ k, A k → W.heap.size ≤ k) (hs : Step w sb mv A n N c w') : St W w' sb mv n N c := by
  obtain ⟨A', a, b, d⟩ := hs
  refine ⟨h1, h2.trans (b.below h2.size h4), A', a, fun k hk => ?_⟩
  rcases d k hk with q | q
  · exact h4 k q
  · exact Nat.le_trans h2.size q

theorem st_new (W w : World) (hW : Below W.heap.size W w) : Calls Try.prog 10 #[lessV] w fun r w' => ∃ sb mv, r = .returned (.pointer (some ⟨sb, 0, none⟩)) ∧ St W w' sb mv 0 0 (fun _ => none) :=
  (new_any w).mono fun _ _ ⟨sb, mv, A, h1, h2, h3, h4, h5⟩ => ⟨sb, mv, h1, h3, hW.trans (h4.mono hW.size), A, h2, fun k hk => Nat.le_trans hW.size (h5 k hk)⟩
theorem st_put {W w : World} {sb : Nat} {mv : Value} {n N : Nat} {c : Int → Option Int} (h : St W w sb mv n N c) (hn : (n : Int) + 1 ≤ 1000000) (hN : N + 1 < maxLen) {k x : Int} (hk : I64 k) (hx : I64 x) (hc : c k = none) :
    Calls Try.prog 19 #[.pointer (some ⟨sb, 0, none⟩), .int .i64 k, .int .i64 x] w fun r w' => r = .returned (.bool true) ∧ St W w' sb mv (n + 1) (N + 1) (cput c k x) := by
  obtain ⟨h1, h2, A, h3, h4⟩ := h
  exact (put_any hn hN h1 h3 hk hx hc).mono fun _ _ ⟨a, b⟩ => ⟨a, st_step h1 h2 h4 b⟩
theorem st_low {W w : World} {sb : Nat} {mv : Value} {n N : Nat} {c : Int → Option Int} (h : St W w sb mv n N c) (hn : (n : Int) ≤ 1000000) (hN : N < maxLen) {k x y : Int} (hk : I64 k) (hx : I64 x) (hc : c k = some y) (hxy : x < y) :
    Calls Try.prog 13 #[.pointer (some ⟨sb, 0, none⟩), .int .i64 k, .int .i64 x] w fun r w' => r = .returned (.bool true) ∧ St W w' sb mv n N (cput c k x) := by
  obtain ⟨h1, h2, A, h3, h4⟩ := h
  rcases lower_any hn hN h1 h3 hk hx with ⟨q, _⟩ | ⟨_, q⟩
  · rcases q with q | ⟨z, q, hz⟩
    · rw [hc] at q; cases q
    · rw [hc] at q; cases q; omega
  · exact q.mono fun _ _ ⟨a, b⟩ => ⟨a, st_step h1 h2 h4 b⟩
theorem st_low_no {W w : World} {sb : Nat} {mv : Value} {n N : Nat} {c : Int → Option Int} (h : St W w sb mv n N c) (hn : (n : Int) ≤ 1000000) (hN : N < maxLen) {k x : Int} (hk : I64 k) (hx : I64 x) (hc : ∀ y, c k = some y → y ≤ x) :
    Calls Try.prog 13 #[.pointer (some ⟨sb, 0, none⟩), .int .i64 k, .int .i64 x] w fun r w' => r = .returned (.bool false) ∧ St W w' sb mv n N c := by
  have h0 := h
  obtain ⟨h1, h2, A, h3, h4⟩ := h
  rcases lower_any hn hN h1 h3 hk hx with ⟨_, q⟩ | ⟨⟨y, q, hy⟩, _⟩
  · exact q.mono fun _ _ ⟨a, b⟩ => ⟨a, h0.below b⟩
  · have := hc y q; omega
theorem st_take {W w : World} {sb : Nat} {mv : Value} {m N : Nat} {c : Int → Option Int} (h : St W w sb mv (m + 1) N c) (hn : (m : Int) + 1 ≤ 1000000) (hN : N < maxLen) :
    Calls Try.prog 15 #[.pointer (some ⟨sb, 0, none⟩)] w fun r w' => ∃ k x, r = .returned (.tuple #[.int .i64 k, .int .i64 x, .bool true]) ∧ First c k x ∧ St W w' sb mv m N (cdel c k) := by
  obtain ⟨h1, h2, A, h3, h4⟩ := h
  exact (take_any hn hN h3).mono fun _ _ ⟨k, x, a, b, d⟩ => ⟨k, x, a, b, st_step h1 h2 h4 d⟩
theorem st_take_no {W w : World} {sb : Nat} {mv : Value} {N : Nat} {c : Int → Option Int} (h : St W w sb mv 0 N c) :
    Calls Try.prog 15 #[.pointer (some ⟨sb, 0, none⟩)] w fun r w' => r = .returned (.tuple #[.int .i64 0, .int .i64 0, .bool false]) ∧ St W w' sb mv 0 N c := by
  have h0 := h
  obtain ⟨h1, h2, A, h3, h4⟩ := h
  exact (take_empty h3).mono fun _ _ ⟨a, b⟩ => ⟨a, h0.below b⟩
theorem st_min {W w : World} {sb : Nat} {mv : Value} {n N : Nat} {c : Int → Option Int} (h : St W w sb mv n N c) (hn : 0 < n) :
    Calls Try.prog 23 #[.pointer (some ⟨sb, 0, none⟩)] w fun r w' => ∃ k x, r = .returned (.tuple #[.int .i64 k, .int .i64 x, .bool true]) ∧ First c k x ∧ St W w' sb mv n N c := by
  have h0 := h
  obtain ⟨h1, h2, A, h3, h4⟩ := h
  exact (min_any hn h3).mono fun _ _ ⟨k, x, a, b, d⟩ => ⟨k, x, a, b, h0.below d⟩
theorem st_get {W w : World} {sb : Nat} {mv : Value} {n N : Nat} {c : Int → Option Int} (h : St W w sb mv n N c) (hn : (n : Int) ≤ 1000000) {k : Int} (hk : I64 k) :
    Calls Try.prog 21 #[.pointer (some ⟨sb, 0, none⟩), .int .i64 k] w fun r w' => r = .returned (.tuple #[.int .i64 ((c k).getD 0), .bool (c k).isSome]) ∧ St W w' sb mv n N c := by
  have h0 := h
  obtain ⟨h1, h2, A, h3, h4⟩ := h
  exact (get_any hn h1 h3 hk).mono fun _ _ ⟨a, b⟩ => ⟨a, h0.below b⟩
theorem st_drop {W w : World} {sb : Nat} {mv : Value} {n N : Nat} {c : Int → Option Int} (h : St W w sb mv n N c) (hn : (n : Int) ≤ 1000000) (hN : N < maxLen) {k : Int} (hk : I64 k) :
    Calls Try.prog 17 #[.pointer (some ⟨sb, 0, none⟩), .int .i64 k] w fun r w' => r = .returned (.bool (c k).isSome) ∧ St W w' sb mv (if (c k).isSome then n - 1 else n) N (cdel c k) := by
  obtain ⟨h1, h2, A, h3, h4⟩ := h
  exact (drop_any hn hN h1 h3 hk).mono fun _ _ ⟨a, b⟩ => ⟨a, st_step h1 h2 h4 b⟩
theorem st_len {W w : World} {sb : Nat} {mv : Value} {n N : Nat} {c : Int → Option Int} (h : St W w sb mv n N c) :
    Calls Try.prog 28 #[.pointer (some ⟨sb, 0, none⟩)] w fun r w' => r = .returned (.int .i64 (n : Int)) ∧ w = w' := by
  obtain ⟨h1, h2, A, h3, h4⟩ := h
  exact len_any h3

theorem first_is {c : Int → Option Int} {k x k' x' : Int} (h : First c k x) (h1 : c k' = some x') (h2 : ∀ j y, c j = some y → lt2 (j, y) (k', x') = false) : k = k' ∧ x = x' := by
  have a := lt2_no.1 (h.2 _ _ h1)
  have b := lt2_no.1 (h2 _ _ h.1)
  simp only at a b
  omega

set_option maxRecDepth 100000 in
set_option maxHeartbeats 2000000 in
theorem awake_any (w : World) : Calls Try.prog 9 #[] w fun r w' => r = .returned (.bool true) ∧ Below w.heap.size w w' := by
  have C0 := Lib.hid (st_new w w (Below.refl _ _))
  unfold lessV at C0
  have C1 := Lib.hid (fun v sb mv (h : St w v sb mv 0 0 (fun _ => none)) => st_put h (by omega) (by unfold maxLen; omega) (k := 1) (x := 3) (by unfold I64; omega) (by unfold I64; omega) rfl)
  have C2 := Lib.hid (fun v sb mv (h : St w v sb mv (0 + 1) (0 + 1) (cput (fun _ => none) 1 3)) => st_put h (by omega) (by unfold maxLen; omega) (k := 2) (x := 5) (by unfold I64; omega) (by unfold I64; omega) rfl)
  have C3 := Lib.hid (fun v sb mv (h : St w v sb mv (0 + 1 + 1) (0 + 1 + 1) (cput (cput (fun _ => none) 1 3) 2 5)) => st_low h (by omega) (by unfold maxLen; omega) (k := 2) (x := 1) (y := 5) (by unfold I64; omega) (by unfold I64; omega) rfl (by omega))
  have C4 : Hid (∀ v sb mv, St w v sb mv (0 + 1 + 1) (0 + 1 + 1) (cput (cput (cput (fun _ => none) 1 3) 2 5) 2 1) → Calls Try.prog 15 #[.pointer (some ⟨sb, 0, none⟩)] v fun r w' => r = .returned (.tuple #[.int .i64 2, .int .i64 1, .bool true]) ∧ Below w.heap.size w w') := fun v sb mv h =>
    (st_take h (by omega) (by unfold maxLen; omega)).mono fun r w' ⟨k, x, a, b, d⟩ => by
      obtain ⟨rfl, rfl⟩ := first_is b (k' := 2) (x' := 1) rfl (by
        intro j y hj
        rw [lt2_no]
        simp only
        by_cases q2 : j = 2
        · simp [cput, q2] at hj; omega
        · by_cases q1 : j = 1
          · simp [cput, q1] at hj; omega
          · simp [cput, q1, q2] at hj)
      exact ⟨a, d.low⟩
  go_enter Try.func9, Try.ntmps9
  go_wp2_with (first
    | (go_at_call 10; (refine (C0.out).mono ?_); rintro r w1 ⟨sb, mv, rfl, h1⟩; have H1 := Lib.hid h1; clear h1)
    | (go_at_call 19; (with_reducible refine (C1.out _ _ _ H1.out).mono ?_); rintro r w2 ⟨rfl, h2⟩; have H2 := Lib.hid h2; clear h2)
    | (go_at_call 19; (with_reducible refine (C2.out _ _ _ H2.out).mono ?_); rintro r w3 ⟨rfl, h3⟩; have H3 := Lib.hid h3; clear h3)
    | (go_at_call 13; (with_reducible refine (C3.out _ _ _ H3.out).mono ?_); rintro r w4 ⟨rfl, h4⟩; have H4 := Lib.hid h4; clear h4)
    | (go_at_call 15; (with_reducible refine (C4.out _ _ _ H4.out).mono ?_); rintro r w5 ⟨rfl, h5⟩; have H5 := Lib.hid h5; clear h5))
  go_ret
  exact ⟨rfl, H5.out⟩

end Go.Proofs.Ytbmmigaabhnnfaa
