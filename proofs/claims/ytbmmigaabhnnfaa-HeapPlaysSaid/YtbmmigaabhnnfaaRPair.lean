/-
  A heap and the document's own heap side by side: each step told of both.
-/
import Derived.Test.YtbmmigaabhnnfaaROps5
namespace Go.Proofs.Ytbmmigaabhnnfaa
open Go.RowKit Go.Maps

/-- A heap of the call's own, and the document's own heap, that share no block. -/
structure RPr (W w : World) (sa : Nat) (ma : Value) (na N : Nat) (ca : Int → Option Int) (rb nb : Nat) (cb : Int → Option Int) : Prop where
  ha : ma ≠ .map none
  low : Below W.heap.size W w
  ex : ∃ A B, Hp w sa ma A na N ca ∧ Rp w rb B nb cb ∧ (∀ k, A k → W.heap.size ≤ k) ∧ (∀ k, B k → W.heap.size ≤ k) ∧ ∀ k, A k → ¬ B k
/-- .. beside a step's own cells. -/
structure RSt (W w : World) (sa : Nat) (ma : Value) (na N : Nat) (ca : Int → Option Int) (rb nb : Nat) (cb : Int → Option Int) (ob : Nat) (oo : Array Value) : Prop where
  ha : ma ≠ .map none
  low : Below W.heap.size W w
  obj : w.heap[ob]? = some (.cells oo 32 (0, 0))
  ex : ∃ A B, Hp w sa ma A na N ca ∧ Rp w rb B nb cb ∧ (∀ k, A k → W.heap.size ≤ k) ∧ (∀ k, B k → W.heap.size ≤ k) ∧ (∀ k, A k → ¬ B k) ∧ ¬ A ob ∧ ¬ B ob

section
variable {W w w' : World} {sa na N rb nb ob : Nat} {ma : Value} {ca cb : Int → Option Int} {oo : Array Value}

theorem RPr.below (h : RPr W w sa ma na N ca rb nb cb) (hb : Below w.heap.size w w') : RPr W w' sa ma na N ca rb nb cb := by
  obtain ⟨A, B, h1, h2, h3, h4, h5⟩ := h.ex
  exact ⟨h.ha, h.low.trans (hb.mono h.low.size), A, B, h1.below hb, h2.below hb, h3, h4, h5⟩
theorem RSt.below (h : RSt W w sa ma na N ca rb nb cb ob oo) (hb : Below w.heap.size w w') : RSt W w' sa ma na N ca rb nb cb ob oo := by
  obtain ⟨A, B, h1, h2, h3⟩ := h.ex
  exact ⟨h.ha, h.low.trans (hb.mono h.low.size), (hb.block _ (lt_of_block h.obj)).trans h.obj, A, B, h1.below hb, h2.below hb, h3⟩
theorem RSt.drew (h : RSt W w sa ma na N ca rb nb cb ob oo) : RSt W w.drew sa ma na N ca rb nb cb ob oo := h.below (Below.refl _ _).drew
theorem RSt.alloc (h : RSt W w sa ma na N ca rb nb cb ob oo) (o : Obj) : RSt W (w.alloc o) sa ma na N ca rb nb cb ob oo := h.below ((Below.refl _ _).alloc (Nat.le_refl _) o)
theorem RSt.pr (h : RSt W w sa ma na N ca rb nb cb ob oo) : RPr W w sa ma na N ca rb nb cb := by
  obtain ⟨A, B, h1, h2, h3, h4, h5, _⟩ := h.ex
  exact ⟨h.ha, h.low, A, B, h1, h2, h3, h4, h5⟩
theorem RPr.st (h : RPr W w sa ma na N ca rb nb cb) (oo : Array Value) : RSt W (w.alloc (.cells oo 32)) sa ma na N ca rb nb cb w.heap.size oo := by
  obtain ⟨A, B, h1, h2, h3, h4, h5⟩ := h.ex
  have hb : Below w.heap.size w (w.alloc (.cells oo 32)) := (Below.refl _ _).alloc (Nat.le_refl _) _
  exact ⟨h.ha, h.low.trans (hb.mono h.low.size), heap_alloc_new _ _, A, B, h1.below hb, h2.below hb, h3, h4, h5, fun q => Nat.lt_irrefl _ (h1.lt q), fun q => Nat.lt_irrefl _ (h2.lt q)⟩
theorem RSt.a (h : RSt W w sa ma na N ca rb nb cb ob oo) : ∃ A, Hp w sa ma A na N ca ∧ ∀ w' n' N' c', Step w sa ma A n' N' c' w' → RSt W w' sa ma n' N' c' rb nb cb ob oo := by
  obtain ⟨A, B, h1, h2, h3, h4, h5, h6, h7⟩ := h.ex
  refine ⟨A, h1, fun w' n' N' c' ⟨A', d1, d2, d3⟩ => ⟨h.ha, h.low.trans (d2.below h.low.size h3), d2.obj h.obj h6, A', B, d1, h2.kept d2 (fun k hb ha => h5 k ha hb), fun k hk => ?_, h4, fun k ha hb => ?_, fun hk => ?_, h7⟩⟩
  · rcases d3 k hk with q | q
    · exact h3 k q
    · exact Nat.le_trans h.low.size q
  · rcases d3 k ha with q | q
    · exact h5 k q hb
    · have := h2.lt hb; omega
  · rcases d3 _ hk with q | q
    · exact h6 q
    · have := lt_of_block h.obj; omega
theorem RSt.b (h : RSt W w sa ma na N ca rb nb cb ob oo) : ∃ B, Rp w rb B nb cb ∧ ∀ w' n' c', RStep w rb B n' c' w' → RSt W w' sa ma na N ca rb n' c' ob oo := by
  obtain ⟨A, B, h1, h2, h3, h4, h5, h6, h7⟩ := h.ex
  refine ⟨B, h2, fun w' n' c' ⟨B', d1, d2, d3⟩ => ⟨h.ha, h.low.trans (d2.below h.low.size h4), d2.obj h.obj h7, A, B', h1.kept d2 h5, d1, h3, fun k hk => ?_, fun k ha hb => ?_, h6, fun hk => ?_⟩⟩
  · rcases d3 k hk with q | q
    · exact h4 k q
    · exact Nat.le_trans h.low.size q
  · rcases d3 k hb with q | q
    · exact h5 k ha q
    · have := h1.lt ha; omega
  · rcases d3 _ hk with q | q
    · exact h7 q
    · have := lt_of_block h.obj; omega
end

section
variable {W : World} {sa n N rb ob : Nat} {ma : Value} {c : Int → Option Int} {oo : Array Value}

theorem rs_lower (sa N rb ob : Nat) (W : World) (ma : Value) (oo : Array Value) (c : Int → Option Int) (hn : (n : Int) ≤ 1000) (hN : (N : Int) ≤ 1000) {k x : Int} (hk : I64 k) (hx : I64 x) : ∃ b c1,
    (∀ w, RSt W w sa ma n N c rb n c ob oo → Calls Try.prog 13 #[.pointer (some ⟨sa, 0, none⟩), .int .i64 k, .int .i64 x] w fun r w' => r = .returned (.bool b) ∧ RSt W w' sa ma n N c1 rb n c ob oo) ∧
    (∀ w, RSt W w sa ma n N c1 rb n c ob oo → Calls Try.prog 14 #[.pointer (some ⟨rb, 0, none⟩), .int .i64 k, .int .i64 x] w fun r w' => r = .returned (.bool b) ∧ RSt W w' sa ma n N c1 rb n c1 ob oo) := by
  by_cases hy : ∃ y, c k = some y ∧ x < y
  · refine ⟨true, cput c k x, fun w h => ?_, fun w h => ?_⟩
    · obtain ⟨A, h1, h2⟩ := h.a
      rcases lower_any (by omega) (by unfold maxLen; omega) h.ha h1 hk hx with ⟨q, _⟩ | ⟨_, q⟩
      · obtain ⟨y, e1, e2⟩ := hy
        rcases q with q | ⟨z, q, hz⟩
        · rw [e1] at q; cases q
        · rw [e1] at q; cases q; omega
      · exact q.mono fun r w' ⟨a, b⟩ => ⟨a, h2 _ _ _ _ b⟩
    · obtain ⟨B, h1, h2⟩ := h.b
      rcases rlower_any (by omega) h1 (k := k) hx with ⟨q, _⟩ | ⟨_, q⟩
      · obtain ⟨y, e1, e2⟩ := hy
        rcases q with q | ⟨z, q, hz⟩
        · rw [e1] at q; cases q
        · rw [e1] at q; cases q; omega
      · exact q.mono fun r w' ⟨a, b⟩ => ⟨a, h2 _ _ _ b⟩
  · refine ⟨false, c, fun w h => ?_, fun w h => ?_⟩
    · obtain ⟨A, h1, h2⟩ := h.a
      rcases lower_any (by omega) (by unfold maxLen; omega) h.ha h1 hk hx with ⟨_, q⟩ | ⟨q, _⟩
      · exact q.mono fun r w' ⟨a, b⟩ => ⟨a, h.below b⟩
      · exact absurd q hy
    · obtain ⟨B, h1, h2⟩ := h.b
      rcases rlower_any (by omega) h1 (k := k) hx with ⟨_, q⟩ | ⟨q, _⟩
      · exact q.mono fun r w' ⟨a, b⟩ => ⟨a, by rw [← b]; exact h⟩
      · exact absurd q hy

theorem rs_put (sa N rb ob : Nat) (W : World) (ma : Value) (oo : Array Value) (c : Int → Option Int) (hn : (n : Int) ≤ 1000) (hN : (N : Int) ≤ 1000) {k x : Int} (hk : I64 k) (hx : I64 x) : ∃ b n1 N1 c1, n1 ≤ n + 1 ∧ N1 ≤ N + 1 ∧
    (∀ w, RSt W w sa ma n N c rb n c ob oo → Calls Try.prog 19 #[.pointer (some ⟨sa, 0, none⟩), .int .i64 k, .int .i64 x] w fun r w' => r = .returned (.bool b) ∧ RSt W w' sa ma n1 N1 c1 rb n c ob oo) ∧
    (∀ w, RSt W w sa ma n1 N1 c1 rb n c ob oo → Calls Try.prog 20 #[.pointer (some ⟨rb, 0, none⟩), .int .i64 k, .int .i64 x] w fun r w' => r = .returned (.bool b) ∧ RSt W w' sa ma n1 N1 c1 rb n1 c1 ob oo) := by
  cases hc : c k with
  | none =>
    refine ⟨true, n + 1, N + 1, cput c k x, by omega, by omega, fun w h => ?_, fun w h => ?_⟩
    · obtain ⟨A, h1, h2⟩ := h.a
      exact (put_any (by omega) (by unfold maxLen; omega) h.ha h1 hk hx hc).mono fun r w' ⟨a, b⟩ => ⟨a, h2 _ _ _ _ b⟩
    · obtain ⟨B, h1, h2⟩ := h.b
      exact (rput_any (by omega) h1 hk hx hc).mono fun r w' ⟨a, b⟩ => ⟨a, h2 _ _ _ b⟩
  | some y =>
    refine ⟨false, n, N, c, by omega, by omega, fun w h => ?_, fun w h => ?_⟩
    · obtain ⟨A, h1, h2⟩ := h.a
      exact (put_there h.ha h1 hk (by rw [hc]; rfl)).mono fun r w' ⟨a, b⟩ => ⟨a, h.below b⟩
    · obtain ⟨B, h1, h2⟩ := h.b
      exact (rput_there (by omega) h1 (by rw [hc]; rfl)).mono fun r w' ⟨a, b⟩ => ⟨a, by rw [← b]; exact h⟩

theorem rs_drop (sa N rb ob : Nat) (W : World) (ma : Value) (oo : Array Value) (c : Int → Option Int) (hn : (n : Int) ≤ 1000) (hN : (N : Int) ≤ 1000) {k : Int} (hk : I64 k) : ∃ b n1 c1, n1 ≤ n ∧
    (∀ w, RSt W w sa ma n N c rb n c ob oo → Calls Try.prog 17 #[.pointer (some ⟨sa, 0, none⟩), .int .i64 k] w fun r w' => r = .returned (.bool b) ∧ RSt W w' sa ma n1 N c1 rb n c ob oo) ∧
    (∀ w, RSt W w sa ma n1 N c1 rb n c ob oo → Calls Try.prog 18 #[.pointer (some ⟨rb, 0, none⟩), .int .i64 k] w fun r w' => r = .returned (.bool b) ∧ RSt W w' sa ma n1 N c1 rb n1 c1 ob oo) := by
  cases hc : c k with
  | none =>
    have hd : cdel c k = c := by
      funext y
      unfold cdel
      split
      · rename_i q; rw [q, hc]
      · rfl
    refine ⟨false, n, c, by omega, fun w h => ?_, fun w h => ?_⟩
    · obtain ⟨A, h1, h2⟩ := h.a
      have := drop_any (by omega) (by unfold maxLen; omega) h.ha h1 hk
      rw [hc, hd] at this
      exact this.mono fun r w' ⟨a, b⟩ => ⟨a, h2 _ _ _ _ b⟩
    · obtain ⟨B, h1, h2⟩ := h.b
      rcases rdrop_any (by omega) h1 k with ⟨_, q⟩ | ⟨m, _, q, _⟩
      · exact q.mono fun r w' ⟨a, b⟩ => ⟨a, by rw [← b]; exact h⟩
      · rw [hc] at q; cases q
  | some y =>
    refine ⟨true, n - 1, cdel c k, by omega, fun w h => ?_, fun w h => ?_⟩
    · obtain ⟨A, h1, h2⟩ := h.a
      have := drop_any (by omega) (by unfold maxLen; omega) h.ha h1 hk
      rw [hc] at this
      exact this.mono fun r w' ⟨a, b⟩ => ⟨a, h2 _ _ _ _ b⟩
    · obtain ⟨B, h1, h2⟩ := h.b
      rcases rdrop_any (by omega) h1 k with ⟨q, _⟩ | ⟨m, hm, _, q⟩
      · rw [hc] at q; cases q
      · obtain rfl : m = n - 1 := by omega
        exact q.mono fun r w' ⟨a, b⟩ => ⟨a, h2 _ _ _ b⟩

theorem first_one {c : Int → Option Int} {k x k' x' : Int} (h : First c k x) (h' : First c k' x') : k = k' ∧ x = x' := by
  have a := lt2_no.1 (h.2 k' x' h'.1)
  have b := lt2_no.1 (h'.2 k x h.1)
  have hk : k = k' := by simp only at a b; omega
  subst hk
  have := h.1.symm.trans h'.1
  injection this with this
  exact ⟨rfl, this⟩

theorem rs_take (hn : (n : Int) ≤ 1000) (hN : (N : Int) ≤ 1000) {w0 : World} (h0 : RSt W w0 sa ma n N c rb n c ob oo) : ∃ k x b n1 c1, n1 ≤ n ∧
    (∀ w, RSt W w sa ma n N c rb n c ob oo → Calls Try.prog 15 #[.pointer (some ⟨sa, 0, none⟩)] w fun r w' => r = .returned (.tuple #[.int .i64 k, .int .i64 x, .bool b]) ∧ RSt W w' sa ma n1 N c1 rb n c ob oo) ∧
    (∀ w, RSt W w sa ma n1 N c1 rb n c ob oo → Calls Try.prog 16 #[.pointer (some ⟨rb, 0, none⟩)] w fun r w' => r = .returned (.tuple #[.agg #[.int .i64 k, .int .i64 x], .bool b]) ∧ RSt W w' sa ma n1 N c1 rb n1 c1 ob oo) := by
  rcases Nat.eq_zero_or_pos n with e | e
  · subst e
    refine ⟨0, 0, false, 0, c, by omega, fun w h => ?_, fun w h => ?_⟩
    · obtain ⟨A, h1, _⟩ := h.a
      exact (take_empty h1).mono fun r w' ⟨a, b⟩ => ⟨a, h.below b⟩
    · obtain ⟨B, h1, _⟩ := h.b
      exact (rtake_empty h1).mono fun r w' ⟨a, b⟩ => ⟨a, h.below b⟩
  · obtain ⟨m, rfl⟩ : ∃ m, n = m + 1 := ⟨n - 1, by omega⟩
    obtain ⟨A0, hh, _⟩ := h0.a
    obtain ⟨v, e1, f, hv, _⟩ := hh.ex
    have hf := con_first hv.con hv.ord (by omega)
    refine ⟨(e1 0).1, (e1 0).2, true, m, cdel c (e1 0).1, by omega, fun w h => ?_, fun w h => ?_⟩
    · obtain ⟨A, h1, h2⟩ := h.a
      refine (take_any (by omega) (by unfold maxLen; omega) h1).mono fun r w' ⟨k, x, a, b, d⟩ => ?_
      obtain ⟨q1, q2⟩ := first_one hf b
      subst q1; subst q2
      exact ⟨a, h2 _ _ _ _ d⟩
    · obtain ⟨B, h1, h2⟩ := h.b
      refine (rtake_any (by omega) h1).mono fun r w' ⟨k, x, a, b, d⟩ => ?_
      obtain ⟨q1, q2⟩ := first_one hf b
      subst q1; subst q2
      exact ⟨a, h2 _ _ _ d⟩

theorem rs_min {w0 : World} (hn : (n : Int) ≤ 1000) (h0 : RSt W w0 sa ma n N c rb n c ob oo) : ∃ k x b,
    (∀ w, RSt W w sa ma n N c rb n c ob oo → Calls Try.prog 23 #[.pointer (some ⟨sa, 0, none⟩)] w fun r w' => r = .returned (.tuple #[.int .i64 k, .int .i64 x, .bool b]) ∧ Below w.heap.size w w' ∧ RSt W w' sa ma n N c rb n c ob oo) ∧
    (∀ w, RSt W w sa ma n N c rb n c ob oo → Calls Try.prog 24 #[.pointer (some ⟨rb, 0, none⟩)] w fun r w' => r = .returned (.tuple #[.agg #[.int .i64 k, .int .i64 x], .bool b]) ∧ Below w.heap.size w w' ∧ RSt W w' sa ma n N c rb n c ob oo) := by
  rcases Nat.eq_zero_or_pos n with e | e
  · subst e
    refine ⟨0, 0, false, fun w h => ?_, fun w h => ?_⟩
    · obtain ⟨A, h1, _⟩ := h.a
      exact (min_empty h1).mono fun r w' ⟨a, b⟩ => ⟨a, b, h.below b⟩
    · obtain ⟨B, h1, _⟩ := h.b
      exact (rmin_empty h1).mono fun r w' ⟨a, b⟩ => ⟨a, b, h.below b⟩
  · obtain ⟨A0, hh, _⟩ := h0.a
    obtain ⟨v, e1, f, hv, _⟩ := hh.ex
    have hf := con_first hv.con hv.ord (by omega)
    refine ⟨(e1 0).1, (e1 0).2, true, fun w h => ?_, fun w h => ?_⟩
    · obtain ⟨A, h1, h2⟩ := h.a
      refine (min_any e h1).mono fun r w' ⟨k, x, a, b, d⟩ => ?_
      obtain ⟨q1, q2⟩ := first_one hf b
      subst q1; subst q2
      exact ⟨a, d, h.below d⟩
    · obtain ⟨B, h1, h2⟩ := h.b
      refine (rmin_any e (by omega) h1).mono fun r w' ⟨k, x, a, b, d⟩ => ?_
      obtain ⟨q1, q2⟩ := first_one hf b
      subst q1; subst q2
      exact ⟨a, d, h.below d⟩

theorem rs_get (sa N rb ob : Nat) (W : World) (ma : Value) (oo : Array Value) (c : Int → Option Int) (hn : (n : Int) ≤ 1000) {k : Int} (hk : I64 k) : ∃ x b,
    (∀ w, RSt W w sa ma n N c rb n c ob oo → Calls Try.prog 21 #[.pointer (some ⟨sa, 0, none⟩), .int .i64 k] w fun r w' => r = .returned (.tuple #[.int .i64 x, .bool b]) ∧ Below w.heap.size w w' ∧ RSt W w' sa ma n N c rb n c ob oo) ∧
    (∀ w, RSt W w sa ma n N c rb n c ob oo → Calls Try.prog 22 #[.pointer (some ⟨rb, 0, none⟩), .int .i64 k] w fun r w' => r = .returned (.agg #[.int .i64 x, .bool b]) ∧ Below w.heap.size w w' ∧ RSt W w' sa ma n N c rb n c ob oo) := by
  refine ⟨(c k).getD 0, (c k).isSome, fun w h => ?_, fun w h => ?_⟩
  · obtain ⟨A, h1, _⟩ := h.a
    exact (get_any (by omega) h.ha h1 hk).mono fun r w' ⟨a, b⟩ => ⟨a, b, h.below b⟩
  · obtain ⟨B, h1, _⟩ := h.b
    exact (rget_any (by omega) h1 k).mono fun r w' ⟨a, b⟩ => ⟨a, b, h.below b⟩

theorem rs_keys {w : World} (hn : (n : Int) ≤ 1000) (h : RSt W w sa ma n N c rb n c ob oo) :
    Calls Try.prog 26 #[.pointer (some ⟨sa, 0, none⟩)] w fun r w' => ∃ a cap L, r = .returned (.slice a n cap) ∧ Told W n c L a w' ∧ Below w.heap.size w w' ∧ RSt W w' sa ma n N c rb n c ob oo := by
  obtain ⟨A, h1, _⟩ := h.a
  exact (keys_any (by omega) h1).mono fun r w' ⟨a, cap, L, c', e1, e2, e3, e4, e5, e6⟩ => ⟨a, cap, L, e1, ⟨e2, e3, c', e4, e5⟩, e6, h.below e6⟩
theorem rs_keys_b {w : World} (hn : (n : Int) ≤ 1000) (h : RSt W w sa ma n N c rb n c ob oo) :
    Calls Try.prog 27 #[.pointer (some ⟨rb, 0, none⟩)] w fun r w' => ∃ a cap L, r = .returned (.slice a n cap) ∧ Told W n c L a w' ∧ Below w.heap.size w w' ∧ RSt W w' sa ma n N c rb n c ob oo := by
  obtain ⟨B, h1, _⟩ := h.b
  exact (rkeys_any (by omega) h1).mono fun r w' ⟨a, cap, L, c', e1, e2, e3, e4, e5, e6⟩ => ⟨a, cap, L, e1, ⟨e2, e3, c', e4, e5⟩, e6, h.below e6⟩
theorem rs_len {w : World} (h : RSt W w sa ma n N c rb n c ob oo) :
    Calls Try.prog 28 #[.pointer (some ⟨sa, 0, none⟩)] w fun r w' => r = .returned (.int .i64 (n : Int)) ∧ w = w' := by
  obtain ⟨A, h1, _⟩ := h.a
  exact len_any h1
theorem rs_row {w : World} (h : RSt W w sa ma n N c rb n c ob oo) : ∃ a cap, w.cell? ⟨rb, 0, none⟩ = some (.slice a n cap) := by
  obtain ⟨B, h1, _⟩ := h.b
  obtain ⟨v, e, hv, _⟩ := h1.ex
  obtain ⟨a, cap, rfl⟩ := hv.row.slice
  exact ⟨a, cap, hv.str.cell.1⟩
end

/-- The document's own heap, made anew beside a heap. -/
theorem rpr_new {W w : World} {sa : Nat} {ma : Value} (h : St W w sa ma 0 0 (fun _ => none)) : RPr W (w.alloc (.cells #[.slice none 0 0] 30)) sa ma 0 0 (fun _ => none) w.heap.size 0 (fun _ => none) := by
  obtain ⟨h1, h2, A, h3, h4⟩ := h
  have hb : Below w.heap.size w (w.alloc (.cells #[.slice none 0 0] 30)) := (Below.refl _ _).alloc (Nat.le_refl _) _
  refine ⟨h1, h2.trans (hb.mono h2.size), A, fun k => k = w.heap.size, h3.below hb, ⟨.slice none 0 0, fun _ => (0, 0), ⟨heap_alloc_new _ _, .inl ⟨rfl, rfl⟩, fun i j hi => absurd hi (Nat.not_lt_zero _), fun i hi => absurd hi (Nat.not_lt_zero _), fun k x => ⟨fun q => (by cases q), fun ⟨i, hi, _⟩ => absurd hi (Nat.not_lt_zero _)⟩⟩, fun k => ⟨fun q => .inl q, fun q => ?_⟩⟩, h4, fun k hk => by rw [hk]; exact h2.size, fun k ha hk => ?_⟩
  · rcases q with q | q
    · exact q
    · cases q
  · have := h3.lt ha; omega

end Go.Proofs.Ytbmmigaabhnnfaa
