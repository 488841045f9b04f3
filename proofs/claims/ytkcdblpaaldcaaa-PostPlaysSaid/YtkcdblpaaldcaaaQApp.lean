/-
  Rows of requests appended; two boxes of one's own.
-/
import Derived.Test.YtkcdblpaaldcaaaQSame
import Derived.Deep.AppendSrc
namespace Go.Proofs.Ytkcdblpaaldcaaa
open Go.RowKit Go.Maps Go.Conc

theorem run_append_none {w : World} {B : Nat} {v : Value} {q : List Req} (h : AsksB w B v q) (c : Nat) (ty : TypeId) :
    (Builtin.append_ #[27, 27] ty #[v, .slice none 0 c]).run Try.prog w = .ok v w := by
  obtain ⟨i0, hi, hz0, hz1, hz2⟩ := infoParts
  rcases h.2 with ⟨rfl, h0⟩ | ⟨g, cap, cur, rfl, _, h3, h1, h2, h4, h5⟩
  · have hs := Src.ofNil (w := w) (size := i0.size) Try.underlying27 c
    simp [Builtin.append_, run_underlying Try.underlying27, sizeOf, typeInfo, hi, hs.len, hs.cells]
  · have := run_append_room_src (P := Try.prog) (w := w) 27 27 ty 31 i0 Try.underlying27 hi g 0 q.length cap (.slice none 0 c) 0 [] (Src.ofNil w Try.underlying27 c) (by omega) (fun j hj => absurd hj (Nat.not_lt_zero _)) (fun j hj => absurd hj (Nat.not_lt_zero _))
    simpa [World.setCells] using this

theorem run_append_view {w : World} {B m c : Nat} {v : Value} {q l : List Req} {ad : Option Addr} (h : AsksB w B v q) (hB : B ≤ w.heap.size) (hv : View w ad l) (hl : l.length = m) (hs : q.length + m ≤ 100000) (hn : ad = none → m = 0) (ty : TypeId) :
    ∃ v' w', (Builtin.append_ #[27, 27] ty #[v, .slice ad m c]).run Try.prog w = .ok v' w' ∧ AsksB w' B v' (q ++ l) ∧ w.grownBy w' v.ownBlock := by
  obtain ⟨i0, hi, hz0, hz1, hz2⟩ := infoParts
  cases ad with
  | none =>
    obtain rfl := hn rfl
    obtain rfl : l = [] := List.length_eq_zero_iff.1 hl
    refine ⟨v, w, run_append_none h c ty, by rw [List.append_nil]; exact h, ⟨rfl, rfl, rfl, Nat.le_refl _, fun _ _ _ => rfl⟩⟩
  | some x =>
    have hnews : ∀ j u, (flat l)[j]? = some u → w.cell? (x.add j) = some u := by
      intro j u hj
      rcases hv with rfl | ⟨g, o, e, hc⟩
      · simp [flat] at hj
      · cases e
        rw [addr_at]; exact hc j u hj
    obtain ⟨v', w', h1, h2, h3, _, _⟩ := run_append_own_at (P := Try.prog) w B 27 ty 31 i0 _ 2 16 Try.underlying27 hi hz0 hz1 hz2 rfl (by decide) v q.length (flat q) h x m c (flat l) (by rw [flat_len, hl]) hnews (flat_one l) (by unfold maxLen; omega) (by omega) hB
    refine ⟨v', w', h1, ?_, h3⟩
    unfold AsksB
    rw [List.length_append, flat_append, hl]
    exact h2

theorem wp_append {ops : Array Oper} {rest : List Oper} {o : Oper} {a : Act} {Q : Exit → Act → World → Prop} {w : World} (hgd : o.guard = none) (s x : Operand)
    (ho : o.op = .call { callee := .builtin .append, args := #[s, x], argTypes := #[27, 27] }) {B m c : Nat} {v : Value} {q l : List Req} {ad : Option Addr} (hs : a.eval s = v) (hx : a.eval x = .slice ad m c)
    (hown : AsksB w B v q) (hB : B ≤ w.heap.size) (hv : View w ad l) (hl : l.length = m) (hsm : q.length + m ≤ 100000) (hn : ad = none → m = 0) (N : Nat) (hN : q.length + m = N)
    (h : ∀ a' cp' w', AsksB w' B (.slice a' N cp') (q ++ l) → w.grownBy w' v.ownBlock → wpList Try.prog ops Q rest (a.put o.dst (.slice a' N cp')) w') : wpList Try.prog ops Q (o :: rest) a w := by
  refine wpList_plain hgd fun K hK => ?_
  obtain ⟨v', w', hr, h2, h3⟩ := run_append_view (c := c) hown hB hv hl hsm hn o.type
  obtain ⟨a', cp', hv', _⟩ := h2.asks.slice
  rw [List.length_append, hl, hN] at hv'
  subst hv'
  unfold Oper.wp execOp
  simp only [ho, resolve, invoke, builtin, Sem.run_bind, Sem.run_pure, Result.andThen_ok, List.map_toArray, List.map_cons, List.map_nil, hs, hx, hr]
  exact hK _ _ (h a' cp' w' h2 h3)

theorem view_none {w : World} {B m c : Nat} {a : Option Addr} {l : List Req} (h : AsksB w B (.slice a m c) l) : a = none → m = 0 := by
  rintro rfl
  rcases h.2 with ⟨h1, h0⟩ | ⟨g, cap, cur, h1, _⟩
  · cases h1; rfl
  · cases h1
theorem turn_grown {w w' : World} {B : Nat} {v : Value} {q : List Req} (h : AsksB w B v q) (hg : w.grownBy w' v.ownBlock) : Turn (New B) w w' := Turn.grown (Turn.refl _ w) hg (fun j hj _ => h.new hj)
theorem Mine.turn {W w w' : World} {b c n B : Nat} {q : List Req} {sh : Bool} (h : Mine W w b c n q sh) (hB : W.heap.size ≤ B) (hb : b < B) (hc : c < B) (ht : Turn (New B) w w') : Mine W w' b c n q sh :=
  ⟨h.box.kept ht (by unfold New; omega) (by unfold New; omega), h.low.trans (ht.below h.low.size (fun i z => Nat.le_trans hB z)), h.new⟩
theorem asks_made (w : World) : AsksB (w.alloc (.cells #[] 31)) w.heap.size (.slice (some ⟨w.heap.size, 0, none⟩) 0 0) [] :=
  World.ownsRow_made (w := w) #[] 0 (Nat.le_refl _) (by decide) rfl

/-! ### two boxes -/
structure Both (W w : World) (b c n : Nat) (q : List Req) (sh : Bool) (b2 c2 n2 : Nat) (q2 : List Req) (sh2 : Bool) : Prop where
  one : Mine W w b c n q sh
  two : Mine W w b2 c2 n2 q2 sh2
  apart : Apart b c b2 c2

theorem both_new {W w w' : World} {b c n b2 c2 n2 : Nat} {q : List Req} {sh : Bool} (h : Mine W w b c n q sh) (h2 : Box w' b2 c2 n2 [] false ∧ Below w.heap.size w w' ∧ ∀ k, Two b2 c2 k → w.heap.size ≤ k) : Both W w' b c n q sh b2 c2 n2 [] false := by
  have l1 := h.box.str.lt
  have l2 := h.box.chan.lt
  have m1 := h2.2.2 b2 (.inl rfl)
  have m2 := h2.2.2 c2 (.inr rfl)
  exact ⟨h.below h2.2.1, mine_new h.low h2, by omega, by omega⟩
theorem Both.swap {W w : World} {b c n b2 c2 n2 : Nat} {q q2 : List Req} {sh sh2 : Bool} (h : Both W w b c n q sh b2 c2 n2 q2 sh2) : Both W w b2 c2 n2 q2 sh2 b c n q sh := ⟨h.two, h.one, apart_symm h.apart⟩
theorem Both.step {W w w' : World} {b c n b2 c2 n2 : Nat} {q q' q2 : List Req} {sh sh' sh2 : Bool} (h : Both W w b c n q sh b2 c2 n2 q2 sh2) (l : Looks w b c n q' sh' w') : Both W w' b c n q' sh' b2 c2 n2 q2 sh2 :=
  ⟨h.one.step l, ⟨other_kept h.two.box h.one.box (apart_symm h.apart) l.2, (h.one.step l).low, h.two.new⟩, h.apart⟩
theorem Both.step2 {W w w' : World} {b c n b2 c2 n2 : Nat} {q q2 q2' : List Req} {sh sh2 sh2' : Bool} (h : Both W w b c n q sh b2 c2 n2 q2 sh2) (l : Looks w b2 c2 n2 q2' sh2' w') : Both W w' b c n q sh b2 c2 n2 q2' sh2' := (h.swap.step l).swap
theorem Both.below {W w w' : World} {b c n b2 c2 n2 : Nat} {q q2 : List Req} {sh sh2 : Bool} (h : Both W w b c n q sh b2 c2 n2 q2 sh2) (hb : Below w.heap.size w w') : Both W w' b c n q sh b2 c2 n2 q2 sh2 := ⟨h.one.below hb, h.two.below hb, h.apart⟩
theorem Both.alloc {W w : World} {b c n b2 c2 n2 : Nat} {q q2 : List Req} {sh sh2 : Bool} (h : Both W w b c n q sh b2 c2 n2 q2 sh2) (o : Obj) : Both W (w.alloc o) b c n q sh b2 c2 n2 q2 sh2 := h.below ((Below.refl _ _).alloc (Nat.le_refl _) o)
theorem Both.drew {W w : World} {b c n b2 c2 n2 : Nat} {q q2 : List Req} {sh sh2 : Bool} (h : Both W w b c n q sh b2 c2 n2 q2 sh2) : Both W w.drew b c n q sh b2 c2 n2 q2 sh2 := h.below (Below.refl _ _).drew
theorem Both.turn {W w w' : World} {b c n b2 c2 n2 B : Nat} {q q2 : List Req} {sh sh2 : Bool} (h : Both W w b c n q sh b2 c2 n2 q2 sh2) (hB : W.heap.size ≤ B) (hb : b < B ∧ c < B ∧ b2 < B ∧ c2 < B) (ht : Turn (New B) w w') : Both W w' b c n q sh b2 c2 n2 q2 sh2 :=
  ⟨h.one.turn hB hb.1 hb.2.1 ht, h.two.turn hB hb.2.2.1 hb.2.2.2 ht, h.apart⟩
theorem Both.lt {W w : World} {b c n b2 c2 n2 : Nat} {q q2 : List Req} {sh sh2 : Bool} (h : Both W w b c n q sh b2 c2 n2 q2 sh2) : b < w.heap.size ∧ c < w.heap.size ∧ b2 < w.heap.size ∧ c2 < w.heap.size := ⟨h.one.box.str.lt, h.one.box.chan.lt, h.two.box.str.lt, h.two.box.chan.lt⟩
theorem Both.moved {W w w' : World} {b c n b2 c2 n2 : Nat} {q q' q2 q2' : List Req} {sh sh2 : Bool} (h : Both W w b c n q sh b2 c2 n2 q2 sh2) (m : Moved w b c n q' sh b2 c2 n2 q2' sh2 w') : Both W w' b c n q' sh b2 c2 n2 q2' sh2 := by
  have hl : Below W.heap.size W w' := h.one.low.trans (m.turn.below h.one.low.size (fun i z => by
    have a1 := h.one.new; have a2 := h.two.new
    rcases z with (rfl | rfl) | (rfl | rfl) <;> omega))
  exact ⟨⟨m.one, hl, h.one.new⟩, ⟨m.two, hl, h.two.new⟩, h.apart⟩
end Go.Proofs.Ytkcdblpaaldcaaa
