/-
  Rows of plain numbers of tasks.
-/
import Derived.Test.YtknjldmpcokgfaaKW15
import Derived.Test.YtknjldmpcokgfaaKW14
namespace Go.Proofs.Ytknjldmpcokgfaa
open Go.RowKit Go.Maps

/-- The cells of a row of tasks. -/
def nflat : List NV → List Value
  | [] => []
  | x :: l => x.cells ++ nflat l
theorem ncells_len (x : NV) : x.cells.length = 6 := rfl
theorem nflat_len : ∀ l : List NV, (nflat l).length = l.length * 6
  | [] => rfl
  | x :: l => by simp [nflat, nflat_len l, ncells_len]; omega
theorem nflat_append : ∀ l m : List NV, nflat (l ++ m) = nflat l ++ nflat m
  | [], _ => rfl
  | x :: l, m => by simp [nflat, nflat_append l m]
theorem nflat_at : ∀ (l : List NV) (k : Nat) (x : NV), l[k]? = some x → ∀ i, i < 6 → (nflat l)[k * 6 + i]? = x.cells[i]?
  | [], k, x, h => by simp at h
  | y :: l, 0, x, h => by
    simp at h; subst h
    intro i hi
    rw [Nat.zero_mul, Nat.zero_add, nflat, List.getElem?_append_left (by rw [ncells_len]; exact hi)]
  | y :: l, k + 1, x, h => by
    intro i hi
    have := nflat_at l k x (by simpa using h) i hi
    rw [show (k + 1) * 6 + i = 6 + (k * 6 + i) by omega, nflat, List.getElem?_append_right (by rw [ncells_len]; omega), ncells_len, ← this]
    congr 1; omega
theorem nflat_one : ∀ (l : List NV), ∀ u ∈ nflat l, u.oneCell' = true
  | [], u, h => by simp [nflat] at h
  | x :: l, u, h => by
    rcases List.mem_append.1 h with h | h
    · simp [NV.cells] at h
      rcases h with rfl | rfl | rfl | rfl | rfl | rfl <;> rfl
    · exact nflat_one l u h
theorem nflat_drop : ∀ (k : Nat) (l : List NV), nflat (l.drop k) = (nflat l).drop (k * 6)
  | 0, l => by simp
  | k + 1, [] => by simp [nflat]
  | k + 1, x :: l => by
    rw [List.drop_succ_cons, nflat_drop k l, nflat, List.drop_append, show (k + 1) * 6 = 6 + k * 6 by omega]
    simp [ncells_len]
theorem nflat_take : ∀ (k : Nat) (l : List NV), nflat (l.take k) = (nflat l).take (k * 6)
  | 0, l => by simp [nflat]
  | k + 1, [] => by simp [nflat]
  | k + 1, x :: l => by
    rw [List.take_succ_cons, nflat, nflat, nflat_take k l, List.take_append, show (k + 1) * 6 = 6 + k * 6 by omega]
    simp [ncells_len]
    rw [List.take_of_length_le (by rw [ncells_len]; omega)]

/-- A row of tasks that can be read. -/
def NView (w : World) (a : Option Addr) (l : List NV) : Prop :=
  l = [] ∨ ∃ g o, a = some ⟨g, o, none⟩ ∧ ∀ j u, (nflat l)[j]? = some u → w.cell? ⟨g, o + j, none⟩ = some u
theorem NView.nil {w : World} {a : Option Addr} : NView w a [] := .inl rfl
theorem NView.at_ {w : World} {a : Option Addr} {l : List NV} (h : NView w a l) {k : Nat} {x : NV} (hx : l[k]? = some x) : ∃ g o, a = some ⟨g, o, none⟩ ∧ NAt w g (o + k * 6) x := by
  rcases h with rfl | ⟨g, o, rfl, hc⟩
  · simp at hx
  · have f := nflat_at l k x hx
    refine ⟨g, o, rfl, ⟨?_, ?_, ?_, ?_, ?_, ?_⟩⟩
    · exact hc _ _ (f 0 (by omega))
    · exact hc _ _ (f 1 (by omega))
    · exact hc _ _ (f 2 (by omega))
    · exact hc _ _ (f 3 (by omega))
    · exact hc _ _ (f 4 (by omega))
    · exact hc _ _ (f 5 (by omega))
theorem NView.below {w w' : World} {a : Option Addr} {l : List NV} (h : NView w a l) (hb : Below w.heap.size w w') : NView w' a l := by
  rcases h with rfl | ⟨g, o, rfl, hc⟩
  · exact .inl rfl
  · exact .inr ⟨g, o, rfl, fun j u hj => kept_cell hb (hc j u hj)⟩
theorem NView.drop {w : World} {g o : Nat} {l : List NV} (h : NView w (some ⟨g, o, none⟩) l) (k : Nat) : NView w (some ⟨g, o + k * 6, none⟩) (l.drop k) := by
  rcases h with rfl | ⟨g', o', e, hc⟩
  · left; simp
  · cases e
    refine .inr ⟨_, _, rfl, fun j u hj => ?_⟩
    rw [nflat_drop, List.getElem?_drop] at hj
    rw [Nat.add_assoc]
    exact hc _ u hj
theorem NView.take {w : World} {a : Option Addr} {l : List NV} (h : NView w a l) (k : Nat) : NView w a (l.take k) := by
  rcases h with rfl | ⟨g, o, rfl, hc⟩
  · left; simp
  · refine .inr ⟨g, o, rfl, fun j u hj => ?_⟩
    rw [nflat_take, List.getElem?_take] at hj
    split at hj
    · exact hc j u hj
    · cases hj
theorem NView.of_at {w : World} {g o : Nat} {x : NV} (h : NAt w g o x) : NView w (some ⟨g, o, none⟩) [x] := by
  refine .inr ⟨g, o, rfl, fun j u hj => ?_⟩
  simp only [nflat, List.append_nil, NV.cells] at hj
  match j, hj with
  | 0, hj => simp at hj; subst hj; exact h.c0
  | 1, hj => simp at hj; subst hj; exact h.c1
  | 2, hj => simp at hj; subst hj; exact h.c2
  | 3, hj => simp at hj; subst hj; exact h.c3
  | 4, hj => simp at hj; subst hj; exact h.c4
  | 5, hj => simp at hj; subst hj; exact h.c5
  | j + 6, hj => simp at hj
abbrev NT : TypeId := 67
def OwnN (w : World) (B : Nat) (v : Value) (l : List NV) : Prop := w.ownsRow B NT 6 v l.length (nflat l)
theorem OwnN.nil (w : World) (B : Nat) : OwnN w B (.slice none 0 0) [] := World.ownsRow_nil _ _ _ _
theorem OwnN.made (w : World) : OwnN (w.alloc (.cells #[] NT)) w.heap.size (.slice (some ⟨w.heap.size, 0, none⟩) 0 0) [] :=
  World.ownsRow_made (w := w) #[] 0 (Nat.le_refl _) (by decide) rfl
theorem OwnN.low {w : World} {B B' : Nat} {v : Value} {l : List NV} (h : OwnN w B v l) (hB : B' ≤ B) : OwnN w B' v l := by
  rcases h with ⟨h0, h | ⟨g, cap, cur, rfl, hb, r⟩⟩
  · exact ⟨h0, .inl h⟩
  · exact ⟨h0, .inr ⟨g, cap, cur, rfl, by omega, r⟩⟩
theorem OwnN.slice {w : World} {B : Nat} {v : Value} {l : List NV} (h : OwnN w B v l) : ∃ a cap, v = .slice a l.length cap ∧ NView w a l ∧ l.length ≤ cap ∧ (cap : Int) ≤ 9223372036854775807 := by
  rcases h.2 with ⟨rfl, h0⟩ | ⟨g, cap, cur, rfl, _, h3, h1, h2, h4, h5⟩
  · exact ⟨none, 0, by rw [h0], .inl (List.length_eq_zero_iff.1 h0), by omega, by omega⟩
  · refine ⟨_, cap, rfl, .inr ⟨g, 0, rfl, fun j u hj => ?_⟩, h1, by unfold maxLen at h2; omega⟩
    rw [Nat.zero_add, blk_cell h3]
    rw [← h5] at hj
    rw [List.getElem?_take] at hj
    split at hj
    · simpa using hj
    · cases hj
theorem OwnN.new {w : World} {B : Nat} {v : Value} {l : List NV} (h : OwnN w B v l) {k : Nat} (hk : v.ownBlock = some k) : B ≤ k ∧ k < w.heap.size := World.ownsRow.lt h k hk
theorem OwnN.below {w w' : World} {B : Nat} {v : Value} {l : List NV} (h : OwnN w B v l) (hb : Below w.heap.size w w') : OwnN w' B v l := by
  rcases h with ⟨h0, h | ⟨g, cap, cur, rfl, hB, h3, r⟩⟩
  · exact ⟨h0, .inl h⟩
  · exact ⟨h0, .inr ⟨g, cap, cur, rfl, hB, kept_obj hb h3, r⟩⟩
theorem OwnN.none_len {w : World} {B n c : Nat} {l : List NV} (h : OwnN w B (.slice none n c) l) : n = 0 := by
  rcases h.2 with ⟨h1, h0⟩ | ⟨g, cap, cur, h1, _⟩
  · cases h1; rfl
  · cases h1

theorem infoNum : (Try.prog.info? NT).map (fun i => (i.zero, i.size, i.bytes)) = some (some (.agg #[.int .i64 0, .int .i64 0, .int .i64 0, .int .i64 0, .int .i64 0, .slice none 0 0]), 6, 64) := by kernel_rfl
theorem zeroNum (w : World) : (zeroValue NT).run Try.prog w = .ok (.agg #[.int .i64 0, .int .i64 0, .int .i64 0, .int .i64 0, .int .i64 0, .slice none 0 0]) w := by kernel_rfl
theorem ninfoParts : ∃ i, Try.prog.info? NT = some i ∧ i.zero = some (.agg #[.int .i64 0, .int .i64 0, .int .i64 0, .int .i64 0, .int .i64 0, .slice none 0 0]) ∧ i.size = 6 ∧ i.bytes = 64 := by
  obtain ⟨i, h1, h2⟩ := Option.map_eq_some_iff.1 infoNum
  simp only [Prod.mk.injEq] at h2
  exact ⟨i, h1, h2.1, h2.2.1, h2.2.2⟩

/-- A row that was appended to: what it holds, where it lies. -/
theorem append_nview {w : World} {B m c : Nat} {v : Value} {q l : List NV} {ad : Option Addr} (h : OwnN w B v q) (hB : B ≤ w.heap.size) (hv : NView w ad l) (hl : l.length = m) (hs : q.length + m ≤ 1000000) (hn : ad = none → m = 0) (ty : TypeId) :
    ∃ v' w', (Builtin.append_ #[63, 63] ty #[v, .slice ad m c]).run Try.prog w = .ok v' w' ∧ OwnN w' B v' (q ++ l) ∧ w.grownBy w' v.ownBlock ∧ ∀ k, v'.ownBlock = some k → v.ownBlock = some k ∨ w.heap.size ≤ k := by
  obtain ⟨i0, hi, hz0, hz1, hz2⟩ := ninfoParts
  cases ad with
  | none =>
    obtain rfl := hn rfl
    obtain rfl : l = [] := List.length_eq_zero_iff.1 hl
    refine ⟨v, w, ?_, by rw [List.append_nil]; exact h, ⟨rfl, rfl, rfl, Nat.le_refl _, fun _ _ _ => rfl⟩, fun k hk => .inl hk⟩
    rcases h.2 with ⟨rfl, h0⟩ | ⟨g, cap, cur, rfl, _, h3, h1, h2, h4, h5⟩
    · have hs := Src.ofNil (w := w) (size := i0.size) Try.underlying63 c
      simp [Builtin.append_, run_underlying Try.underlying63, sizeOf, typeInfo, hi, hs.len, hs.cells]
    · have := run_append_room_src (P := Try.prog) (w := w) 63 63 ty NT i0 Try.underlying63 hi g 0 q.length cap (.slice none 0 c) 0 [] (Src.ofNil w Try.underlying63 c) (by omega) (fun j hj => absurd hj (Nat.not_lt_zero _)) (fun j hj => absurd hj (Nat.not_lt_zero _))
      simpa [World.setCells] using this
  | some x =>
    have hnews : ∀ j u, (nflat l)[j]? = some u → w.cell? (x.add j) = some u := by
      intro j u hj
      rcases hv with rfl | ⟨g, o, e, hc⟩
      · simp [nflat] at hj
      · cases e
        rw [addr_at]; exact hc j u hj
    obtain ⟨v', w', h1, h2, h3, _, h5⟩ := run_append_own_at (P := Try.prog) w B 63 ty NT i0 _ 6 64 Try.underlying63 hi hz0 hz1 hz2 rfl (by decide) v q.length (nflat q) h x m c (nflat l) (by rw [nflat_len, hl]) hnews (nflat_one l) (by unfold maxLen; omega) (by omega) hB
    refine ⟨v', w', h1, ?_, h3, fun k hk => ?_⟩
    · unfold OwnN
      rw [List.length_append, nflat_append, hl]
      exact h2
    · rcases h5 with z | z
      · left; rw [← z]; exact hk
      · right; rw [z] at hk; cases hk; exact Nat.le_refl _

theorem nstep_append {w : World} {ops : Array Oper} {o : Oper} {a : Act} {K : Act → World → Prop} {Q : Exit → Act → World → Prop} {E : Prop} (hgd : o.guard = none) (s x : Operand)
    (ho : o.op = .call { callee := .builtin .append, args := #[s, x], argTypes := #[63, 63] }) {B m c : Nat} {v : Value} {q l : List NV} {ad : Option Addr} (hs : a.eval s = v) (hx : a.eval x = .slice ad m c)
    (hown : OwnN w B v q) (hB : B ≤ w.heap.size) (hv : NView w ad l) (hl : l.length = m) (hsm : q.length + m ≤ 1000000) (hn : ad = none → m = 0) (N : Nat) (hN : q.length + m = N)
    (h : ∀ a' cp' w', OwnN w' B (.slice a' N cp') (q ++ l) → w.grownBy w' v.ownBlock → (∀ k, (Value.slice a' N cp').ownBlock = some k → v.ownBlock = some k ∨ w.heap.size ≤ k) → K (a.put o.dst (.slice a' N cp')) w') :
    if Region.wanted o (yielded ops a.tmps) = true then Oper.wp Try.prog o a w K Q else E := by
  have hw : Region.wanted o (yielded ops a.tmps) = true := by simp [Region.wanted, hgd]
  rw [if_pos hw]
  obtain ⟨v', w', hr, h2, h3, h4⟩ := append_nview (c := c) hown hB hv hl hsm hn o.type
  obtain ⟨a', cp', hv', _⟩ := h2.slice
  rw [List.length_append, hl, hN] at hv'
  subst hv'
  unfold Oper.wp execOp
  simp only [ho, resolve, invoke, builtin, Sem.run_bind, Sem.run_pure, Result.andThen_ok, List.map_toArray, List.map_cons, List.map_nil, hs, hx, hr]
  exact h a' cp' w' h2 h3 h4
theorem wp_nappend {ops : Array Oper} {rest : List Oper} {o : Oper} {a : Act} {Q : Exit → Act → World → Prop} {w : World} (hgd : o.guard = none) (s x : Operand)
    (ho : o.op = .call { callee := .builtin .append, args := #[s, x], argTypes := #[63, 63] }) {B m c : Nat} {v : Value} {q l : List NV} {ad : Option Addr} (hs : a.eval s = v) (hx : a.eval x = .slice ad m c)
    (hown : OwnN w B v q) (hB : B ≤ w.heap.size) (hv : NView w ad l) (hl : l.length = m) (hsm : q.length + m ≤ 1000000) (hn : ad = none → m = 0) (N : Nat) (hN : q.length + m = N)
    (h : ∀ a' cp' w', OwnN w' B (.slice a' N cp') (q ++ l) → w.grownBy w' v.ownBlock → (∀ k, (Value.slice a' N cp').ownBlock = some k → v.ownBlock = some k ∨ w.heap.size ≤ k) → wpList Try.prog ops Q rest (a.put o.dst (.slice a' N cp')) w') : wpList Try.prog ops Q (o :: rest) a w :=
  wpList_step fun _ hK => nstep_append hgd s x ho hs hx hown hB hv hl hsm hn N hN (fun a' cp' w' o' g' l' => hK _ _ (h a' cp' w' o' g' l'))


/-- A slice of tasks' plain numbers that can be read. -/
structure Nums (w : World) (a : Option Addr) (n cap : Nat) (L : List NV) : Prop where
  len : L.length = n
  view : NView w a L
  ok : ∀ x ∈ L, x.ok w
  small : (n : Int) ≤ 9223372036854775807
theorem Nums.below {w w' : World} {a : Option Addr} {n cap : Nat} {L : List NV} (h : Nums w a n cap L) (hb : Below w.heap.size w w') : Nums w' a n cap L := ⟨h.len, h.view.below hb, fun x hx => (h.ok x hx).below hb, h.small⟩
theorem nat_new (w : World) (x : NV) (T : TypeId) : NAt (w.alloc (.cells #[.int .i64 x.C, .int .i64 x.D, .int .i64 x.T, .int .i64 x.P, .int .i64 x.K, .slice x.a x.us.length x.c] T)) w.heap.size 0 x :=
  ⟨by rw [World.cell?_alloc_new]; rfl, by rw [World.cell?_alloc_new]; rfl, by rw [World.cell?_alloc_new]; rfl, by rw [World.cell?_alloc_new]; rfl, by rw [World.cell?_alloc_new]; rfl, by rw [World.cell?_alloc_new]; rfl⟩
end Go.Proofs.Ytknjldmpcokgfaa
