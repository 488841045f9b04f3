/- Texts of this claim, put together: KW13, KW14, KN, KW16, KW17, CTk, CW3, BRef3, BRef4, BList, BIter, BListW, BRef5, BRef6. -/
import Derived.Test.YtflemmmaakhahaaMC2
import Derived.RangeFuncNested
import Derived.RangeFuncBound
import Derived.RangeFuncCalls
import Derived.RangeFuncLeaves
import Derived.RangeFuncBox
import Derived.Shelf.RegionOpen
import Derived.Shelf.Abstract
import Derived.OwnWalkIn
import Derived.TacticsInMore
import Derived.LoopNIn
import Derived.LoopIn
import Derived.Deep.RegionHeld3
import Derived.Lib.TrailingZeros
import Derived.Maps.AppendAt
import Derived.Laws.MakeOwn
import Derived.OwnWalk
set_option linter.unusedVariables false
set_option linter.unusedSimpArgs false

/-
  The walks over what is cut of tasks and systems that came in.
-/
namespace Go.Proofs.Ytflemmmaakhahaa
open Go.RowKit Go.Maps

/-- A task with at most 66 chunks and 66 used sets. -/
def cut (x : TV) : TV := { x with ch := x.ch.take 66, us := x.us.take 66 }
theorem cut_ok {w : World} {x : TV} (h : x.ok w) : (cut x).ok w :=
  ⟨h.one.take 66, h.two.take 66, by have := h.l1; simp only [cut, List.length_take]; omega, h.m1, by have := h.l2; simp only [cut, List.length_take]; omega, h.m2⟩

end Go.Proofs.Ytflemmmaakhahaa

/-
  The walk over a system that came in, cut to 66 tasks.
-/
namespace Go.Proofs.Ytflemmmaakhahaa
open Go.RowKit Go.Maps

/-- A system in a box, one that comes back, and a row of one's own. -/
structure FewAt (w : World) (s r : Int) (a : Option Addr) (n cap : Nat) (v : Value) (R : List TV) (W : World) : Prop where
  low : Below w.heap.size w W
  box : W.heap[w.heap.size]? = some (.cells #[.int .i64 s, .int .i64 r, .slice a n cap] 29 (0, 0))
  res : W.heap[w.heap.size + 1]? = some (.cells #[.int .i64 0, .int .i64 0, .slice none 0 0] 29 (0, 0))
  own : OwnT W (w.heap.size + 2) v R
theorem FewAt.below {w W W' : World} {s r : Int} {a : Option Addr} {n cap : Nat} {v : Value} {R : List TV} (h : FewAt w s r a n cap v R W) (hb : Below W.heap.size W W') : FewAt w s r a n cap v R W' :=
  ⟨below_up h.low hb, kept_obj hb h.box, kept_obj hb h.res, h.own.below hb⟩
theorem FewAt.size {w W : World} {s r : Int} {a : Option Addr} {n cap : Nat} {v : Value} {R : List TV} (h : FewAt w s r a n cap v R W) : w.heap.size + 2 ≤ W.heap.size := lt_of_block h.res
theorem FewAt.grown {w W W' : World} {s r : Int} {a : Option Addr} {n cap : Nat} {v v' : Value} {R R' : List TV} (h : FewAt w s r a n cap v R W) (hg : W.grownBy W' v.ownBlock) (ho : OwnT W' (w.heap.size + 2) v' R') : FewAt w s r a n cap v' R' W' := by
  have hb : Below (w.heap.size + 2) W W' := (Below.refl _ W).grown hg h.size (fun k hk => (h.own.new hk).1)
  exact ⟨h.low.trans (hb.mono (by omega)), kept_objB hb (by omega) h.box, kept_objB hb (by omega) h.res, ho⟩
theorem fewAt_new {w : World} {s r : Int} {a : Option Addr} {n cap : Nat} : FewAt w s r a n cap (.slice none 0 0) [] ((w.alloc (.cells #[.int .i64 s, .int .i64 r, .slice a n cap] 29)).alloc (.cells #[.int .i64 0, .int .i64 0, .slice none 0 0] 29)) := by
  refine ⟨(by repeat (first | exact Below.refl _ _ | (with_reducible assumption) | refine bw_alloc ?_ _ | refine bw_drew ?_)), ?_, ?_, OwnT.nil _ _⟩
  · rw [Below.heap_alloc _ _ _ (by simp)]
    exact heap_alloc_new w _
  · have := heap_alloc_new (w.alloc (.cells #[.int .i64 s, .int .i64 r, .slice a n cap] 29)) (.cells #[.int .i64 0, .int .i64 0, .slice none 0 0] 29)
    rwa [World.size_alloc] at this
theorem zeroSys (w : World) : (zeroValue 29).run Try.prog w = .ok (.agg #[.int .i64 0, .int .i64 0, .slice none 0 0]) w := by kernel_rfl

/-- A system that comes back. -/
def SysBack (s r : Int) (m : Nat) (L : List TV) (w : World) (e : Ending) (w' : World) : Prop :=
  ∃ a c, e = .returned (.agg #[.int .i64 s, .int .i64 r, .slice a m c]) ∧ Tasks w' a m c L ∧ Below w.heap.size w w'

end Go.Proofs.Ytflemmmaakhahaa

/-
  Rows of plain numbers of tasks.
-/
namespace Go.Proofs.Ytflemmmaakhahaa
open Go.RowKit Go.Maps

/-- The cells of a row of tasks. -/
def nflat : List NV → List Value
  | [] => []
  | x :: l => x.cells ++ nflat l
theorem ncells_len (x : NV) : x.cells.length = 6 := rfl
theorem nflat_len : ∀ l : List NV, (nflat l).length = l.length * 6
  | [] => rfl
  | x :: l => by simp [nflat, nflat_len l, ncells_len]; omega
theorem nflat_append : ∀ l m : List NV, nflat (l ++ m) = nflat l ++ nflat m
  | [], _ => rfl
  | x :: l, m => by simp [nflat, nflat_append l m]
theorem nflat_at : ∀ (l : List NV) (k : Nat) (x : NV), l[k]? = some x → ∀ i, i < 6 → (nflat l)[k * 6 + i]? = x.cells[i]?
  | [], k, x, h => by simp at h
  | y :: l, 0, x, h => by
    simp at h; subst h
    intro i hi
    rw [Nat.zero_mul, Nat.zero_add, nflat, List.getElem?_append_left (by rw [ncells_len]; exact hi)]
  | y :: l, k + 1, x, h => by
    intro i hi
    have := nflat_at l k x (by simpa using h) i hi
    rw [show (k + 1) * 6 + i = 6 + (k * 6 + i) by omega, nflat, List.getElem?_append_right (by rw [ncells_len]; omega), ncells_len, ← this]
    congr 1; omega
theorem nflat_one : ∀ (l : List NV), ∀ u ∈ nflat l, u.oneCell' = true
  | [], u, h => by simp [nflat] at h
  | x :: l, u, h => by
    rcases List.mem_append.1 h with h | h
    · simp [NV.cells] at h
      rcases h with rfl | rfl | rfl | rfl | rfl | rfl <;> rfl
    · exact nflat_one l u h
theorem nflat_drop : ∀ (k : Nat) (l : List NV), nflat (l.drop k) = (nflat l).drop (k * 6)
  | 0, l => by simp
  | k + 1, [] => by simp [nflat]
  | k + 1, x :: l => by
    rw [List.drop_succ_cons, nflat_drop k l, nflat, List.drop_append, show (k + 1) * 6 = 6 + k * 6 by omega]
    simp [ncells_len]
theorem nflat_take : ∀ (k : Nat) (l : List NV), nflat (l.take k) = (nflat l).take (k * 6)
  | 0, l => by simp [nflat]
  | k + 1, [] => by simp [nflat]
  | k + 1, x :: l => by
    rw [List.take_succ_cons, nflat, nflat, nflat_take k l, List.take_append, show (k + 1) * 6 = 6 + k * 6 by omega]
    simp [ncells_len]
    rw [List.take_of_length_le (by rw [ncells_len]; omega)]

/-- A row of tasks that can be read. -/
def NView (w : World) (a : Option Addr) (l : List NV) : Prop :=
  l = [] ∨ ∃ g o, a = some ⟨g, o, none⟩ ∧ ∀ j u, (nflat l)[j]? = some u → w.cell? ⟨g, o + j, none⟩ = some u
theorem NView.nil {w : World} {a : Option Addr} : NView w a [] := .inl rfl
theorem NView.at_ {w : World} {a : Option Addr} {l : List NV} (h : NView w a l) {k : Nat} {x : NV} (hx : l[k]? = some x) : ∃ g o, a = some ⟨g, o, none⟩ ∧ NAt w g (o + k * 6) x := by
  rcases h with rfl | ⟨g, o, rfl, hc⟩
  · simp at hx
  · have f := nflat_at l k x hx
    refine ⟨g, o, rfl, ⟨?_, ?_, ?_, ?_, ?_, ?_⟩⟩
    · exact hc _ _ (f 0 (by omega))
    · exact hc _ _ (f 1 (by omega))
    · exact hc _ _ (f 2 (by omega))
    · exact hc _ _ (f 3 (by omega))
    · exact hc _ _ (f 4 (by omega))
    · exact hc _ _ (f 5 (by omega))
theorem NView.below {w w' : World} {a : Option Addr} {l : List NV} (h : NView w a l) (hb : Below w.heap.size w w') : NView w' a l := by
  rcases h with rfl | ⟨g, o, rfl, hc⟩
  · exact .inl rfl
  · exact .inr ⟨g, o, rfl, fun j u hj => kept_cell hb (hc j u hj)⟩
theorem NView.drop {w : World} {g o : Nat} {l : List NV} (h : NView w (some ⟨g, o, none⟩) l) (k : Nat) : NView w (some ⟨g, o + k * 6, none⟩) (l.drop k) := by
  rcases h with rfl | ⟨g', o', e, hc⟩
  · left; simp
  · cases e
    refine .inr ⟨_, _, rfl, fun j u hj => ?_⟩
    rw [nflat_drop, List.getElem?_drop] at hj
    rw [Nat.add_assoc]
    exact hc _ u hj
theorem NView.take {w : World} {a : Option Addr} {l : List NV} (h : NView w a l) (k : Nat) : NView w a (l.take k) := by
  rcases h with rfl | ⟨g, o, rfl, hc⟩
  · left; simp
  · refine .inr ⟨g, o, rfl, fun j u hj => ?_⟩
    rw [nflat_take, List.getElem?_take] at hj
    split at hj
    · exact hc j u hj
    · cases hj
theorem NView.of_at {w : World} {g o : Nat} {x : NV} (h : NAt w g o x) : NView w (some ⟨g, o, none⟩) [x] := by
  refine .inr ⟨g, o, rfl, fun j u hj => ?_⟩
  simp only [nflat, List.append_nil, NV.cells] at hj
  match j, hj with
  | 0, hj => simp at hj; subst hj; exact h.c0
  | 1, hj => simp at hj; subst hj; exact h.c1
  | 2, hj => simp at hj; subst hj; exact h.c2
  | 3, hj => simp at hj; subst hj; exact h.c3
  | 4, hj => simp at hj; subst hj; exact h.c4
  | 5, hj => simp at hj; subst hj; exact h.c5
  | j + 6, hj => simp at hj
abbrev NT : TypeId := 75
def OwnN (w : World) (B : Nat) (v : Value) (l : List NV) : Prop := w.ownsRow B NT 6 v l.length (nflat l)
theorem OwnN.nil (w : World) (B : Nat) : OwnN w B (.slice none 0 0) [] := World.ownsRow_nil _ _ _ _
theorem OwnN.made (w : World) : OwnN (w.alloc (.cells #[] NT)) w.heap.size (.slice (some ⟨w.heap.size, 0, none⟩) 0 0) [] :=
  World.ownsRow_made (w := w) #[] 0 (Nat.le_refl _) (by decide) rfl
theorem OwnN.low {w : World} {B B' : Nat} {v : Value} {l : List NV} (h : OwnN w B v l) (hB : B' ≤ B) : OwnN w B' v l := by
  rcases h with ⟨h0, h | ⟨g, cap, cur, rfl, hb, r⟩⟩
  · exact ⟨h0, .inl h⟩
  · exact ⟨h0, .inr ⟨g, cap, cur, rfl, by omega, r⟩⟩
theorem OwnN.slice {w : World} {B : Nat} {v : Value} {l : List NV} (h : OwnN w B v l) : ∃ a cap, v = .slice a l.length cap ∧ NView w a l ∧ l.length ≤ cap ∧ (cap : Int) ≤ 9223372036854775807 := by
  rcases h.2 with ⟨rfl, h0⟩ | ⟨g, cap, cur, rfl, _, h3, h1, h2, h4, h5⟩
  · exact ⟨none, 0, by rw [h0], .inl (List.length_eq_zero_iff.1 h0), by omega, by omega⟩
  · refine ⟨_, cap, rfl, .inr ⟨g, 0, rfl, fun j u hj => ?_⟩, h1, by unfold maxLen at h2; omega⟩
    rw [Nat.zero_add, blk_cell h3]
    rw [← h5] at hj
    rw [List.getElem?_take] at hj
    split at hj
    · simpa using hj
    · cases hj
theorem OwnN.new {w : World} {B : Nat} {v : Value} {l : List NV} (h : OwnN w B v l) {k : Nat} (hk : v.ownBlock = some k) : B ≤ k ∧ k < w.heap.size := World.ownsRow.lt h k hk
theorem OwnN.below {w w' : World} {B : Nat} {v : Value} {l : List NV} (h : OwnN w B v l) (hb : Below w.heap.size w w') : OwnN w' B v l := by
  rcases h with ⟨h0, h | ⟨g, cap, cur, rfl, hB, h3, r⟩⟩
  · exact ⟨h0, .inl h⟩
  · exact ⟨h0, .inr ⟨g, cap, cur, rfl, hB, kept_obj hb h3, r⟩⟩
theorem OwnN.none_len {w : World} {B n c : Nat} {l : List NV} (h : OwnN w B (.slice none n c) l) : n = 0 := by
  rcases h.2 with ⟨h1, h0⟩ | ⟨g, cap, cur, h1, _⟩
  · cases h1; rfl
  · cases h1

theorem infoNum : (Try.prog.info? NT).map (fun i => (i.zero, i.size, i.bytes)) = some (some (.agg #[.int .i64 0, .int .i64 0, .int .i64 0, .int .i64 0, .int .i64 0, .slice none 0 0]), 6, 64) := by kernel_rfl
theorem zeroNum (w : World) : (zeroValue NT).run Try.prog w = .ok (.agg #[.int .i64 0, .int .i64 0, .int .i64 0, .int .i64 0, .int .i64 0, .slice none 0 0]) w := by kernel_rfl
theorem ninfoParts : ∃ i, Try.prog.info? NT = some i ∧ i.zero = some (.agg #[.int .i64 0, .int .i64 0, .int .i64 0, .int .i64 0, .int .i64 0, .slice none 0 0]) ∧ i.size = 6 ∧ i.bytes = 64 := by
  obtain ⟨i, h1, h2⟩ := Option.map_eq_some_iff.1 infoNum
  simp only [Prod.mk.injEq] at h2
  exact ⟨i, h1, h2.1, h2.2.1, h2.2.2⟩

/-- A row that was appended to: what it holds, where it lies. -/
theorem append_nview {w : World} {B m c : Nat} {v : Value} {q l : List NV} {ad : Option Addr} (h : OwnN w B v q) (hB : B ≤ w.heap.size) (hv : NView w ad l) (hl : l.length = m) (hs : q.length + m ≤ 1000000) (hn : ad = none → m = 0) (ty : TypeId) :
    ∃ v' w', (Builtin.append_ #[71, 71] ty #[v, .slice ad m c]).run Try.prog w = .ok v' w' ∧ OwnN w' B v' (q ++ l) ∧ w.grownBy w' v.ownBlock ∧ ∀ k, v'.ownBlock = some k → v.ownBlock = some k ∨ w.heap.size ≤ k := by
  obtain ⟨i0, hi, hz0, hz1, hz2⟩ := ninfoParts
  cases ad with
  | none =>
    obtain rfl := hn rfl
    obtain rfl : l = [] := List.length_eq_zero_iff.1 hl
    refine ⟨v, w, ?_, by rw [List.append_nil]; exact h, ⟨rfl, rfl, rfl, Nat.le_refl _, fun _ _ _ => rfl⟩, fun k hk => .inl hk⟩
    rcases h.2 with ⟨rfl, h0⟩ | ⟨g, cap, cur, rfl, _, h3, h1, h2, h4, h5⟩
    · have hs := Src.ofNil (w := w) (size := i0.size) Try.underlying71 c
      simp [Builtin.append_, run_underlying Try.underlying71, sizeOf, typeInfo, hi, hs.len, hs.cells]
    · have := run_append_room_src (P := Try.prog) (w := w) 71 71 ty NT i0 Try.underlying71 hi g 0 q.length cap (.slice none 0 c) 0 [] (Src.ofNil w Try.underlying71 c) (by omega) (fun j hj => absurd hj (Nat.not_lt_zero _)) (fun j hj => absurd hj (Nat.not_lt_zero _))
      simpa [World.setCells] using this
  | some x =>
    have hnews : ∀ j u, (nflat l)[j]? = some u → w.cell? (x.add j) = some u := by
      intro j u hj
      rcases hv with rfl | ⟨g, o, e, hc⟩
      · simp [nflat] at hj
      · cases e
        rw [addr_at]; exact hc j u hj
    obtain ⟨v', w', h1, h2, h3, _, h5⟩ := run_append_own_at (P := Try.prog) w B 71 ty NT i0 _ 6 64 Try.underlying71 hi hz0 hz1 hz2 rfl (by decide) v q.length (nflat q) h x m c (nflat l) (by rw [nflat_len, hl]) hnews (nflat_one l) (by unfold maxLen; omega) (by omega) hB
    refine ⟨v', w', h1, ?_, h3, fun k hk => ?_⟩
    · unfold OwnN
      rw [List.length_append, nflat_append, hl]
      exact h2
    · rcases h5 with z | z
      · left; rw [← z]; exact hk
      · right; rw [z] at hk; cases hk; exact Nat.le_refl _

theorem nstep_append {w : World} {ops : Array Oper} {o : Oper} {a : Act} {K : Act → World → Prop} {Q : Exit → Act → World → Prop} {E : Prop} (hgd : o.guard = none) (s x : Operand)
    (ho : o.op = .call { callee := .builtin .append, args := #[s, x], argTypes := #[71, 71] }) {B m c : Nat} {v : Value} {q l : List NV} {ad : Option Addr} (hs : a.eval s = v) (hx : a.eval x = .slice ad m c)
    (hown : OwnN w B v q) (hB : B ≤ w.heap.size) (hv : NView w ad l) (hl : l.length = m) (hsm : q.length + m ≤ 1000000) (hn : ad = none → m = 0) (N : Nat) (hN : q.length + m = N)
    (h : ∀ a' cp' w', OwnN w' B (.slice a' N cp') (q ++ l) → w.grownBy w' v.ownBlock → (∀ k, (Value.slice a' N cp').ownBlock = some k → v.ownBlock = some k ∨ w.heap.size ≤ k) → K (a.put o.dst (.slice a' N cp')) w') :
    if Region.wanted o (yielded ops a.tmps) = true then Oper.wp Try.prog o a w K Q else E := by
  have hw : Region.wanted o (yielded ops a.tmps) = true := by simp [Region.wanted, hgd]
  rw [if_pos hw]
  obtain ⟨v', w', hr, h2, h3, h4⟩ := append_nview (c := c) hown hB hv hl hsm hn o.type
  obtain ⟨a', cp', hv', _⟩ := h2.slice
  rw [List.length_append, hl, hN] at hv'
  subst hv'
  unfold Oper.wp execOp
  simp only [ho, resolve, invoke, builtin, Sem.run_bind, Sem.run_pure, Result.andThen_ok, List.map_toArray, List.map_cons, List.map_nil, hs, hx, hr]
  exact h a' cp' w' h2 h3 h4
theorem wp_nappend {ops : Array Oper} {rest : List Oper} {o : Oper} {a : Act} {Q : Exit → Act → World → Prop} {w : World} (hgd : o.guard = none) (s x : Operand)
    (ho : o.op = .call { callee := .builtin .append, args := #[s, x], argTypes := #[71, 71] }) {B m c : Nat} {v : Value} {q l : List NV} {ad : Option Addr} (hs : a.eval s = v) (hx : a.eval x = .slice ad m c)
    (hown : OwnN w B v q) (hB : B ≤ w.heap.size) (hv : NView w ad l) (hl : l.length = m) (hsm : q.length + m ≤ 1000000) (hn : ad = none → m = 0) (N : Nat) (hN : q.length + m = N)
    (h : ∀ a' cp' w', OwnN w' B (.slice a' N cp') (q ++ l) → w.grownBy w' v.ownBlock → (∀ k, (Value.slice a' N cp').ownBlock = some k → v.ownBlock = some k ∨ w.heap.size ≤ k) → wpList Try.prog ops Q rest (a.put o.dst (.slice a' N cp')) w') : wpList Try.prog ops Q (o :: rest) a w :=
  wpList_step fun _ hK => nstep_append hgd s x ho hs hx hown hB hv hl hsm hn N hN (fun a' cp' w' o' g' l' => hK _ _ (h a' cp' w' o' g' l'))


/-- A slice of tasks' plain numbers that can be read. -/
structure Nums (w : World) (a : Option Addr) (n cap : Nat) (L : List NV) : Prop where
  len : L.length = n
  view : NView w a L
  ok : ∀ x ∈ L, x.ok w
  small : (n : Int) ≤ 9223372036854775807
theorem Nums.below {w w' : World} {a : Option Addr} {n cap : Nat} {L : List NV} (h : Nums w a n cap L) (hb : Below w.heap.size w w') : Nums w' a n cap L := ⟨h.len, h.view.below hb, fun x hx => (h.ok x hx).below hb, h.small⟩
theorem nat_new (w : World) (x : NV) (T : TypeId) : NAt (w.alloc (.cells #[.int .i64 x.C, .int .i64 x.D, .int .i64 x.T, .int .i64 x.P, .int .i64 x.K, .slice x.a x.us.length x.c] T)) w.heap.size 0 x :=
  ⟨by rw [World.cell?_alloc_new]; rfl, by rw [World.cell?_alloc_new]; rfl, by rw [World.cell?_alloc_new]; rfl, by rw [World.cell?_alloc_new]; rfl, by rw [World.cell?_alloc_new]; rfl, by rw [World.cell?_alloc_new]; rfl⟩
end Go.Proofs.Ytflemmmaakhahaa

/-
  The walk over the system that plain numbers mean.
-/
namespace Go.Proofs.Ytflemmmaakhahaa
open Go.RowKit Go.Maps

/-- What is promised of a system by plain numbers. -/
structure Made (sets r : Int) (L : List TV) : Prop where
  s1 : 1 ≤ sets
  s8 : sets ≤ 8
  r0 : 0 ≤ r
  r3 : r ≤ 3
  pos : 0 < L.length
  six : L.length ≤ 6
  good : ∀ (k : Nat) (x : TV), L[k]? = some x → Good k sets x
/-- The system that comes back. -/
def MadeBack (w : World) (e : Ending) (w' : World) : Prop :=
  ∃ (s r : Int) (a : Option Addr) (n c : Nat) (L : List TV), e = .returned (.agg #[.int .i64 s, .int .i64 r, .slice a n c]) ∧ OwnT w' w.heap.size (.slice a n c) L ∧ AllOk w' L ∧ (∀ x ∈ L, IsI w' x.a1 x.ch ∧ IsI w' x.a2 x.us) ∧ Made s r L ∧ Below w.heap.size w w'

/-- Plain numbers in a box, a system that comes back, one that is being made. -/
structure MakeAt (w : World) (S R : Int) (a : Option Addr) (n cap : Nat) (g : Nat) (s r : Int) (v : Value) (L : List TV) (W : World) : Prop where
  low : Below w.heap.size w W
  gl : w.heap.size + 1 < g
  src : W.heap[w.heap.size]? = some (.cells #[.int .i64 S, .int .i64 R, .slice a n cap] 73 (0, 0))
  res : W.heap[w.heap.size + 1]? = some (.cells #[.int .i64 0, .int .i64 0, .slice none 0 0] 29 (0, 0))
  box : W.heap[g]? = some (.cells #[.int .i64 s, .int .i64 r, v] 29 (0, 0))
  own : OwnT W (g + 1) v L
  ok : AllOk W L
  ints : ∀ x ∈ L, IsI W x.a1 x.ch ∧ IsI W x.a2 x.us
theorem MakeAt.below {w W W' : World} {S R s r : Int} {a : Option Addr} {n cap g : Nat} {v : Value} {L : List TV} (h : MakeAt w S R a n cap g s r v L W) (hb : Below W.heap.size W W') : MakeAt w S R a n cap g s r v L W' :=
  ⟨below_up h.low hb, h.gl, kept_obj hb h.src, kept_obj hb h.res, kept_obj hb h.box, h.own.below hb, h.ok.below hb, fun x hx => ⟨(h.ints x hx).1.below hb, (h.ints x hx).2.below hb⟩⟩
theorem makeAt_new {w W : World} {S R s r : Int} {a : Option Addr} {n cap : Nat} (hl : Below w.heap.size w W) (h1 : W.heap[w.heap.size]? = some (.cells #[.int .i64 S, .int .i64 R, .slice a n cap] 73 (0, 0))) (h2 : W.heap[w.heap.size + 1]? = some (.cells #[.int .i64 0, .int .i64 0, .slice none 0 0] 29 (0, 0))) :
    MakeAt w S R a n cap W.heap.size s r (.slice none 0 0) [] (W.alloc (.cells #[.int .i64 s, .int .i64 r, .slice none 0 0] 29)) :=
  ⟨below_up hl (by repeat (first | exact Below.refl _ _ | (with_reducible assumption) | refine bw_alloc ?_ _ | refine bw_drew ?_)), lt_of_block h2, kept_obj (by repeat (first | exact Below.refl _ _ | (with_reducible assumption) | refine bw_alloc ?_ _ | refine bw_drew ?_)) h1, kept_obj (by repeat (first | exact Below.refl _ _ | (with_reducible assumption) | refine bw_alloc ?_ _ | refine bw_drew ?_)) h2, heap_alloc_new W _, OwnT.nil _ _, (fun x hx => by cases hx), (fun x hx => by cases hx)⟩

/-- A row of numbers is where it was, whatever is stored elsewhere. -/
theorem IsI.kept {w w' : World} {a : Option Addr} {l : List Int} (h : IsI w a l) (hk : ∀ (g : Nat) (cs : Array Value) (T : TypeId) (fr : Nat × Nat), w.heap[g]? = some (.cells cs T fr) → (T = 2 ∨ T = 3) → w'.heap[g]? = w.heap[g]?) : IsI w' a l := by
  rcases h with h | h
  · exact .inl h
  · refine .inr fun g o e => ?_
    obtain ⟨cs, T, fr, h1, h2⟩ := h g o e
    exact ⟨cs, T, fr, (hk g cs T fr h1 h2).trans h1, h2⟩
theorem Ints.kept {w w' : World} {a : Option Addr} {l : List Int} (h : Ints w a l) (hi : IsI w a l) (hk : ∀ (g : Nat) (cs : Array Value) (T : TypeId) (fr : Nat × Nat), w.heap[g]? = some (.cells cs T fr) → (T = 2 ∨ T = 3) → w'.heap[g]? = w.heap[g]?) : Ints w' a l := by
  rcases h with rfl | ⟨g, o, rfl, hc⟩
  · exact .inl rfl
  · rcases hi with rfl | hi
    · exact .inl rfl
    · obtain ⟨cs, T, fr, h1, h2⟩ := hi g o rfl
      refine .inr ⟨g, o, rfl, fun j u hj => ?_⟩
      rw [World.cell?_of_block (hk g cs T fr h1 h2)]; exact hc j u hj
theorem TV.ok.kept {w w' : World} {x : TV} (h : x.ok w) (hi : IsI w x.a1 x.ch ∧ IsI w x.a2 x.us) (hk : ∀ (g : Nat) (cs : Array Value) (T : TypeId) (fr : Nat × Nat), w.heap[g]? = some (.cells cs T fr) → (T = 2 ∨ T = 3) → w'.heap[g]? = w.heap[g]?) : x.ok w' :=
  ⟨h.one.kept hi.1 hk, h.two.kept hi.2 hk, h.l1, h.m1, h.l2, h.m2⟩
theorem OwnT.set {w : World} {B : Nat} {v : Value} {l : List TV} (h : OwnT w B v l) {a : Addr} (ha : a.block < B) (u : Value) : OwnT (w.setCell a u) B v l := ownsRow_setCell_below h ha u
theorem MakeAt.lay {w W w3 : World} {S R s r : Int} {a : Option Addr} {n cap g : Nat} {v v' : Value} {L L' : List TV} (h : MakeAt w S R a n cap g s r v L W) (hb : Below (g + 1) W w3) (hk3 : ∀ (b : Nat) (cs : Array Value) (T : TypeId) (fr : Nat × Nat), W.heap[b]? = some (.cells cs T fr) → (T = 2 ∨ T = 3) → w3.heap[b]? = W.heap[b]?) (ho : OwnT w3 (g + 1) v' L') (hall : ∀ x ∈ L', x.ok W ∧ (IsI W x.a1 x.ch ∧ IsI W x.a2 x.us)) :
    MakeAt w S R a n cap g s r v' L' (w3.setCell ⟨g, 2, none⟩ v') ∧ w3.cell? ⟨g, 2, none⟩ = some v ∧ w3.frozen? ⟨g, 2, none⟩ = false := by
  have hgl := h.gl
  have h3 := kept_objB hb (by omega) h.box
  have hk : ∀ (b : Nat) (cs : Array Value) (T : TypeId) (fr : Nat × Nat), W.heap[b]? = some (.cells cs T fr) → (T = 2 ∨ T = 3) → (w3.setCell ⟨g, 2, none⟩ v').heap[b]? = W.heap[b]? := by
    intro b cs T fr hc hT
    have e1 := hk3 b cs T fr hc hT
    rw [blk_far (a := ⟨g, 2, none⟩) ?_ v']
    · exact e1
    · rintro rfl
      rw [hc] at e1
      rw [h3] at e1
      simp at e1
      rcases hT with q | q <;> rw [q] at e1 <;> exact absurd e1.2.1 (by decide)
  refine ⟨⟨(h.low.trans (hb.mono (by omega))).setCell (p := ⟨g, 2, none⟩) (by show _ ≤ g; omega) _, h.gl, ?_, ?_, (blk_set h3 _).trans rfl, ho.set (by simp) _, fun x hx => (hall x hx).1.kept (hall x hx).2 hk, fun x hx => ⟨(hall x hx).2.1.kept hk, (hall x hx).2.2.kept hk⟩⟩, by rw [blk_cell h3]; rfl, blk_free h3 2⟩
  · rw [blk_far (a := ⟨g, 2, none⟩) (by show _ ≠ g; omega)]; exact kept_objB hb (by omega) h.src
  · rw [blk_far (a := ⟨g, 2, none⟩) (by show _ ≠ g; omega)]; exact kept_objB hb (by omega) h.res
theorem MakeAt.push {w W w3 : World} {S R s r : Int} {a : Option Addr} {n cap g : Nat} {v v' : Value} {L : List TV} {y : TV} (h : MakeAt w S R a n cap g s r v L W) (hg : W.grownBy w3 v.ownBlock) (ho : OwnT w3 (g + 1) v' (L ++ [y])) (hy : y.ok W) (hi : IsI W y.a1 y.ch ∧ IsI W y.a2 y.us) :
    MakeAt w S R a n cap g s r v' (L ++ [y]) (w3.setCell ⟨g, 2, none⟩ v') ∧ w3.cell? ⟨g, 2, none⟩ = some v ∧ w3.frozen? ⟨g, 2, none⟩ = false := by
  have hs : g + 1 ≤ W.heap.size := lt_of_block h.box
  have hb : Below (g + 1) W w3 := (Below.refl _ W).grown hg hs (fun k hk => (h.own.new hk).1)
  refine h.lay hb ?_ ho ?_
  · intro b cs T fr hc hT
    refine hg.block b (lt_of_block hc) ?_
    intro z
    rcases h.own with ⟨_, q | ⟨k', cap', cur', e', hB', h3', _⟩⟩
    · rw [q.1] at z; cases z
    · rw [e'] at z
      simp [Value.ownBlock] at z
      subst z
      rw [hc] at h3'
      simp at h3'
      rcases hT with q | q <;> rw [q] at h3' <;> exact absurd h3'.2.1 (by decide)
  · intro x hx
    rcases List.mem_append.1 hx with q | q
    · exact ⟨h.ok x q, h.ints x q⟩
    · simp at q; subst q; exact ⟨hy, hi⟩
/-- The task of a system that has none. -/
def lone : TV := ⟨1, 1, 4, 4, 10, none, [], 0, none, [], 0⟩
theorem lone_good (s : Int) : Good 0 s lone := ⟨rfl, by simp [lone], by simp [lone], by simp [lone], by simp [lone], by simp [lone], by simp [lone], by simp [lone], .inl rfl, (fun u hu => by simp [lone] at hu), by simp [lone]⟩
theorem lone_own (W : World) (B : Nat) (hB : B ≤ W.heap.size) : OwnT (W.alloc (.cells #[.int .i64 1, .int .i64 1, .int .i64 4, .int .i64 4, .int .i64 10, .slice none 0 0, .slice none 0 0] TT)) B (.slice (some ⟨W.heap.size, 0, none⟩) 1 1) [lone] :=
  World.ownsRow_lit (w := W) #[.int .i64 1, .int .i64 1, .int .i64 4, .int .i64 4, .int .i64 10, .slice none 0 0, .slice none 0 0] 1 hB (by decide) rfl
theorem MakeAt.lone {w W : World} {S R s r : Int} {a : Option Addr} {n cap g : Nat} {v : Value} {L : List TV} (h : MakeAt w S R a n cap g s r v L W) :
    MakeAt w S R a n cap g s r (.slice (some ⟨W.heap.size, 0, none⟩) 1 1) [lone] ((W.alloc (.cells #[.int .i64 1, .int .i64 1, .int .i64 4, .int .i64 4, .int .i64 10, .slice none 0 0, .slice none 0 0] TT)).setCell ⟨g, 2, none⟩ (.slice (some ⟨W.heap.size, 0, none⟩) 1 1)) := by
  have hs : g + 1 ≤ W.heap.size := lt_of_block h.box
  refine (h.lay (L' := [Go.Proofs.Ytflemmmaakhahaa.lone]) (((Below.refl _ W).alloc (Nat.le_refl _) _).mono hs) ?_ (lone_own W _ hs) ?_).1
  · intro b cs T fr hc _
    exact Below.heap_alloc _ _ _ (lt_of_block hc)
  · intro x hx
    simp at hx; subst hx
    exact ⟨⟨.inl rfl, .inl rfl, by simp [Go.Proofs.Ytflemmmaakhahaa.lone], by simp [Go.Proofs.Ytflemmmaakhahaa.lone], by simp [Go.Proofs.Ytflemmmaakhahaa.lone], by simp [Go.Proofs.Ytflemmmaakhahaa.lone]⟩, .inl rfl, .inl rfl⟩
/-- The end. -/
theorem MakeAt.done {w W : World} {S R s r : Int} {a a' : Option Addr} {n cap g m c : Nat} {L : List TV} (h : MakeAt w S R a n cap g s r (.slice a' m c) L W) (hL : Made s r L) (x0 x1 x2 : Value) :
    MadeBack w (.returned (.agg #[.int .i64 s, .int .i64 r, .slice a' m c])) (((W.setCell ⟨w.heap.size + 1, 0, none⟩ x0).setCell ⟨w.heap.size + 1, 1, none⟩ x1).setCell ⟨w.heap.size + 1, 2, none⟩ x2) := by
  have hgl := h.gl
  have hb : Below w.heap.size w (((W.setCell ⟨w.heap.size + 1, 0, none⟩ x0).setCell ⟨w.heap.size + 1, 1, none⟩ x1).setCell ⟨w.heap.size + 1, 2, none⟩ x2) :=
    ((h.low.setCell (p := ⟨w.heap.size + 1, 0, none⟩) (Nat.le_succ _) x0).setCell (p := ⟨w.heap.size + 1, 1, none⟩) (Nat.le_succ _) x1).setCell (p := ⟨w.heap.size + 1, 2, none⟩) (Nat.le_succ _) x2
  have ho := ((h.own.set (a := ⟨w.heap.size + 1, 0, none⟩) (Nat.lt_succ_of_lt hgl) x0).set (a := ⟨w.heap.size + 1, 1, none⟩) (Nat.lt_succ_of_lt hgl) x1).set (a := ⟨w.heap.size + 1, 2, none⟩) (Nat.lt_succ_of_lt hgl) x2
  have hk : ∀ (b : Nat) (cs : Array Value) (T : TypeId) (fr : Nat × Nat), W.heap[b]? = some (.cells cs T fr) → (T = 2 ∨ T = 3) → (((W.setCell ⟨w.heap.size + 1, 0, none⟩ x0).setCell ⟨w.heap.size + 1, 1, none⟩ x1).setCell ⟨w.heap.size + 1, 2, none⟩ x2).heap[b]? = W.heap[b]? := by
    intro b cs T fr hc hT
    have hne : b ≠ w.heap.size + 1 := by
      rintro rfl
      rw [h.res] at hc
      simp at hc
      rcases hT with q | q <;> rw [q] at hc <;> exact absurd hc.2.1 (by decide)
    rw [blk_far (a := ⟨w.heap.size + 1, 2, none⟩) hne, blk_far (a := ⟨w.heap.size + 1, 1, none⟩) hne, blk_far (a := ⟨w.heap.size + 1, 0, none⟩) hne]
  exact ⟨s, r, a', m, c, L, rfl, ho.low (by omega), fun x hx => (h.ok x hx).kept (h.ints x hx) hk, fun x hx => ⟨(h.ints x hx).1.kept hk, (h.ints x hx).2.kept hk⟩, hL, hb⟩

set_option maxRecDepth 100000 in
set_option maxHeartbeats 4000000 in
theorem made_any {w : World} {a : Option Addr} {n cap : Nat} {L : List NV} (S R : Int) (hn : Nums w a n cap L) :
    Calls Try.prog 35 #[.agg #[.int .i64 S, .int .i64 R, .slice a n cap]] w (MadeBack w) := by
  have HA := Lib.hid hn
  have hz := zeroSys
  have hn9 := hn.small
  obtain ⟨s, hs⟩ : ∃ s, restI S 8 = s := ⟨_, rfl⟩
  have R1 := Lib.hid (fun w => hs ▸ rest_any S 8 (by omega) (by omega) w)
  have hs0 : 0 ≤ s := by rw [← hs]; exact Int.emod_nonneg _ (by omega)
  have hs1 : s < 8 := by rw [← hs]; exact Int.emod_lt_of_pos _ (by omega)
  have hw1 : IntKind.i64.wrap (1 + s) = 1 + s := IntWalk.i64_in _ (by omega)
  obtain ⟨r, hr, hr2⟩ := and_small R 3 (by omega)
  have hr3 : bits .and .i64 R 3 = (r : Int) := hr2
  have hr9 : (r : Int) ≤ 3 := by omega
  clear hn hs hr2
  go_enter Try.func35, Try.ntmps35
  go_upto_region 1 with fail
  refine gen_world (fun v => Below w.heap.size w v ∧ v.heap[w.heap.size]? = some (.cells #[.int .i64 S, .int .i64 R, .slice a n cap] 73 (0, 0)) ∧ v.heap[w.heap.size + 1]? = some (.cells #[.int .i64 0, .int .i64 0, .slice none 0 0] 29 (0, 0))) ⟨(by repeat (first | exact Below.refl _ _ | (with_reducible assumption) | refine bw_alloc ?_ _ | refine bw_drew ?_)), by rw [Below.heap_alloc _ _ _ (by simp)]; exact heap_alloc_new w _, by have := heap_alloc_new (w.alloc (.cells #[.int .i64 S, .int .i64 R, .slice a n cap] 73)) (.cells #[.int .i64 0, .int .i64 0, .slice none 0 0] 29); rwa [World.size_alloc] at this⟩ ?_
  intro W1 ⟨hl, h1, h2⟩
  have HL := Lib.hid hl
  have H1 := Lib.hid h1
  have H2 := Lib.hid h2
  have e0 : W1.cell? ⟨w.heap.size, 0, none⟩ = some (.int .i64 S) := by rw [blk_cell h1]; rfl
  have e1 : W1.cell? ⟨w.heap.size, 1, none⟩ = some (.int .i64 R) := by rw [blk_cell h1]; rfl
  have hlt := lt_of_block h1
  clear hl h1 h2
  go_cut [3] from 5 to 12 (fun u wx => u = .pointer (some ⟨W1.heap.size, 0, none⟩) ∧ wx = (W1.alloc (.cells #[.int .i64 (1 + s), .int .i64 r, .slice none 0 0] 29)).drew)
  case first =>
    have MK : Hid (∀ v, Below W1.heap.size W1 v → (Below W1.heap.size W1 v ∧ v.cell? ⟨w.heap.size, 0, none⟩ = some (.int .i64 S) ∧ v.cell? ⟨w.heap.size, 1, none⟩ = some (.int .i64 R))) := fun v hb => ⟨hb, kept_cell hb (by rw [blk_cell H1.out]; rfl), kept_cell hb (by rw [blk_cell H1.out]; rfl)⟩
    go_region_held3 (fun v => Below W1.heap.size W1 v ∧ v.cell? ⟨w.heap.size, 0, none⟩ = some (.int .i64 S) ∧ v.cell? ⟨w.heap.size, 1, none⟩ = some (.int .i64 R)) (exact MK.out _ (by repeat (first | exact Below.refl _ _ | (with_reducible assumption) | refine bw_alloc ?_ _ | refine bw_drew ?_))) ((go_at_call 58; (with_reducible refine (R1.out _).mono ?_); rintro e w3 ⟨rfl, rfl⟩))
    all_goals (go_wp2_with fail; go_meet; exact ⟨rfl, rfl⟩)
  case rest =>
    obtain ⟨rfl, rfl⟩ := hcut
    have hgl0 : w.heap.size + 1 < W1.heap.size := lt_of_block H2.out
    go_wp2_with fail
    refine gen_world (MakeAt w S R a n cap W1.heap.size (1 + s) r (.slice none 0 0) []) ((makeAt_new HL.out H1.out H2.out).below (Below.refl _ _).drew) ?_
    intro W3 hw3
    have H3 := Lib.hid hw3
    have hs1' : 1 ≤ 1 + s := by omega
    have hs8' : 1 + s ≤ 8 := by omega
    have hr0 : (0 : Int) ≤ (r : Int) := by omega
    clear hw3 HL H1 H2 e0 e1 hlt hw1 hr3 R1 hs0 hs1
    generalize W1.heap.size = g at *
    generalize 1 + s = s at *
    generalize (r : Int) = r at *
    clear hgl0
    obtain ⟨m, hm⟩ : ∃ m, m = min n 6 := ⟨_, rfl⟩
    have hm1 : m ≤ n := by omega
    have hm6 : m ≤ 6 := by omega
    have hor : m = n ∨ (m = 6 ∧ 6 < n) := by omega
    have HOR := Lib.hid hor
    clear hm hor
    go_loopw [4] (fun u wr => ∃ (k : Nat) (a' : Option Addr) (cp' : Nat) (M : List TV), k ≤ m ∧ u = .int .i64 k ∧ Hid (M.length = k) ∧ Hid (∀ (j : Nat) (x : TV), M[j]? = some x → Good j s x) ∧ Hid (MakeAt w S R a n cap g s r (.slice a' k cp') M wr)) (fun u _ => (m - intOf u).toNat)
    case atStart => exact ⟨0, _, _, [], by omega, rfl, rfl, (fun j x hx => by simp at hx), H3⟩
    case round =>
      obtain ⟨k, a', cp', M, hk, rfl, HML, HMG, HP⟩ := hrel
      clear H3
      have b0 : wr.cell? ⟨g, 0, none⟩ = some (.int .i64 s) := by rw [blk_cell HP.out.box]; rfl
      have b2 : wr.cell? ⟨g, 2, none⟩ = some (.slice a' k cp') := by rw [blk_cell HP.out.box]; rfl
      have s2 : wr.cell? ⟨w.heap.size, 2, none⟩ = some (.slice a n cap) := by rw [blk_cell HP.out.src]; rfl
      have hgw : g < wr.heap.size := lt_of_block HP.out.box
      by_cases hlt : k < m
      · obtain ⟨x, hx⟩ := nth_of HA.out.len (show k < n by omega)
        obtain ⟨g', o', rfl, ⟨c0, c1, c2, c3, c4, c5⟩⟩ := (HA.out.view.below HP.out.low).at_ hx
        have hk1 : (k : Int) < (n : Int) := by omega
        have hk6 : (k : Int) < 6 := by omega
        have hk0 : (0 : Int) ≤ (k : Int) := by omega
        have HXO := Lib.hid ((HA.out.ok x (List.mem_of_getElem? hx)).below HP.out.low)
        have T : Hid (∀ v, Below wr.heap.size wr v → _) := fun v hb => task_any x k s ⟨hk0, hk6⟩ ⟨hs1', hs8'⟩ v (HXO.out.below hb)
        have HSM : Hid (M.length + 1 ≤ 1000000) := by show _ ≤ _; have := HML.out; omega
        have HNN : Hid (M.length + 1 = k + 1) := by show _ = _; rw [HML.out]
        have HL2 : Hid (∀ y, (M ++ [y]).length = k + 1) := fun y => by rw [List.length_append, HML.out]; rfl
        have HG2 : Hid (∀ y, Good k s y → ∀ (j : Nat) (x : TV), (M ++ [y])[j]? = some x → Good j s x) := fun y hy j x hj => by
          rw [List.getElem?_append] at hj
          split at hj
          · exact HMG.out j x hj
          · rename_i q
            have hjk : j = k := by
              have := (List.getElem?_eq_some_iff.1 hj).1
              simp at this
              have := HML.out; omega
            subst hjk
            have hj0 : j - M.length = 0 := by have := HML.out; omega
            rw [hj0] at hj
            simp at hj; subst hj; exact hy
        clear hx
        go_upto_region 5 with fail
        go_region_law (first
          | (refine step_append (m := 1) (l := [y]) rfl (.tmp 25) (.tmp 35) rfl (by rfl) (by rfl) (H5.out.below (by repeat (first | exact Below.refl _ _ | (with_reducible assumption) | refine bw_alloc ?_ _ | refine bw_drew ?_))).own (Nat.le_trans (lt_of_block H5.out.box) ((by repeat (first | exact Below.refl _ _ | (with_reducible assumption) | refine bw_alloc ?_ _ | refine bw_drew ?_)) : Below w5.heap.size w5 _).size) (by first | exact View.of_at (at_new _ _ _) | exact (View.of_at (at_new _ _ _)).below (by repeat (first | exact Below.refl _ _ | (with_reducible assumption) | refine bw_alloc ?_ _ | refine bw_drew ?_))) rfl HSM.out (fun z => by cases z) (k + 1) HNN.out ?_
             intro a3 k3 w3 o3 g3 l3
             obtain ⟨hn, z1, z2⟩ := (H5.out.below (by repeat (first | exact Below.refl _ _ | (with_reducible assumption) | refine bw_alloc ?_ _ | refine bw_drew ?_))).push g3 o3 (HY.out.below (by repeat (first | exact Below.refl _ _ | (with_reducible assumption) | refine bw_alloc ?_ _ | refine bw_drew ?_))) ⟨HI.out.1.below (by repeat (first | exact Below.refl _ _ | (with_reducible assumption) | refine bw_alloc ?_ _ | refine bw_drew ?_)), HI.out.2.below (by repeat (first | exact Below.refl _ _ | (with_reducible assumption) | refine bw_alloc ?_ _ | refine bw_drew ?_))⟩
             have HN := Lib.hid hn
             clear hn o3 g3 l3)
          | (go_simp; (with_reducible refine (T.out _ (by repeat (first | exact Below.refl _ _ | (with_reducible assumption) | refine bw_alloc ?_ _ | refine bw_drew ?_))).mono ?_); rintro e w5 ⟨y, rfl, hy, hgood, b5, hi1, hi2⟩; have H5 := Lib.hid (HP.out.below (below_up (W := wr) (by repeat (first | exact Below.refl _ _ | (with_reducible assumption) | refine bw_alloc ?_ _ | refine bw_drew ?_)) b5)); have b2' : w5.cell? ⟨g, 2, none⟩ = some (.slice a' k cp') := (by rw [blk_cell H5.out.box]; rfl); have hgw5 : g < w5.heap.size := lt_of_block H5.out.box; have HY := Lib.hid hy; have HG := Lib.hid hgood; have HI := Lib.hid (And.intro hi1 hi2); clear hy hgood b5 hi1 hi2))
        all_goals
          go_wp2
          go_roundw
          case rel => exact ⟨k + 1, a3, k3, M ++ [y], by omega, by go_num, HL2.out y, HG2.out y HG.out, HN⟩
          case measure => simp [intOf]; omega
      · obtain rfl : m = k := by omega
        have hr1 : w.heap.size + 1 < wr.heap.size := lt_of_block HP.out.res
        have b1 : wr.cell? ⟨g, 1, none⟩ = some (.int .i64 r) := by rw [blk_cell HP.out.box]; rfl
        have bf := blk_free HP.out.box 2
        have r0 : wr.cell? ⟨w.heap.size + 1, 0, none⟩ = some (.int .i64 0) := by rw [blk_cell HP.out.res]; rfl
        have r1 : wr.cell? ⟨w.heap.size + 1, 1, none⟩ = some (.int .i64 0) := by rw [blk_cell HP.out.res]; rfl
        have r2 : wr.cell? ⟨w.heap.size + 1, 2, none⟩ = some (.slice none 0 0) := by rw [blk_cell HP.out.res]; rfl
        have f0 := blk_free HP.out.res 0
        have f1 := blk_free HP.out.res 1
        have f2 := blk_free HP.out.res 2
        have hgne : ¬ g = w.heap.size + 1 := by have := HP.out.gl; omega
        by_cases hm0 : m = 0
        · have HD := Lib.hid (fun x0 x1 x2 => HP.out.lone.done (⟨hs1', hs8', hr0, hr9, by simp, by simp, (fun j x hx => by
            match j, hx with
            | 0, hx => simp at hx; subst hx; exact lone_good s
            | j + 1, hx => simp at hx)⟩ : Made s r [lone]) x0 x1 x2)
          have d1 : ((m : Int) == 0) = true := by rw [beq_iff_eq]; omega
          have d2 : ¬ (m : Int) < (n : Int) := by have := HOR.out; omega
          have HD2 : Hid (∀ x0 x1 x2, MadeBack w (.returned (.agg #[.int .i64 s, .int .i64 r, .slice (some ⟨wr.heap.size, 0, none⟩) 1 1])) (((((wr.setCell ⟨g, 2, none⟩ (.slice (some ⟨wr.heap.size, 0, none⟩) 1 1)).setCell ⟨w.heap.size + 1, 0, none⟩ x0).setCell ⟨w.heap.size + 1, 1, none⟩ x1).setCell ⟨w.heap.size + 1, 2, none⟩ x2).alloc (.cells #[.int .i64 1, .int .i64 1, .int .i64 4, .int .i64 4, .int .i64 10, .slice none 0 0, .slice none 0 0] TT))) := by
            intro x0 x1 x2
            have := HD.out x0 x1 x2
            rw [World.setCell_alloc_past _ _ _ _ hgw, World.setCell_alloc_past _ _ _ _ (by simpa using hr1), World.setCell_alloc_past _ _ _ _ (by simpa using hr1), World.setCell_alloc_past _ _ _ _ (by simpa using hr1)] at this
            exact this
          clear hm0 HMG HML hm1 HD
          go_wp2_with fail
          exact bodyPost_ret (v := .agg #[.int .i64 s, .int .i64 r, .slice (some ⟨wr.heap.size, 0, none⟩) 1 1]) (by simp [results, Try.results35, go_sem, r0, r1, r2, hr1]) rfl (HD2.out _ _ _)
        · have HD := Lib.hid (fun x0 x1 x2 => HP.out.done (⟨hs1', hs8', hr0, hr9, by rw [HML.out]; omega, by rw [HML.out]; omega, HMG.out⟩ : Made s r M) x0 x1 x2)
          have d1 : ((m : Int) == 0) = false := by rw [beq_eq_false_iff_ne]; omega
          have q1 : ¬ ((m : Int) < (n : Int)) ∨ ((m : Int) < (n : Int) ∧ ¬ ((m : Int) < 6)) := by
            rcases HOR.out with h | ⟨h1, h2⟩
            · left; omega
            · right; omega
          clear HMG HML
          rcases q1 with q1 | ⟨q1, q2⟩
          all_goals
            go_wp2_with fail
            exact bodyPost_ret (v := .agg #[.int .i64 s, .int .i64 r, .slice a' m cp']) (by simp [results, Try.results35, go_sem, r0, r1, r2, hr1]) rfl (HD.out _ _ _)
end Go.Proofs.Ytflemmmaakhahaa

/-
  The walk over the system that a statement's plain numbers mean.
-/
namespace Go.Proofs.Ytflemmmaakhahaa
open Go.RowKit Go.Maps

/-- Plain numbers in a box, a system that comes back, plain numbers that are being made. -/
structure CopyAt (w : World) (S R : Int) (a : Option Addr) (n cap : Nat) (v : Value) (M : List NV) (W : World) : Prop where
  low : Below w.heap.size w W
  src : W.heap[w.heap.size]? = some (.cells #[.int .i64 S, .int .i64 R, .slice a n cap] 24 (0, 0))
  res : W.heap[w.heap.size + 1]? = some (.cells #[.int .i64 0, .int .i64 0, .slice none 0 0] 29 (0, 0))
  box : W.heap[w.heap.size + 2]? = some (.cells #[.int .i64 S, .int .i64 R, v] 73 (0, 0))
  own : OwnN W (w.heap.size + 3) v M
theorem CopyAt.below {w W W' : World} {S R : Int} {a : Option Addr} {n cap : Nat} {v : Value} {M : List NV} (h : CopyAt w S R a n cap v M W) (hb : Below W.heap.size W W') : CopyAt w S R a n cap v M W' :=
  ⟨below_up h.low hb, kept_obj hb h.src, kept_obj hb h.res, kept_obj hb h.box, h.own.below hb⟩
theorem copyAt_new {w : World} {S R : Int} {a : Option Addr} {n cap : Nat} : CopyAt w S R a n cap (.slice none 0 0) [] (((w.alloc (.cells #[.int .i64 S, .int .i64 R, .slice a n cap] 24)).alloc (.cells #[.int .i64 0, .int .i64 0, .slice none 0 0] 29)).alloc (.cells #[.int .i64 S, .int .i64 R, .slice none 0 0] 73)) := by
  refine ⟨(by repeat (first | exact Below.refl _ _ | (with_reducible assumption) | refine bw_alloc ?_ _ | refine bw_drew ?_)), ?_, ?_, ?_, OwnN.nil _ _⟩
  · rw [Below.heap_alloc _ _ _ (by simp; omega), Below.heap_alloc _ _ _ (by simp)]; exact heap_alloc_new w _
  · rw [Below.heap_alloc _ _ _ (by simp)]
    have := heap_alloc_new (w.alloc (.cells #[.int .i64 S, .int .i64 R, .slice a n cap] 24)) (.cells #[.int .i64 0, .int .i64 0, .slice none 0 0] 29)
    rwa [World.size_alloc] at this
  · have := heap_alloc_new ((w.alloc (.cells #[.int .i64 S, .int .i64 R, .slice a n cap] 24)).alloc (.cells #[.int .i64 0, .int .i64 0, .slice none 0 0] 29)) (.cells #[.int .i64 S, .int .i64 R, .slice none 0 0] 73)
    rwa [World.size_alloc, World.size_alloc] at this
theorem OwnN.set {w : World} {B : Nat} {v : Value} {l : List NV} (h : OwnN w B v l) {a : Addr} (ha : a.block < B) (u : Value) : OwnN (w.setCell a u) B v l := ownsRow_setCell_below h ha u
theorem CopyAt.push {w W w3 : World} {S R : Int} {a : Option Addr} {n cap : Nat} {v v' : Value} {M M' : List NV} (h : CopyAt w S R a n cap v M W) (hg : W.grownBy w3 v.ownBlock) (ho : OwnN w3 (w.heap.size + 3) v' M') :
    CopyAt w S R a n cap v' M' (w3.setCell ⟨w.heap.size + 2, 2, none⟩ v') ∧ w3.cell? ⟨w.heap.size + 2, 2, none⟩ = some v ∧ w3.frozen? ⟨w.heap.size + 2, 2, none⟩ = false := by
  have hs : w.heap.size + 3 ≤ W.heap.size := lt_of_block h.box
  have hb : Below (w.heap.size + 3) W w3 := (Below.refl _ W).grown hg hs (fun k hk => (h.own.new hk).1)
  have h3 := kept_objB hb (by omega) h.box
  refine ⟨⟨(h.low.trans (hb.mono (by omega))).setCell (p := ⟨w.heap.size + 2, 2, none⟩) (by show _ ≤ _ + 2; omega) _, ?_, ?_, (blk_set h3 _).trans rfl, ho.set (by show _ + 2 < _; omega) _⟩, by rw [blk_cell h3]; rfl, blk_free h3 2⟩
  · rw [blk_far (a := ⟨w.heap.size + 2, 2, none⟩) (by show _ ≠ _ + 2; omega)]; exact kept_objB hb (by omega) h.src
  · rw [blk_far (a := ⟨w.heap.size + 2, 2, none⟩) (by show _ ≠ _ + 2; omega)]; exact kept_objB hb (by omega) h.res
theorem copy_done {w W W5 : World} {s r : Int} {a : Option Addr} {n c : Nat} {L : List TV} (hl : Below w.heap.size w W) (hb : Below W.heap.size W W5) (hres : W5.heap[w.heap.size + 1]? = some (.cells #[.int .i64 0, .int .i64 0, .slice none 0 0] 29 (0, 0))) (hrl : w.heap.size + 1 < W.heap.size)
    (ho : OwnT W5 W.heap.size (.slice a n c) L) (hok : AllOk W5 L) (hi : ∀ x ∈ L, IsI W5 x.a1 x.ch ∧ IsI W5 x.a2 x.us) (hm : Made s r L) (x0 x1 x2 : Value) :
    MadeBack w (.returned (.agg #[.int .i64 s, .int .i64 r, .slice a n c])) (((W5.setCell ⟨w.heap.size + 1, 0, none⟩ x0).setCell ⟨w.heap.size + 1, 1, none⟩ x1).setCell ⟨w.heap.size + 1, 2, none⟩ x2) := by
  have hb2 : Below w.heap.size w (((W5.setCell ⟨w.heap.size + 1, 0, none⟩ x0).setCell ⟨w.heap.size + 1, 1, none⟩ x1).setCell ⟨w.heap.size + 1, 2, none⟩ x2) :=
    (((below_up hl hb).setCell (p := ⟨w.heap.size + 1, 0, none⟩) (Nat.le_succ _) x0).setCell (p := ⟨w.heap.size + 1, 1, none⟩) (Nat.le_succ _) x1).setCell (p := ⟨w.heap.size + 1, 2, none⟩) (Nat.le_succ _) x2
  have ho2 := ((ho.set (a := ⟨w.heap.size + 1, 0, none⟩) hrl x0).set (a := ⟨w.heap.size + 1, 1, none⟩) hrl x1).set (a := ⟨w.heap.size + 1, 2, none⟩) hrl x2
  have hk : ∀ (b : Nat) (cs : Array Value) (T : TypeId) (fr : Nat × Nat), W5.heap[b]? = some (.cells cs T fr) → (T = 2 ∨ T = 3) → (((W5.setCell ⟨w.heap.size + 1, 0, none⟩ x0).setCell ⟨w.heap.size + 1, 1, none⟩ x1).setCell ⟨w.heap.size + 1, 2, none⟩ x2).heap[b]? = W5.heap[b]? := by
    intro b cs T fr hc hT
    have hne : b ≠ w.heap.size + 1 := by
      rintro rfl
      rw [hres] at hc
      simp at hc
      rcases hT with q | q <;> rw [q] at hc <;> exact absurd hc.2.1 (by decide)
    rw [blk_far (a := ⟨w.heap.size + 1, 2, none⟩) hne, blk_far (a := ⟨w.heap.size + 1, 1, none⟩) hne, blk_far (a := ⟨w.heap.size + 1, 0, none⟩) hne]
  exact ⟨s, r, a, n, c, L, rfl, ho2.low (by omega), fun x hx => (hok x hx).kept (hi x hx) hk, fun x hx => ⟨(hi x hx).1.kept hk, (hi x hx).2.kept hk⟩, hm, hb2⟩

set_option maxRecDepth 100000 in
set_option maxHeartbeats 4000000 in
theorem made5_any {w : World} {a : Option Addr} {n cap : Nat} {L : List NV} (S R : Int) (hn : Nums w a n cap L) :
    Calls Try.prog 10 #[.agg #[.int .i64 S, .int .i64 R, .slice a n cap]] w (MadeBack w) := by
  have HA := Lib.hid hn
  have hz := zeroSys
  have hn9 := hn.small
  clear hn
  go_enter Try.func10, Try.ntmps10
  go_wp2_with fail
  refine gen_world (CopyAt w S R a n cap (.slice none 0 0) []) copyAt_new ?_
  intro W1 hw1
  have H1 := Lib.hid hw1
  obtain ⟨m, hm⟩ : ∃ m, m = min n 6 := ⟨_, rfl⟩
  have hm1 : m ≤ n := by omega
  have hm6 : m ≤ 6 := by omega
  have hor : m = n ∨ (m = 6 ∧ 6 < n) := by omega
  have HOR := Lib.hid hor
  clear hm hor hw1
  go_loopw [4] (fun u wr => ∃ (k : Nat) (a' : Option Addr) (cp' : Nat), k ≤ m ∧ u = .int .i64 k ∧ Hid (CopyAt w S R a n cap (.slice a' k cp') (L.take k) wr)) (fun u _ => (m - intOf u).toNat)
  case atStart => exact ⟨0, _, _, by omega, rfl, H1⟩
  case round =>
    obtain ⟨k, a', cp', hk, rfl, HP⟩ := hrel
    clear H1
    have b2 : wr.cell? ⟨w.heap.size + 2, 2, none⟩ = some (.slice a' k cp') := by rw [blk_cell HP.out.box]; rfl
    have s2 : wr.cell? ⟨w.heap.size, 2, none⟩ = some (.slice a n cap) := by rw [blk_cell HP.out.src]; rfl
    have hl2 : w.heap.size + 2 < wr.heap.size := lt_of_block HP.out.box
    have hl0 : w.heap.size < wr.heap.size := lt_of_block HP.out.src
    by_cases hlt : k < m
    · obtain ⟨x, hx⟩ := nth_of HA.out.len (show k < n by omega)
      obtain ⟨g', o', rfl, ⟨c0, c1, c2, c3, c4, c5⟩⟩ := (HA.out.view.below HP.out.low).at_ hx
      have hk1 : (k : Int) < (n : Int) := by omega
      have hk6 : (k : Int) < 6 := by omega
      have hk0 : (0 : Int) ≤ (k : Int) := by omega
      have HTL : Hid ((L.take k).length = k) := by show _ = _; rw [List.length_take, HA.out.len]; omega
      have HSM : Hid ((L.take k).length + 1 ≤ 1000000) := by show _ ≤ _; rw [HTL.out]; omega
      have HNN : Hid ((L.take k).length + 1 = k + 1) := by show _ = _; rw [HTL.out]
      have HTK : Hid (L.take k ++ [x] = L.take (k + 1)) := by show _ = _; rw [List.take_add_one, hx]; rfl
      clear hx
      go_upto_region 5 with fail
      go_region_law (refine nstep_append (m := 1) (l := [x]) rfl (.tmp 22) (.tmp 28) rfl (by rfl) (by rfl) (HP.out.below (by repeat (first | exact Below.refl _ _ | (with_reducible assumption) | refine bw_alloc ?_ _ | refine bw_drew ?_))).own (Nat.le_trans (lt_of_block HP.out.box) ((by repeat (first | exact Below.refl _ _ | (with_reducible assumption) | refine bw_alloc ?_ _ | refine bw_drew ?_)) : Below wr.heap.size wr _).size) (by first | exact NView.of_at (nat_new _ _ _) | exact (NView.of_at (nat_new _ _ _)).below (by repeat (first | exact Below.refl _ _ | (with_reducible assumption) | refine bw_alloc ?_ _ | refine bw_drew ?_))) rfl HSM.out (fun z => by cases z) (k + 1) HNN.out ?_
                     intro a3 k3 w3 o3 g3 l3
                     obtain ⟨hq, z1, z2⟩ := (HP.out.below (by repeat (first | exact Below.refl _ _ | (with_reducible assumption) | refine bw_alloc ?_ _ | refine bw_drew ?_))).push g3 (HTK.out ▸ o3)
                     have HN := Lib.hid hq
                     clear hq o3 g3 l3)
      all_goals
        go_wp2
        go_roundw
        case rel => exact ⟨k + 1, _, _, by omega, by go_num, HN⟩
        case measure => simp [intOf]; omega
    · obtain rfl : m = k := by omega
      have b0 : wr.cell? ⟨w.heap.size + 2, 0, none⟩ = some (.int .i64 S) := by rw [blk_cell HP.out.box]; rfl
      have b1 : wr.cell? ⟨w.heap.size + 2, 1, none⟩ = some (.int .i64 R) := by rw [blk_cell HP.out.box]; rfl
      have HTL : Hid ((L.take m).length = m) := by show _ = _; rw [List.length_take, HA.out.len]; omega
      have HNU : Hid (Nums wr a' m cp' (L.take m)) := by
        obtain ⟨a9, c9, e9, v9, _⟩ := HP.out.own.slice
        simp only [Value.slice.injEq] at e9
        obtain ⟨rfl, _, rfl⟩ := e9
        exact ⟨HTL.out, v9, fun x hx => (HA.out.ok x (List.mem_of_mem_take hx)).below HP.out.low, by omega⟩
      have C := Lib.hid (made_any S R HNU.out)
      have q1 : ¬ ((m : Int) < (n : Int)) ∨ ((m : Int) < (n : Int) ∧ ¬ ((m : Int) < 6)) := by
        rcases HOR.out with h | ⟨h1, h2⟩
        · left; omega
        · right; omega
      rcases q1 with q1 | ⟨q1, q2⟩
      all_goals
        go_wp2_with (go_at_call 35; (with_reducible refine (C.out).mono ?_); rintro e w5 ⟨s5, r5, a5, n5, c5, L5, rfl, ho5, hok5, hi5, hm5, b5⟩; have HR := Lib.hid (kept_obj b5 HP.out.res); have r0 : w5.cell? ⟨w.heap.size + 1, 0, none⟩ = some (.int .i64 0) := (by rw [blk_cell HR.out]; rfl); have r1 : w5.cell? ⟨w.heap.size + 1, 1, none⟩ = some (.int .i64 0) := (by rw [blk_cell HR.out]; rfl); have r2 : w5.cell? ⟨w.heap.size + 1, 2, none⟩ = some (.slice none 0 0) := (by rw [blk_cell HR.out]; rfl); have f0 := blk_free HR.out 0; have f1 := blk_free HR.out 1; have f2 := blk_free HR.out 2; have HD := Lib.hid (copy_done HP.out.low b5 HR.out (lt_of_block HP.out.res) ho5 hok5 hi5 hm5); clear ho5 hok5 hi5 hm5 b5)
        exact bodyPost_ret (v := .agg #[.int .i64 s5, .int .i64 r5, .slice a5 n5 c5]) (by simp [results, Try.results10, go_sem, r0, r1, r2]) rfl (HD.out _ _ _)
end Go.Proofs.Ytflemmmaakhahaa

/-
  A system, a cache and a row of works in memory; the start of the statements that step works.
-/
namespace Go.Proofs.Ytflemmmaakhahaa
open Go.RowKit Go.Maps

/-- A system in a box, a cache, a row of works: all newer than w5. -/
structure TickAt (T : TypeId) (m : Nat) (w5 : World) (s r : Int) (a5 : Option Addr) (N c5 : Nat) (b rr n : Nat) (Lc : Nat → Int) (g2 : Nat) (f : Nat → WK) (w : World) : Prop where
  low : Below w5.heap.size w5 w
  sb : w.heap[w5.heap.size]? = some (.cells #[.int .i64 s, .int .i64 r, .slice a5 N c5] 29 (0, 0))
  ch : Ch CT w b rr n Lc
  ar : Arr T w g2 m f
  lb : w5.heap.size < b
  lr : w5.heap.size < rr
  lg : w5.heap.size < g2
  gb : g2 ≠ b
  gr : g2 ≠ rr
theorem TickAt.below {T : TypeId} {m : Nat} {w5 : World} {s r : Int} {a5 : Option Addr} {N c5 b rr n : Nat} {Lc : Nat → Int} {g2 : Nat} {f : Nat → WK} {w w' : World} (h : TickAt T m w5 s r a5 N c5 b rr n Lc g2 f w) (hb : Below w.heap.size w w') : TickAt T m w5 s r a5 N c5 b rr n Lc g2 f w' :=
  ⟨below_up h.low hb, kept_obj hb h.sb, h.ch.below hb, h.ar.below hb, h.lb, h.lr, h.lg, h.gb, h.gr⟩
theorem TickAt.turn {T : TypeId} {m : Nat} {w5 : World} {s r : Int} {a5 : Option Addr} {N c5 b rr n : Nat} {Lc Lc' : Nat → Int} {g2 : Nat} {f : Nat → WK} {w w' : World} (h : TickAt T m w5 s r a5 N c5 b rr n Lc g2 f w) (ht : Turn (fun k => k = rr) w w') (hc : Ch CT w' b rr n Lc') : TickAt T m w5 s r a5 N c5 b rr n Lc' g2 f w' :=
  ⟨h.low.trans (ht.below (B := w5.heap.size) h.low.size (fun i q => by subst q; exact Nat.le_of_lt h.lr)), ht.obj h.sb (Nat.ne_of_lt h.lr), hc, h.ar.turn ht h.gr, h.lb, h.lr, h.lg, h.gb, h.gr⟩
theorem TickAt.congr {T : TypeId} {m : Nat} {w5 : World} {s r : Int} {a5 : Option Addr} {N c5 b rr n : Nat} {Lc : Nat → Int} {g2 : Nat} {f f' : Nat → WK} {w : World} (h : TickAt T m w5 s r a5 N c5 b rr n Lc g2 f w) (he : ∀ k, k < m → f' k = f k) : TickAt T m w5 s r a5 N c5 b rr n Lc g2 f' w :=
  ⟨h.low, h.sb, h.ch, h.ar.congr he, h.lb, h.lr, h.lg, h.gb, h.gr⟩
theorem TickAt.new {T : TypeId} {m : Nat} {w5 w w' : World} {s r : Int} {a5 : Option Addr} {N c5 b rr n : Nat} {Lc : Nat → Int} {f : Nat → WK} (low : Below w5.heap.size w5 w) (sb : w.heap[w5.heap.size]? = some (.cells #[.int .i64 s, .int .i64 r, .slice a5 N c5] 29 (0, 0))) (hc : Ch CT w b rr n Lc) (lb : w5.heap.size < b) (lr : w5.heap.size < rr) (hb : Below w.heap.size w w') (ha : Arr T w' w.heap.size m f) :
    TickAt T m w5 s r a5 N c5 b rr n Lc w.heap.size f w' :=
  ⟨below_up low hb, kept_obj hb sb, hc.below hb, ha, lb, lr, lt_of_block sb, (Nat.ne_of_lt hc.lt.1).symm, (Nat.ne_of_lt hc.lt.2).symm⟩
theorem TickAt.set {T : TypeId} {m : Nat} {w5 : World} {s r : Int} {a5 : Option Addr} {N c5 b rr n : Nat} {Lc : Nat → Int} {g2 : Nat} {f : Nat → WK} {w : World} (h : TickAt T m w5 s r a5 N c5 b rr n Lc g2 f w) {k : Nat} (hk : k < m) (x : WK) :
    TickAt T m w5 s r a5 N c5 b rr n Lc g2 (setW f k x) ((((((((w.setCell ⟨g2, k * 8, none⟩ (.int .i64 x.dn)).setCell ⟨g2, k * 8 + 1, none⟩ (.int .i64 x.dm)).setCell ⟨g2, k * 8 + 2, none⟩ (.int .i64 x.db)).setCell ⟨g2, k * 8 + 3, none⟩ (.int .i64 x.rl)).setCell ⟨g2, k * 8 + 4, none⟩ (.int .u64 (wd x.sn 0))).setCell ⟨g2, k * 8 + 5, none⟩ (.int .u64 (wd x.sn 1))).setCell ⟨g2, k * 8 + 6, none⟩ (.int .u64 (wd x.sn 2))).setCell ⟨g2, k * 8 + 7, none⟩ (.int .u64 (wd x.sn 3))) := by
  have hs : ∀ (o : Nat) (v : Value) (w : World), Below w5.heap.size w5 w → Below w5.heap.size w5 (w.setCell ⟨g2, o, none⟩ v) := fun o v w hw => hw.setCell (p := ⟨g2, o, none⟩) (Nat.le_of_lt h.lg) v
  have hf : ∀ (o : Nat) (v : Value) (w : World), w.heap[w5.heap.size]? = some (.cells #[.int .i64 s, .int .i64 r, .slice a5 N c5] 29 (0, 0)) → (w.setCell ⟨g2, o, none⟩ v).heap[w5.heap.size]? = some (.cells #[.int .i64 s, .int .i64 r, .slice a5 N c5] 29 (0, 0)) := fun o v w hw => (blk_far (a := ⟨g2, o, none⟩) (Nat.ne_of_lt h.lg) v).trans hw
  have hc : ∀ (o : Nat) (v : Value) (w : World), Ch CT w b rr n Lc → Ch CT (w.setCell ⟨g2, o, none⟩ v) b rr n Lc := fun o v w hw => by
    obtain ⟨cur, h1, h2, h3⟩ := hw.row
    exact ⟨(blk_far (a := ⟨g2, o, none⟩) h.gb.symm v).trans hw.str, ⟨cur, (blk_far (a := ⟨g2, o, none⟩) h.gr.symm v).trans h1, h2, h3⟩, hw.ne, hw.few, hw.wf⟩
  exact ⟨hs _ _ _ (hs _ _ _ (hs _ _ _ (hs _ _ _ (hs _ _ _ (hs _ _ _ (hs _ _ _ (hs _ _ _ (h.low)))))))), hf _ _ _ (hf _ _ _ (hf _ _ _ (hf _ _ _ (hf _ _ _ (hf _ _ _ (hf _ _ _ (hf _ _ _ (h.sb)))))))), hc _ _ _ (hc _ _ _ (hc _ _ _ (hc _ _ _ (hc _ _ _ (hc _ _ _ (hc _ _ _ (hc _ _ _ (h.ch)))))))), h.ar.set hk x, h.lb, h.lr, h.lg, h.gb, h.gr⟩
theorem TickAt.far {T : TypeId} {m : Nat} {w5 : World} {s r : Int} {a5 : Option Addr} {N c5 b rr n : Nat} {Lc : Nat → Int} {g2 : Nat} {f : Nat → WK} {w : World} (h : TickAt T m w5 s r a5 N c5 b rr n Lc g2 f w) {g : Nat} (hg : w5.heap.size < g) (hb : g ≠ b) (hr : g ≠ rr) (h2 : g ≠ g2) (o : Nat) (v : Value) :
    TickAt T m w5 s r a5 N c5 b rr n Lc g2 f (w.setCell ⟨g, o, none⟩ v) := by
  obtain ⟨cur, h3, h4, h5⟩ := h.ch.row
  exact ⟨h.low.setCell (p := ⟨g, o, none⟩) (Nat.le_of_lt hg) v, (blk_far (a := ⟨g, o, none⟩) (Nat.ne_of_lt hg) v).trans h.sb, ⟨(blk_far (a := ⟨g, o, none⟩) hb.symm v).trans h.ch.str, ⟨cur, (blk_far (a := ⟨g, o, none⟩) hr.symm v).trans h3, h4, h5⟩, h.ch.ne, h.ch.few, h.ch.wf⟩, h.ar.far h2.symm v, h.lb, h.lr, h.lg, h.gb, h.gr⟩
/-- A work of one's own, stored in a new box. -/
theorem TickAt.put {T : TypeId} {m : Nat} {w5 : World} {s r : Int} {a5 : Option Addr} {N c5 b rr n : Nat} {Lc Lc' : Nat → Int} {g2 : Nat} {f : Nat → WK} {w w' : World} (h : TickAt T m w5 s r a5 N c5 b rr n Lc g2 f w) (ht : Turn (fun k => k = rr) w w') (hc : Ch CT w' b rr n Lc') {z0 z1 z2 z3 z4 z5 z6 z7 : Value} (hq : w'.heap[w.heap.size]? = some (.cells #[z0, z1, z2, z3, z4, z5, z6, z7] WT (0, 0))) (y0 y1 y2 y3 y4 y5 y6 y7 : Value) :
    TickAt T m w5 s r a5 N c5 b rr n Lc' g2 f ((((((((w'.setCell ⟨w.heap.size, 0, none⟩ y0).setCell ⟨w.heap.size, 1, none⟩ y1).setCell ⟨w.heap.size, 2, none⟩ y2).setCell ⟨w.heap.size, 3, none⟩ y3).setCell ⟨w.heap.size, 4, none⟩ y4).setCell ⟨w.heap.size, 5, none⟩ y5).setCell ⟨w.heap.size, 6, none⟩ y6).setCell ⟨w.heap.size, 7, none⟩ y7) ∧ ((((((((w'.setCell ⟨w.heap.size, 0, none⟩ y0).setCell ⟨w.heap.size, 1, none⟩ y1).setCell ⟨w.heap.size, 2, none⟩ y2).setCell ⟨w.heap.size, 3, none⟩ y3).setCell ⟨w.heap.size, 4, none⟩ y4).setCell ⟨w.heap.size, 5, none⟩ y5).setCell ⟨w.heap.size, 6, none⟩ y6).setCell ⟨w.heap.size, 7, none⟩ y7).heap[w.heap.size]? = some (.cells #[y0, y1, y2, y3, y4, y5, y6, y7] WT (0, 0)) := by
  have h1 := h.turn ht hc
  have l0 := lt_of_block h.sb
  have l1 := h.ch.lt
  have l2 := h.ar.lt
  have key : ∀ (o : Nat) (v : Value) (x : World), TickAt T m w5 s r a5 N c5 b rr n Lc' g2 f x → TickAt T m w5 s r a5 N c5 b rr n Lc' g2 f (x.setCell ⟨w.heap.size, o, none⟩ v) := fun o v x hx => hx.far (by omega) (by omega) (by omega) (by omega) o v
  exact ⟨key _ _ _ (key _ _ _ (key _ _ _ (key _ _ _ (key _ _ _ (key _ _ _ (key _ _ _ (key _ _ _ (h1)))))))), box_set8 hq y0 y1 y2 y3 y4 y5 y6 y7⟩
end Go.Proofs.Ytflemmmaakhahaa

/-
  The walk over the sets of a row that belong to one, told one by one.
-/
namespace Go.Proofs.Ytflemmmaakhahaa
open Go.RowKit Go.Maps Go.Shelf
attribute [local go_sem] Oper.semAt_some

/-- What is kept: what is walked over, and some blocks of cells. -/
def KpS (S : Nat → Prop) (W W' : World) : Prop := KeepsWalks W W' ∧ ∀ k cs T fr, S k → W.heap[k]? = some (.cells cs T fr) → W'.heap[k]? = some (.cells cs T fr)
theorem kpS_t {S : Nat → Prop} {A B C : World} (h : KpS S A B) (k : KpS S B C) : KpS S A C := ⟨h.1.trans k.1, fun i cs T fr q z => k.2 i cs T fr q (h.2 i cs T fr q z)⟩
theorem kpS_b {S : Nat → Prop} {B : Nat} (W : World) (l : Nat) (o o' : Obj) (_ : B ≤ l) (h : W.heap[l]? = some o) (hc : o.isCells = false) (hw : o.isWalk = false) : KpS S W (W.putObj l o') := by
  refine ⟨KeepsWalks.putObj _ h hw, fun k cs T fr _ z => ?_⟩
  by_cases e : k = l
  · subst e
    rw [z] at h
    cases h
    cases hc
  · exact (World.putObj_heap_other e).trans z
/-- The sets of the first k that belong to o. -/
def ofsN (L : Nat → Int) (o : Int) (k : Nat) : List Int := ((List.range k).filter (fun i => decide (L i = o))).map (fun i : Nat => (i : Int))
theorem ofs_yes {L : Nat → Int} {o : Int} {k : Nat} (h : L k = o) : ofsN L o (k + 1) = ofsN L o k ++ [(k : Int)] := by unfold ofsN; rw [List.range_succ, List.filter_append]; simp [h]
theorem ofs_no {L : Nat → Int} {o : Int} {k : Nat} (h : ¬ L k = o) : ofsN L o (k + 1) = ofsN L o k := by unfold ofsN; rw [List.range_succ, List.filter_append]; simp [h]
theorem ofs_len (L : Nat → Int) (o : Int) (k : Nat) : (ofsN L o k).length ≤ k := by
  unfold ofsN; rw [List.length_map]; exact Nat.le_trans (List.length_filter_le _ _) (by simp)
/-- What the one that tells reads: its two boxes, the cache. -/
structure IterC (W : World) (Bc Bo b r n : Nat) (L : Nat → Int) (o : Int) : Prop where
  bc : W.heap[Bc]? = some (.cells #[.pointer (some ⟨b, 0, none⟩)] 31 (0, 0))
  bo : W.heap[Bo]? = some (.cells #[.int .i64 o] 3 (0, 0))
  ch : Ch CT W b r n L
def IterS (Bc Bo b r : Nat) (k : Nat) : Prop := k = Bc ∨ k = Bo ∨ k = b ∨ k = r
theorem IterC.kept {W W' : World} {Bc Bo b r n : Nat} {L : Nat → Int} {o : Int} (h : IterC W Bc Bo b r n L o) (hk : KpS (IterS Bc Bo b r) W W') : IterC W' Bc Bo b r n L o := by
  obtain ⟨cur, hb, h1, h2⟩ := h.ch.row
  exact ⟨hk.2 _ _ _ _ (.inl rfl) h.bc, hk.2 _ _ _ _ (.inr (.inl rfl)) h.bo, ⟨hk.2 _ _ _ _ (.inr (.inr (.inl rfl))) h.ch.str, ⟨cur, hk.2 _ _ _ _ (.inr (.inr (.inr rfl))) hb, h1, h2⟩, h.ch.ne, h.ch.few, h.ch.wf⟩⟩
theorem IterC.below {W W' : World} {Bc Bo b r n : Nat} {L : Nat → Int} {o : Int} (h : IterC W Bc Bo b r n L o) (hk : Below W.heap.size W W') : IterC W' Bc Bo b r n L o :=
  ⟨kept_obj hk h.bc, kept_obj hk h.bo, h.ch.below hk⟩
theorem grown_drew (W : World) : W.grownBy W.drew none := ⟨rfl, rfl, rfl, Nat.le_refl _, fun _ _ _ => rfl⟩
/-- One answer or the other one. -/
theorem told_or {e : Ending} {A B : Prop} (h : (e = .returned (.bool true) ∧ A) ∨ (e = .returned (.bool false) ∧ B)) : ∃ q, e = .returned (.bool q) ∧ Hid ((q = true → A) ∧ (q = false → B)) := by
  rcases h with ⟨h, a⟩ | ⟨h, b⟩
  · exact ⟨true, h, fun _ => a, fun q => by cases q⟩
  · exact ⟨false, h, fun q => by (cases q), fun _ => b⟩
theorem sets_fn : Fence.wide.fn 23 := trivial

set_option maxRecDepth 100000 in
set_option maxHeartbeats 4000000 in
theorem owned1_in (n : Nat) (hn : 1 ≤ n) (l Bc Bo b r m : Nat) (L : Nat → Int) (o : Int) (J Jx : List Int → World → Prop) (W : World) (hJ : AbidesFrom W.heap.size J)
    (hY : ∀ pre x W1, x ≤ 255 → J pre W1 → pre.length < 257 → YieldAt Fence.wide (n - 1) Try.prog l #[.int .i64 x] W1 fun e W' =>
      (e = .returned (.bool true) ∧ J (pre ++ [x]) W' ∧ KpS (IterS Bc Bo b r) W1 W') ∨ (e = .returned (.bool false) ∧ Jx (pre ++ [x]) W'))
    (hB : IterC W Bc Bo b r m L o) (h0 : J [] W) :
    CallsIn Fence.wide n Try.prog 62 #[.func (.yield l) #[] #[], .pointer (some ⟨Bc, 0, none⟩), .pointer (some ⟨Bo, 0, none⟩)] W fun e W' => (∃ v, e = .returned v) ∧
      ((∃ ys, ys = ofsN L o m ∧ J ys W') ∨ (∃ pre, True ∧ Jx pre W')) := by
  have HY := Lib.hid hY
  have HJ := Lib.hid hJ
  have HB0 := Lib.hid hB
  have H0 : Hid (J (ofsN L o 0) W) := h0
  have C := Lib.hid (sets_any hB.ch)
  have k0 : W.cell? ⟨Bc, 0, none⟩ = some (.pointer (some ⟨b, 0, none⟩)) := by rw [blk_cell hB.bc]; rfl
  have hm := hB.ch.few
  clear hY hJ hB h0
  refine callsIn_of_wp Try.func62 rfl trivial ?_ rfl
  simp only [Try.ntmps62, List.size_toArray, List.length_cons, List.length_nil, Nat.reduceAdd, Nat.reduceSub, Array.replicate_succ, Array.replicate_zero, List.push_toArray, List.append_toArray, List.nil_append, List.cons_append]
  gi_wp2_with ((with_reducible refine And.intro (a := Fence.wide.fn 23) sets_fn ?_); gi_at_call 23; (refine (callsIn_wide.2 C.out).mono ?_); rintro e w' ⟨rfl, rfl⟩)
  clear C
  gi_loopw [4, 7] (fun v u wr => ∃ k : Nat, k ≤ m ∧ u = .int .i64 k ∧ Hid (J (ofsN L o k) wr) ∧ Hid (IterC wr Bc Bo b r m L o)) (fun _ u _ => (m - intOf u).toNat)
  case atStart => exact ⟨0, by omega, rfl, H0, HB0⟩
  case round =>
    obtain ⟨k, hk, rfl, HJk, HI⟩ := hrel
    clear k0
    have k0 : wr.cell? ⟨Bc, 0, none⟩ = some (.pointer (some ⟨b, 0, none⟩)) := by rw [blk_cell HI.out.bc]; rfl
    have k1 : wr.cell? ⟨Bo, 0, none⟩ = some (.int .i64 o) := by rw [blk_cell HI.out.bo]; rfl
    have k2 := HI.out.ch.slice
    by_cases hlt : k < m
    · have k3 := HI.out.ch.row.cell hlt
      have hkt : decide ((k : Int) < m) = true := decide_eq_true (by omega)
      have hmix : Try.prog.follows .mixedOrders = true := by kernel_rfl
      by_cases ho : L k = o
      · have hd : (L k == o) = true := by simp [ho]
        obtain ⟨fn, tmps, assign, body, hy, hR⟩ := HY.out (ofsN L o k) (k : Int) wr.drew (by omega) (HJ.out _ _ _ none HJk.out (grown_drew wr) (fun _ q => by cases q)) (by have := ofs_len L o k; omega)
        have HR := Lib.hid hR
        have HE : Hid (ofsN L o (k + 1) = ofsN L o k ++ [(k : Int)]) := ofs_yes ho
        have HI2 : Hid (IterC wr.drew Bc Bo b r m L o) := HI.out.below (bw_drew (Below.refl _ _))
        clear ho HJk hR
        generalize L k = x at *
        gi_wp2
        gi_region_with_o ((refine HR.out.mono ?_); rintro e W3 h3; obtain ⟨q, rfl, H3⟩ := told_or h3; clear h3)
        all_goals
          cases q
          · have HX := Lib.hid (H3.out.2 rfl)
            clear H3
            gi_wp2
            refine bodyPost_ret (results_none rfl _ _ _) rfl ?_
            exact ⟨⟨_, rfl⟩, .inr ⟨_, trivial, HX.out⟩⟩
          · have HX := Lib.hid (H3.out.1 rfl)
            clear H3
            gi_wp2
            go_roundw
            case rel => exact ⟨k + 1, by omega, by go_num, by rw [HE.out]; exact HX.out.1, HI2.out.kept HX.out.2⟩
            case measure => simp [intOf]; omega
      · have hd : (L k == o) = false := by simp [ho]
        have HN : Hid (∀ q, J (ofsN L o (k + 1)) (wr.drewN q) ∧ IterC (wr.drewN q) Bc Bo b r m L o) := fun q => ⟨by rw [ofs_no ho]; exact HJ.out _ _ _ none HJk.out ⟨rfl, rfl, rfl, Nat.le_refl _, fun _ _ _ => rfl⟩ (fun _ q => by cases q), HI.out.below ⟨rfl, rfl, rfl, Nat.le_refl _, fun _ _ => rfl⟩⟩
        clear ho HJk
        generalize L k = x at *
        gi_wp2
        refine wpIn_wide.2 ?_
        go_quiet (fail)
        gi_wp2
        go_roundw
        case rel => exact ⟨k + 1, by omega, by go_num, (HN.out _).1, (HN.out _).2⟩
        case measure => simp [intOf]; omega
    · obtain rfl : k = m := by omega
      gi_wp2
      go_end0
      exact ⟨⟨_, rfl⟩, .inl ⟨_, rfl, HJk.out⟩⟩
/-- A set's number. -/
abbrev SetNo := { x : Int // x ≤ 255 }
theorem stops_of {n m : Nat} {lb : Array Value} {Kp : World → World → Prop} {S : List Int → Prop} {N : Nat} {gf : Nat} {w : World}
    (h : ∀ (l : Nat) (J Jx : List Int → World → Prop) (W : World), Below w.heap.size w W → AbidesFrom W.heap.size J →
      (∀ pre x W1, x ≤ 255 → J pre W1 → pre.length < N → YieldAt Fence.wide (n - 1) Try.prog l #[.int .i64 x] W1 fun e W' => (e = .returned (.bool true) ∧ J (pre ++ [x]) W' ∧ Kp W1 W') ∨ (e = .returned (.bool false) ∧ Jx (pre ++ [x]) W')) →
      J [] W → CallsIn Fence.wide n Try.prog gf (#[.func (.yield l) #[] #[]] ++ lb) W fun e W' => (∃ v, e = .returned v) ∧ ((∃ ys, S ys ∧ J ys W') ∨ (∃ pre, True ∧ Jx pre W'))) :
    SeqStopsK Fence.wide n Try.prog gf lb (fun x : SetNo => #[.int .i64 x.1]) Kp (fun ys => S (ys.map Subtype.val)) (fun _ => True) N w := fun l J Jx W hW hJ _ hY h0 => by
  refine (h l (fun pre W => ∃ ys : List SetNo, ys.map Subtype.val = pre ∧ J ys W) (fun pre W => ∃ ys : List SetNo, ys.map Subtype.val = pre ∧ Jx ys W) W hW (fun s X Y row ⟨ys, e, hs⟩ hg hr => ⟨ys, e, hJ ys X Y row hs hg hr⟩) ?_ ⟨[], rfl, h0⟩).mono ?_
  · rintro pre x W1 hx ⟨ys, rfl, hs⟩ hlt
    refine (hY ys ⟨x, hx⟩ W1 hs (by simpa using hlt)).mono ?_
    rintro e W' (⟨he, hj, hk⟩ | ⟨he, hj⟩)
    · exact .inl ⟨he, ⟨ys ++ [⟨x, hx⟩], by simp, hj⟩, hk⟩
    · exact .inr ⟨he, ⟨ys ++ [⟨x, hx⟩], by simp, hj⟩⟩
  · rintro e W' ⟨he, ⟨_, hS, ys, rfl, hj⟩ | ⟨_, _, ys, rfl, hj⟩⟩
    · exact ⟨he, .inl ⟨ys, hS, hj⟩⟩
    · exact ⟨he, .inr ⟨ys, trivial, hj⟩⟩
theorem owned1_stops (n : Nat) (hn : 1 ≤ n) (Bc Bo b r m : Nat) (L : Nat → Int) (o : Int) (w : World) (hB : IterC w Bc Bo b r m L o) :
    SeqStopsK Fence.wide n Try.prog 62 #[.pointer (some ⟨Bc, 0, none⟩), .pointer (some ⟨Bo, 0, none⟩)] (fun x : SetNo => #[.int .i64 x.1]) (KpS (IterS Bc Bo b r)) (fun ys => ys.map Subtype.val = ofsN L o m) (fun _ => True) 257 w :=
  stops_of (m := 0) (S := fun ys => ys = ofsN L o m) fun l J Jx W hW hJ hY h0 => owned1_in n hn l Bc Bo b r m L o J Jx W hJ hY (hB.below hW) h0
set_option maxRecDepth 100000 in
set_option maxHeartbeats 2000000 in
/-- Of no cache none are told. -/
theorem owned1_nil (n : Nat) (hn : 1 ≤ n) (Bc Bo : Nat) (o : Int) (w : World) (bc : w.heap[Bc]? = some (.cells #[.pointer none] 31 (0, 0))) :
    SeqStopsK Fence.wide n Try.prog 62 #[.pointer (some ⟨Bc, 0, none⟩), .pointer (some ⟨Bo, 0, none⟩)] (fun x : SetNo => #[.int .i64 x.1]) (KpS (fun k => k = Bc ∨ k = Bo ∨ False)) (fun ys => ys.map Subtype.val = ofsN (fun _ => 0) o 0) (fun _ => True) 257 w :=
  stops_of (m := 0) (S := fun ys => ys = ofsN (fun _ => 0) o 0) fun l J Jx W hW hJ hY h0 => by
  have k0 : W.cell? ⟨Bc, 0, none⟩ = some (.pointer none) := by rw [blk_cell (kept_obj hW bc)]; rfl
  have H0 : Hid (J [] W) := h0
  have C := Lib.hid (sets_nil W)
  clear hJ hY bc h0 hW
  refine callsIn_of_wp Try.func62 rfl trivial ?_ rfl
  simp only [Try.ntmps62, List.size_toArray, List.length_cons, List.length_nil, Nat.reduceAdd, Nat.reduceSub, Array.replicate_succ, Array.replicate_zero, List.push_toArray, List.append_toArray, List.nil_append, List.cons_append]
  gi_wp2_with ((with_reducible refine And.intro (a := Fence.wide.fn 23) sets_fn ?_); gi_at_call 23; (refine (callsIn_wide.2 C.out).mono ?_); rintro e w' ⟨rfl, rfl⟩)
  clear C
  gi_loopw [4, 7] (fun v u wr => u = .int .i64 0 ∧ Hid (J [] wr)) (fun _ u _ => (0 - intOf u).toNat)
  case atStart => exact ⟨rfl, H0⟩
  case round =>
    obtain ⟨rfl, HJk⟩ := hrel
    clear k0
    gi_wp2
    go_end0
    exact ⟨⟨_, rfl⟩, .inl ⟨_, rfl, HJk.out⟩⟩
set_option maxRecDepth 100000 in
theorem owned_val (ad : Option Addr) (o : Int) (n : Nat) (w : World) :
    CallsIn Fence.wide n Try.prog 43 #[.pointer ad, .int .i64 o] w fun e w' => e = .returned (.func (.func 62) #[] #[.pointer (some ⟨w.heap.size, 0, none⟩), .pointer (some ⟨w.heap.size + 1, 0, none⟩)]) ∧ w' = (w.alloc (.cells #[.pointer ad] 31)).alloc (.cells #[.int .i64 o] 3) := by
  have hmf : ∀ (fn : Fn) (first cap : Array Value) (w : World), (Instr.makeFunc fn first cap).run Try.prog w = .ok (.func fn first cap) w := fun _ _ _ _ => rfl
  refine callsIn_of_wp Try.func43 rfl trivial ?_ rfl
  simp only [Try.ntmps43, List.size_toArray, List.length_cons, List.length_nil, Nat.reduceAdd, Nat.reduceSub, Array.replicate_succ, Array.replicate_zero, List.push_toArray, List.append_toArray, List.nil_append, List.cons_append]
  gi_wp2
  go_ret
  exact ⟨rfl, rfl⟩
end Go.Proofs.Ytflemmmaakhahaa

/-
  The walks over the document's own answers: what is in both sets, in the first one alone; the set of a row.
-/
namespace Go.Proofs.Ytflemmmaakhahaa
open Go.RowKit

/-- What is left when the first n have been looked at. -/
def andC (p q : Nat → Bool) (n : Nat) (x : Nat) : Bool := p x && (decide (n ≤ x) || q x)
def minusC (p q : Nat → Bool) (n : Nat) (x : Nat) : Bool := p x && !(decide (x < n) && q x)

theorem hasP_nat {p : Nat → Bool} {n : Nat} (h : n < 256) : hasP p (n : Int) = p n := by
  unfold hasP; rw [decide_eq_true (⟨by omega, by omega⟩ : (0 : Int) ≤ n ∧ (n : Int) ≤ 255)]; simp

theorem andC_start (p q : Nat → Bool) (k : Nat) : wd (andC p q 0) k = wd p k := natOf_congr fun j _ => by simp [andC]
theorem minusC_start (p q : Nat → Bool) (k : Nat) : wd (minusC p q 0) k = wd p k := natOf_congr fun j _ => by simp [minusC]
theorem andC_end (p q : Nat → Bool) {k : Nat} (hk : k < 4) : wd (andC p q 256) k = wd (andP p q) k := wd_congr (fun x hx => by simp [andC, andP, show ¬ 256 ≤ x by omega]) hk
theorem minusC_end (p q : Nat → Bool) {k : Nat} (hk : k < 4) : wd (minusC p q 256) k = wd (minusP p q) k := wd_congr (fun x hx => by simp [minusC, minusP, hx]) hk
theorem andC_drop (p q : Nat → Bool) {n : Nat} (h : q n = false) (k : Nat) : wd (minusP (andC p q n) (oneP n)) k = wd (andC p q (n + 1)) k := natOf_congr fun j _ => by
  unfold andC minusP oneP
  rcases Nat.lt_trichotomy (64 * k + j) n with g | g | g
  · rw [decide_eq_false (show ¬ ((64 * k + j : Nat) : Int) = (n : Int) by omega)]; simp [show ¬ n ≤ 64 * k + j by omega, show ¬ n + 1 ≤ 64 * k + j by omega]
  · rw [g]; simp [h]
  · rw [decide_eq_false (show ¬ ((64 * k + j : Nat) : Int) = (n : Int) by omega)]; simp [show n ≤ 64 * k + j by omega, show n + 1 ≤ 64 * k + j by omega]
theorem andC_keep (p q : Nat → Bool) {n : Nat} (h : q n = true) (k : Nat) : wd (andC p q n) k = wd (andC p q (n + 1)) k := natOf_congr fun j _ => by
  unfold andC
  rcases Nat.lt_trichotomy (64 * k + j) n with g | g | g
  · simp [show ¬ n ≤ 64 * k + j by omega, show ¬ n + 1 ≤ 64 * k + j by omega]
  · rw [g]; simp [h]
  · simp [show n ≤ 64 * k + j by omega, show n + 1 ≤ 64 * k + j by omega]
theorem minusC_drop (p q : Nat → Bool) {n : Nat} (h : q n = true) (k : Nat) : wd (minusP (minusC p q n) (oneP n)) k = wd (minusC p q (n + 1)) k := natOf_congr fun j _ => by
  unfold minusC minusP oneP
  rcases Nat.lt_trichotomy (64 * k + j) n with g | g | g
  · rw [decide_eq_false (show ¬ ((64 * k + j : Nat) : Int) = (n : Int) by omega)]; simp [show 64 * k + j < n by omega, show 64 * k + j < n + 1 by omega]
  · rw [g]; simp [h]
  · rw [decide_eq_false (show ¬ ((64 * k + j : Nat) : Int) = (n : Int) by omega)]; simp [show ¬ 64 * k + j < n by omega, show ¬ 64 * k + j < n + 1 by omega]
theorem minusC_keep (p q : Nat → Bool) {n : Nat} (h : q n = false) (k : Nat) : wd (minusC p q n) k = wd (minusC p q (n + 1)) k := natOf_congr fun j _ => by
  unfold minusC
  rcases Nat.lt_trichotomy (64 * k + j) n with g | g | g
  · simp [show 64 * k + j < n by omega, show 64 * k + j < n + 1 by omega]
  · rw [g]; simp [h]
  · simp [show ¬ 64 * k + j < n by omega, show ¬ 64 * k + j < n + 1 by omega]

structure Loop3 (w wr : World) (x b : Nat → Nat) : Prop where
  x : Four wr w.heap.size (x 0) (x 1) (x 2) (x 3)
  y : Four wr (w.heap.size + 1) (b 0) (b 1) (b 2) (b 3)
  z : Four wr (w.heap.size + 1 + 1) 0 0 0 0
  below : Below w.heap.size w wr

set_option maxRecDepth 100000 in
set_option maxHeartbeats 2000000 in
theorem rand_any (p q : Nat → Bool) (w : World) :
    Calls Try.prog 31 #[.agg #[.int .u64 (wd p 0), .int .u64 (wd p 1), .int .u64 (wd p 2), .int .u64 (wd p 3)], .agg #[.int .u64 (wd q 0), .int .u64 (wd q 1), .int .u64 (wd q 2), .int .u64 (wd q 3)]] w fun e w' => e = .returned (.agg #[.int .u64 (wd (andP p q) 0), .int .u64 (wd (andP p q) 1), .int .u64 (wd (andP p q) 2), .int .u64 (wd (andP p q) 3)]) ∧ Below w.heap.size w w' := by
  have LAST := Lib.hid (And.intro (@andC_end p q 0 (by omega)) (And.intro (@andC_end p q 1 (by omega)) (And.intro (@andC_end p q 2 (by omega)) (@andC_end p q 3 (by omega)))))
  have FIRST := Lib.hid (andC_start p q)
  have H := Lib.hid (fun (n : Nat) (h : n < 256) w => (show Calls Try.prog 41 #[.agg #[.int .u64 (wd q 0), .int .u64 (wd q 1), .int .u64 (wd q 2), .int .u64 (wd q 3)], .int .i64 n] w fun e w' => e = .returned (.bool (q n)) ∧ Below w.heap.size w w' by have := rhas_any q n w; rw [hasP_nat h] at this; exact this))
  have WO := Lib.hid (fun (n : Nat) w => rwithout_any (andC p q n) n w)
  have KEEP := Lib.hid (fun (n : Nat) => @andC_keep p q n)
  have DROP := Lib.hid (fun (n : Nat) => @andC_drop p q n)
  generalize hr : wd (andP p q) = r at LAST ⊢
  clear hr
  generalize wd q = b at H ⊢
  generalize hp : wd p = a at FIRST ⊢
  clear hp
  generalize hc : (fun n => wd (andC p q n)) = c
  have hc' : ∀ n, wd (andC p q n) = c n := fun n => congrFun hc n
  clear hc
  simp only [hc'] at LAST FIRST WO KEEP DROP
  clear hc'
  go_enter Try.func31, Try.ntmps31
  go_wp2
  go_loopw [5] (fun i wr => ∃ k : Nat, k ≤ 256 ∧ i = .int .i64 k ∧ Hid (Loop3 w wr (c k) b)) (fun i _ => (256 - intOf i).toNat)
  case atStart =>
    refine ⟨0, by omega, rfl, ⟨?_, ?_, ?_, ?_⟩⟩
    · rw [FIRST.out, FIRST.out, FIRST.out, FIRST.out]; exact ((Four.new w _ _ _ _ _).alloc _).alloc _
    · simpa using (Four.new (w.alloc _) (b 0) (b 1) (b 2) (b 3) _).alloc _
    · simpa using Four.new ((w.alloc _).alloc _) 0 0 0 0 _
    · exact (((Below.refl _ _).alloc (Nat.le_refl _) _).alloc (by simp) _).alloc (by simp; omega) _
  case round =>
    obtain ⟨k, hk, rfl, HL⟩ := hrel
    have FX := Lib.hid HL.out.x
    have FY := Lib.hid HL.out.y
    have FZ := Lib.hid HL.out.z
    have HB := Lib.hid HL.out.below
    obtain ⟨y0, y1, y2, y3, _, _, _, _⟩ := FY.out
    clear FIRST HL
    by_cases hlt : k < 256
    · have C := Lib.hid (H.out k hlt)
      have D := Lib.hid (WO.out k)
      have KP := Lib.hid (KEEP.out k)
      have DR := Lib.hid (DROP.out k)
      clear H WO KEEP DROP LAST
      cases hq : q k with
      | true =>
        rw [hq] at C
        have e := Lib.hid (KP.out hq)
        clear hq KP DR D
        go_wp2_with (go_at_call 41; (refine (C.out _).mono ?_); rintro e w1 ⟨rfl, hw1⟩; have FX1 := Lib.hid (Four.next hw1 FX.out); have FY1 := Lib.hid (Four.next hw1 FY.out); have FZ1 := Lib.hid (Four.next hw1 FZ.out); have HB1 := Lib.hid (below_next hw1 HB.out (Nat.le_refl _)); clear hw1)
        go_roundw
        case rel => exact ⟨k + 1, by omega, by go_num, ⟨by rw [← e.out, ← e.out, ← e.out, ← e.out]; exact FX1.out, FY1.out, FZ1.out, HB1.out⟩⟩
        case measure => simp [intOf]; omega
      | false =>
        rw [hq] at C
        have e := Lib.hid (DR.out hq)
        clear hq KP DR
        generalize wd (minusP (andC p q k) (oneP k)) = v at D e
        go_wp2_with (first | (go_at_call 41; (refine (C.out _).mono ?_); rintro e w1 ⟨rfl, hw1⟩; have FX1 := Lib.hid (Four.next hw1 FX.out); have FY1 := Lib.hid (Four.next hw1 FY.out); have FZ1 := Lib.hid (Four.next hw1 FZ.out); have HB1 := Lib.hid (below_next hw1 HB.out (Nat.le_refl _)); obtain ⟨x0, x1, x2, x3, _, _, _, _⟩ := FX1.out; clear hw1) | (go_at_call 52; (refine (D.out _).mono ?_); rintro e w2 ⟨rfl, hw2⟩; have FX2 := Lib.hid (Four.next hw2 FX1.out); have FY2 := Lib.hid (Four.next hw2 FY1.out); have FZ2 := Lib.hid (Four.next hw2 FZ1.out); have HB2 := Lib.hid (below_next hw2 HB1.out (Nat.le_refl _)); obtain ⟨s0, s1, s2, s3, t0, t1, t2, t3⟩ := FX2.out; clear hw2))
        go_roundw
        case rel =>
          refine ⟨k + 1, by omega, by go_num, ⟨?_, FY2.out.far4 (by simp) (v 0) (v 1) (v 2) (v 3), FZ2.out.far4 (by omega) (v 0) (v 1) (v 2) (v 3), below_set4 HB2.out (by simp) (v 0) (v 1) (v 2) (v 3)⟩⟩
          rw [← e.out, ← e.out, ← e.out, ← e.out]
          exact FX2.out.set4 (v 0) (v 1) (v 2) (v 3)
        case measure => simp [intOf]; omega
    · obtain rfl : k = 256 := by omega
      obtain ⟨x0, x1, x2, x3, _, _, _, _⟩ := FX.out
      obtain ⟨z0, z1, z2, z3, v0, v1, v2, v3⟩ := FZ.out
      rw [LAST.out.1] at x0
      rw [LAST.out.2.1] at x1
      rw [LAST.out.2.2.1] at x2
      rw [LAST.out.2.2.2] at x3
      go_wp2
      refine bodyPost_ret (v := .agg #[.int .u64 (r 0), .int .u64 (r 1), .int .u64 (r 2), .int .u64 (r 3)]) ?_ rfl ⟨rfl, below_set4 HB.out (by omega) (r 0) (r 1) (r 2) (r 3)⟩
      obtain ⟨s0, s1, s2, s3⟩ := set4_results FZ.out (r 0) (r 1) (r 2) (r 3)
      simp [results, Try.results31, go_sem, s0, s1, s2, s3]
end Go.Proofs.Ytflemmmaakhahaa

/-
  The walks over the document's own answers: the set of a row, what is in one of two.
-/
namespace Go.Proofs.Ytflemmmaakhahaa
open Go.RowKit

/-- What has been put in when the first n have been looked at. -/
def orC (p q : Nat → Bool) (n : Nat) (x : Nat) : Bool := p x || (decide (x < n) && q x)
theorem orC_start (p q : Nat → Bool) (k : Nat) : wd (orC p q 0) k = wd p k := natOf_congr fun j _ => by simp [orC]
theorem orC_end (p q : Nat → Bool) {k : Nat} (hk : k < 4) : wd (orC p q 256) k = wd (orP p q) k := wd_congr (fun x hx => by simp [orC, orP, hx]) hk
theorem orC_put (p q : Nat → Bool) {n : Nat} (h : q n = true) (k : Nat) : wd (orP (orC p q n) (oneP n)) k = wd (orC p q (n + 1)) k := natOf_congr fun j _ => by
  unfold orC orP oneP
  rcases Nat.lt_trichotomy (64 * k + j) n with g | g | g
  · rw [decide_eq_false (show ¬ ((64 * k + j : Nat) : Int) = (n : Int) by omega)]; simp [show 64 * k + j < n by omega, show 64 * k + j < n + 1 by omega]
  · rw [g]; simp [h]
  · rw [decide_eq_false (show ¬ ((64 * k + j : Nat) : Int) = (n : Int) by omega)]; simp [show ¬ 64 * k + j < n by omega, show ¬ 64 * k + j < n + 1 by omega]
theorem orC_keep (p q : Nat → Bool) {n : Nat} (h : q n = false) (k : Nat) : wd (orC p q n) k = wd (orC p q (n + 1)) k := natOf_congr fun j _ => by
  unfold orC
  rcases Nat.lt_trichotomy (64 * k + j) n with g | g | g
  · simp [show 64 * k + j < n by omega, show 64 * k + j < n + 1 by omega]
  · rw [g]; simp [h]
  · simp [show ¬ 64 * k + j < n by omega, show ¬ 64 * k + j < n + 1 by omega]

structure Loop2 (w wr : World) (x : Nat → Nat) : Prop where
  x : Four wr (w.heap.size + 1) (x 0) (x 1) (x 2) (x 3)
  z : Four wr w.heap.size 0 0 0 0
  below : Below w.heap.size w wr

set_option maxRecDepth 100000 in
set_option maxHeartbeats 2000000 in
theorem ror_any (l : List (Nat → Bool)) (hl : (l.length : Int) ≤ 1000000) (cap : Nat) (ao : Option Addr) (w : World) (hs : Sets w w.heap.size ao l) :
    Calls Try.prog 29 #[.slice ao l.length cap] w fun e w' => e = .returned (.agg #[.int .u64 (wd (orN l l.length) 0), .int .u64 (wd (orN l l.length) 1), .int .u64 (wd (orN l l.length) 2), .int .u64 (wd (orN l l.length) 3)]) ∧ Below w.heap.size w w' := by
  have HS := Lib.hid hs
  clear hs
  go_enter Try.func29, Try.ntmps29
  go_wp2
  go_loopw [4] (fun i wr => ∃ k : Nat, k ≤ l.length ∧ i = .int .i64 k ∧ Hid (Loop2 w wr (wd (orN l k)))) (fun i _ => (l.length - intOf i).toNat)
  case atStart =>
    refine ⟨0, by omega, rfl, ⟨?_, ?_, ((Below.refl _ _).alloc (Nat.le_refl _) _).alloc (by simp) _⟩⟩
    · have := Four.new (w.alloc (.cells #[.int .u64 0, .int .u64 0, .int .u64 0, .int .u64 0] 37)) 0 0 0 0 37
      simpa [orN, wd_none] using this
    · exact (Four.new w 0 0 0 0 _).alloc _
  case round =>
    obtain ⟨k, hk, rfl, HL⟩ := hrel
    by_cases hlt : k < l.length
    · have NX : Hid (∀ j, j < 4 → wd (orC (orN l k) (l.getD k noneP) 256) j = wd (orN l (k + 1)) j) := fun j hj => orC_end _ _ hj
      have ST : Hid (wd (orN l k) = wd (orC (orN l k) (l.getD k noneP) 0)) := by show _ = _; funext j; rw [orC_start]
      go_wp2
      go_loopw [5] (fun i wi => ∃ n : Nat, n ≤ 256 ∧ i = .int .i64 n ∧ Hid (Loop2 w wi (wd (orC (orN l k) (l.getD k noneP) n)))) (fun i _ => (256 - intOf i).toNat)
      case atStart => exact ⟨0, by omega, rfl, by rw [← ST.out]; exact HL⟩
      case round =>
        clear HL ST
        obtain ⟨n, hn, rfl, HL⟩ := hrel
        by_cases hlt2 : n < 256
        · obtain ⟨b, off, rfl, hbb, hc⟩ : ∃ b off, ao = some ⟨b, off, none⟩ ∧ b < w.heap.size ∧ ∀ k, k < l.length → wr.cell? ⟨b, off + k * 4, none⟩ = some (.int .u64 (wd (l.getD k noneP) 0)) ∧ wr.cell? ⟨b, off + k * 4 + 1, none⟩ = some (.int .u64 (wd (l.getD k noneP) 1)) ∧ wr.cell? ⟨b, off + k * 4 + 2, none⟩ = some (.int .u64 (wd (l.getD k noneP) 2)) ∧ wr.cell? ⟨b, off + k * 4 + 3, none⟩ = some (.int .u64 (wd (l.getD k noneP) 3)) := by
            rcases HS.out.below HL.out.below with h | h
            · rw [h] at hlt; exact absurd hlt (Nat.not_lt_zero _)
            · exact h
          obtain ⟨c0, c1, c2, c3⟩ := hc k hlt
          have HX := Lib.hid HL.out.x
          have HZ := Lib.hid HL.out.z
          have HB := Lib.hid HL.out.below
          clear hc HL NX
          have C := Lib.hid (fun w => (show Calls Try.prog 41 #[.agg #[.int .u64 (wd (l.getD k noneP) 0), .int .u64 (wd (l.getD k noneP) 1), .int .u64 (wd (l.getD k noneP) 2), .int .u64 (wd (l.getD k noneP) 3)], .int .i64 n] w fun e w' => e = .returned (.bool (l.getD k noneP n)) ∧ Below w.heap.size w w' by have := rhas_any (l.getD k noneP) n w; rw [hasP_nat hlt2] at this; exact this))
          have D := Lib.hid (fun w => rwith_any (orC (orN l k) (l.getD k noneP) n) n w)
          have KP := Lib.hid (fun h => @orC_keep (orN l k) (l.getD k noneP) n h)
          have PT := Lib.hid (fun h => @orC_put (orN l k) (l.getD k noneP) n h)
          generalize wd (orP (orC (orN l k) (l.getD k noneP) n) (oneP n)) = v at D PT
          generalize hc : (fun n => wd (orC (orN l k) (l.getD k noneP) n)) = c
          have hc' : ∀ n, wd (orC (orN l k) (l.getD k noneP) n) = c n := fun n => congrFun hc n
          rw [hc'] at HX
          simp only [hc'] at D KP PT
          have HC := Lib.hid hc'
          clear hc hc'
          cases hq : l.getD k noneP n with
          | false =>
            have e := Lib.hid (KP.out hq)
            rw [hq] at C
            clear hq KP PT D
            generalize wd (l.getD k noneP) = q at c0 c1 c2 c3 C
            go_wp2_with (go_at_call 41; (refine (C.out _).mono ?_); rintro e w1 ⟨rfl, hw1⟩; have HX1 := Lib.hid (Four.next hw1 HX.out); have HZ1 := Lib.hid (Four.next hw1 HZ.out); have HB1 := Lib.hid (below_next hw1 HB.out (Nat.le_refl _)); clear hw1)
            go_roundw
            case rel => exact ⟨n + 1, by omega, by go_num, by rw [HC.out]; exact ⟨by rw [← e.out, ← e.out, ← e.out, ← e.out]; exact HX1.out, HZ1.out, HB1.out⟩⟩
            case measure => simp [intOf]; omega
          | true =>
            have e := Lib.hid (PT.out hq)
            rw [hq] at C
            clear hq KP PT
            generalize wd (l.getD k noneP) = q at c0 c1 c2 c3 C
            go_wp2_with (first | (go_at_call 41; (refine (C.out _).mono ?_); rintro e w1 ⟨rfl, hw1⟩; have HX1 := Lib.hid (Four.next hw1 HX.out); have HZ1 := Lib.hid (Four.next hw1 HZ.out); have HB1 := Lib.hid (below_next hw1 HB.out (Nat.le_refl _)); obtain ⟨x0, x1, x2, x3, _, _, _, _⟩ := HX1.out; clear hw1) | (go_at_call 42; (refine (D.out _).mono ?_); rintro e w2 ⟨rfl, hw2⟩; have HX2 := Lib.hid (Four.next hw2 HX1.out); have HZ2 := Lib.hid (Four.next hw2 HZ1.out); have HB2 := Lib.hid (below_next hw2 HB1.out (Nat.le_refl _)); obtain ⟨s0, s1, s2, s3, t0, t1, t2, t3⟩ := HX2.out; clear hw2))
            go_roundw
            case rel =>
              refine ⟨n + 1, by omega, by go_num, ?_⟩
              rw [HC.out]
              refine ⟨?_, HZ2.out.far4 (by omega) (v 0) (v 1) (v 2) (v 3), below_set4 HB2.out (by omega) (v 0) (v 1) (v 2) (v 3)⟩
              rw [← e.out, ← e.out, ← e.out, ← e.out]
              exact HX2.out.set4 (v 0) (v 1) (v 2) (v 3)
            case measure => simp [intOf]; omega
        · obtain rfl : n = 256 := by omega
          have HN : Hid (Loop2 w wr (wd (orN l (k + 1)))) := ⟨by rw [← NX.out 0 (by omega), ← NX.out 1 (by omega), ← NX.out 2 (by omega), ← NX.out 3 (by omega)]; exact HL.out.x, HL.out.z, HL.out.below⟩
          clear HL NX
          go_wp2
          go_roundw
          case rel => exact ⟨k + 1, by omega, by go_num, HN⟩
          case measure => simp [intOf]; omega
    · obtain rfl : k = l.length := by omega
      have HX := Lib.hid HL.out.x
      have HZ := Lib.hid HL.out.z
      have HB := Lib.hid HL.out.below
      obtain ⟨x0, x1, x2, x3, _, _, _, _⟩ := HX.out
      obtain ⟨z0, z1, z2, z3, v0, v1, v2, v3⟩ := HZ.out
      clear HL
      go_wp2
      refine bodyPost_ret (v := .agg #[.int .u64 (wd (orN l l.length) 0), .int .u64 (wd (orN l l.length) 1), .int .u64 (wd (orN l l.length) 2), .int .u64 (wd (orN l l.length) 3)]) ?_ rfl ⟨rfl, below_set4 HB.out (by omega) (wd (orN l l.length) 0) (wd (orN l l.length) 1) (wd (orN l l.length) 2) (wd (orN l l.length) 3)⟩
      obtain ⟨s0, s1, s2, s3⟩ := set4_results HZ.out (wd (orN l l.length) 0) (wd (orN l l.length) 1) (wd (orN l l.length) 2) (wd (orN l l.length) 3)
      simp [results, Try.results29, go_sem, s0, s1, s2, s3]

end Go.Proofs.Ytflemmmaakhahaa

/-
  The numbers of a set, one by one, rising: plain numbers, no program in this text.
-/
namespace Go.Proofs.Ytflemmmaakhahaa

/-- The bits of a word that are 1, rising. -/
def ones (v : Nat) : List Nat := (List.range 64).filter v.testBit
/-- The numbers below n of a set, rising. -/
def below (p : Nat → Bool) (n : Nat) : List Nat := (List.range n).filter p

theorem filter_first {q q' : Nat → Bool} {j : Nat} (hj : q j = true) (hlo : ∀ i, i < j → q i = false) (hq : ∀ i, q' i = (q i && decide (i ≠ j))) :
    ∀ n, j < n → (List.range n).filter q = j :: (List.range n).filter q'
  | 0, h => absurd h (Nat.not_lt_zero _)
  | n + 1, h => by
    rw [List.range_succ, List.filter_append, List.filter_append]
    by_cases e : j = n
    · subst e
      have h1 : (List.range j).filter q = [] := List.filter_eq_nil_iff.2 fun i hi => by rw [hlo i (List.mem_range.1 hi)]; simp
      have h2 : (List.range j).filter q' = [] := List.filter_eq_nil_iff.2 fun i hi => by rw [hq, hlo i (List.mem_range.1 hi)]; simp
      rw [h1, h2]; simp [hj, hq]
    · rw [filter_first hj hlo hq n (by omega)]
      simp only [List.cons_append, List.cons.injEq, true_and]
      congr 1
      simp only [List.filter_cons, List.filter_nil, hq n]
      simp [show n ≠ j by omega]

theorem ones_zero : ones 0 = [] := List.filter_eq_nil_iff.2 fun i _ => by simp

theorem ones_next {v : Nat} (h0 : v ≠ 0) (h : v < 18446744073709551616) :
    Lib.ctz 64 v < 64 ∧ ones v = Lib.ctz 64 v :: ones (v &&& (v - 1)) := by
  obtain ⟨m, hm, hk⟩ := Lib.ctzFrom_spec 64 v (by omega) h
  have hc : Lib.ctz 64 v = Lib.ctzFrom 64 v := by unfold Lib.ctz; rw [if_neg h0]
  rw [hc]
  generalize Lib.ctzFrom 64 v = j at hm hk
  have hp : 0 < 2 ^ j := Nat.two_pow_pos j
  have hb : ∀ i, v.testBit i = (decide (j ≤ i) && (2 * m + 1).testBit (i - j)) := fun i => by rw [hm, Nat.testBit_two_pow_mul]
  have hv1 : v - 1 = 2 ^ j * (2 * m) + (2 ^ j - 1) := by rw [hm, Nat.mul_add]; omega
  have hb1 : ∀ i, (v - 1).testBit i = if i < j then (2 ^ j - 1).testBit i else (2 * m).testBit (i - j) := fun i => by rw [hv1, Nat.testBit_two_pow_mul_add _ (by omega)]
  refine ⟨hk, filter_first (j := j) ?_ ?_ ?_ 64 hk⟩
  · rw [hb]; simp
  · intro i hi; rw [hb]; simp; omega
  · intro i
    rw [Nat.testBit_and, hb, hb1]
    rcases Nat.lt_trichotomy i j with g | g | g
    · simp [show ¬ j ≤ i by omega]
    · subst g; simp
    · obtain ⟨d, rfl⟩ : ∃ d, i = j + 1 + d := ⟨i - j - 1, by omega⟩
      have e : j + 1 + d - j = d + 1 := by omega
      rw [e, Nat.testBit_succ, Nat.testBit_succ, show (2 * m + 1) / 2 = m by omega, show 2 * m / 2 = m by omega]
      simp [show ¬ j + 1 + d < j by omega, show j + 1 + d ≠ j by omega]

theorem ones_wd (p : Nat → Bool) (k : Nat) : below p (64 * (k + 1)) = below p (64 * k) ++ (ones (wd p k)).map (64 * k + ·) := by
  unfold below ones
  rw [show 64 * (k + 1) = 64 * k + 64 by omega, List.range_add, List.filter_append]
  congr 1
  rw [List.filter_map]
  congr 1
  refine List.filter_congr fun j hj => ?_
  rw [wd_bit p k (List.mem_range.1 hj)]; rfl

theorem below_length (p : Nat → Bool) : ∀ n, (below p n).length = cntN p n
  | 0 => rfl
  | n + 1 => by
    have := below_length p n
    unfold below at this ⊢
    rw [List.range_succ, List.filter_append, List.length_append, this]
    simp only [cntN, List.filter_cons, List.filter_nil]
    split <;> rfl

theorem mem_below {p : Nat → Bool} {n x : Nat} : x ∈ below p n ↔ x < n ∧ p x = true := by unfold below; simp
theorem below_pairwise (p : Nat → Bool) (n : Nat) : (below p n).Pairwise (· < ·) := List.Pairwise.filter _ List.pairwise_lt_range

/-- A set's numbers. -/
def els (p : Nat → Bool) : List Int := (below p 256).map fun x : Nat => (x : Int)

end Go.Proofs.Ytflemmmaakhahaa

/-
  The walk over what tells a set's numbers one by one.
-/
namespace Go.Proofs.Ytflemmmaakhahaa
open Go.RowKit Go.Shelf
attribute [local go_sem] Oper.semAt_some

def elsN (p : Nat → Bool) (k : Nat) : List Int := (below p (64 * k)).map fun x : Nat => (x : Int)
def onesAt (k x : Nat) : List Int := (ones x).map fun j : Nat => (k : Int) * 64 + (j : Int)

theorem elsN_next (p : Nat → Bool) (k : Nat) : elsN p (k + 1) = elsN p k ++ onesAt k (wd p k) := by
  unfold elsN onesAt
  rw [ones_wd, List.map_append, List.map_map]
  congr 1
  exact List.map_congr_left fun j _ => by simp; omega
theorem onesAt_zero (k : Nat) : onesAt k 0 = [] := by unfold onesAt; rw [ones_zero]; rfl
theorem onesAt_next (k : Nat) {x : Nat} (h0 : x ≠ 0) (h : x < 18446744073709551616) : onesAt k x = ((k : Int) * 64 + (Lib.ctz 64 x : Int)) :: onesAt k (x &&& (x - 1)) := by
  unfold onesAt; rw [(ones_next h0 h).2]; rfl
theorem elsN_pre (p : Nat → Bool) : ∀ {k}, k ≤ 4 → ∃ t, els p = elsN p k ++ t := by
  have h : ∀ d k, k + d = 4 → ∃ t, els p = elsN p k ++ t := by
    intro d
    induction d with
    | zero => intro k hk; obtain rfl : k = 4 := by omega
              exact ⟨[], by simp [els, elsN]⟩
    | succ d ih =>
      intro k hk
      obtain ⟨t, ht⟩ := ih (k + 1) (by omega)
      exact ⟨onesAt k (wd p k) ++ t, by rw [ht, elsN_next, List.append_assoc]⟩
  exact fun {k} hk => h (4 - k) k (by omega)

theorem index_any (a : Nat → Nat) {k : Nat} (hk : k < 4) (w : World) : (Instr.index 37 (.agg #[.int .u64 (a 0), .int .u64 (a 1), .int .u64 (a 2), .int .u64 (a 3)]) (.int .i64 (k : Int))).run Try.prog w = .ok (.int .u64 (a k)) w := by
  rcases (show k = 0 ∨ k = 1 ∨ k = 2 ∨ k = 3 by omega) with rfl | rfl | rfl | rfl
  · exact index_0 ..
  · exact index_1 ..
  · exact index_2 ..
  · exact index_3 ..

end Go.Proofs.Ytflemmmaakhahaa

/-
  The walk over the list of a set.
-/
namespace Go.Proofs.Ytflemmmaakhahaa
open Go.RowKit Go.Shelf
attribute [local go_sem] Oper.semAt_some

theorem infoInt : (Try.prog.info? 3).map (fun i => (i.zero, i.size, i.bytes)) = some (some (.int .i64 0), 1, 8) := by kernel_rfl

theorem make_run (c : Nat) (hc : c ≤ 256) (w : World) : (Instr.makeSlice 45 (.int .i64 0) (.int .i64 (c : Int))).run Try.prog w = .ok (.slice (some ⟨w.heap.size, 0, none⟩) 0 c) (w.alloc (.cells (madeCells #[.int .i64 0] c) 3)) := by
  obtain ⟨i0, hi, hz0, hz1, hz2⟩ := info_parts infoInt
  have h := run_make w 45 3 i0 (.int .i64 0) Try.underlying45 hi hz0 .i64 .i64 0 c (by omega) (by omega) (by rw [hz2]; omega) (by omega)
  rw [hz1] at h
  simpa [Value.cells] using h

/-- What the list of a set is: a row of its own. -/
def ListPost (p : Nat → Bool) (w : World) (e : Ending) (w' : World) : Prop :=
  ∃ v, e = .returned v ∧ w'.ownsRow w.heap.size 3 1 v (els p).length ((els p).map (Value.int .i64)) ∧ Below w.heap.size w w'

end Go.Proofs.Ytflemmmaakhahaa

/-
  The walks over the document's own list and count; two rows held against each other; the first numbers of a row; the chapter's example.
-/
namespace Go.Proofs.Ytflemmmaakhahaa
open Go.RowKit

theorem owns_below {w w' : World} {B base : Nat} {e : TypeId} {size n : Nat} {v : Value} {xs : List Value} (h : w.ownsRow base e size v n xs) (hb : Below B w w') (hB : w.heap.size ≤ B) : w'.ownsRow base e size v n xs := by
  refine ⟨h.1, ?_⟩
  rcases h.2 with h | ⟨g, cap, cur, h1, h2, h3, h4⟩
  · exact .inl h
  · have hg : g < w.heap.size := (Array.getElem?_eq_some_iff.1 h3).1
    exact .inr ⟨g, cap, cur, h1, h2, (hb.block g (by omega)).trans h3, h4⟩
theorem owns_base {w : World} {base base' : Nat} {e : TypeId} {size n : Nat} {v : Value} {xs : List Value} (h : w.ownsRow base e size v n xs) (hB : base' ≤ base) : w.ownsRow base' e size v n xs := by
  refine ⟨h.1, ?_⟩
  rcases h.2 with h | ⟨g, cap, cur, h1, h2, h3⟩
  · exact .inl h
  · exact .inr ⟨g, cap, cur, h1, by omega, h3⟩

/-- A row of one's own, read. -/
theorem owns_reads {w : World} {base : Nat} {v : Value} {E : List Int} (h : w.ownsRow base 3 1 v E.length (E.map (Value.int .i64))) :
    ∃ ao cap, v = .slice ao E.length cap ∧ Reads w w.heap.size ao E ∧ (cap : Int) ≤ 9223372036854775807 ∧ E.length ≤ cap := by
  rcases h.2 with ⟨rfl, h0⟩ | ⟨g, cap, cur, rfl, h2, h3, h4, h5, _⟩
  · exact ⟨none, 0, by rw [h0], .inl (List.eq_nil_of_length_eq_zero h0), by omega, by omega⟩
  · refine ⟨some ⟨g, 0, none⟩, cap, rfl, ?_, by unfold maxLen at h5; omega, h4⟩
    right
    refine ⟨g, 0, rfl, (Array.getElem?_eq_some_iff.1 h3).1, fun k hk => ?_⟩
    have := h.cells (g := g) (by simp [Value.ownBlock]) k (.int .i64 (E.getD k 0)) (by rw [List.getElem?_map, List.getElem?_eq_getElem hk, List.getD_eq_getElem?_getD, List.getElem?_eq_getElem hk]; rfl)
    have e : (⟨g, 0, none⟩ : Addr).add k = ⟨g, 0 + k, none⟩ := by unfold Addr.add; split <;> simp_all
    rw [e] at this
    exact this

def Blk4 (w : World) (b x0 x1 x2 x3 : Nat) : Prop := w.heap[b]? = some (.cells #[.int .u64 x0, .int .u64 x1, .int .u64 x2, .int .u64 x3] 37 (0, 0))
theorem Blk4.lt {w : World} {b x0 x1 x2 x3 : Nat} (h : Blk4 w b x0 x1 x2 x3) : b < w.heap.size := (Array.getElem?_eq_some_iff.1 h).1
theorem Blk4.cells {w : World} {b x0 x1 x2 x3 : Nat} (h : Blk4 w b x0 x1 x2 x3) : w.cell? ⟨b, 0, none⟩ = some (.int .u64 x0) ∧ w.cell? ⟨b, 1, none⟩ = some (.int .u64 x1) ∧ w.cell? ⟨b, 2, none⟩ = some (.int .u64 x2) ∧ w.cell? ⟨b, 3, none⟩ = some (.int .u64 x3) := by
  unfold Blk4 at h; simp [World.cell?, h]

structure LoopL (p : Nat → Bool) (w wr : World) (n : Nat) (v : Value) : Prop where
  x : Blk4 wr w.heap.size (wd p 0) (wd p 1) (wd p 2) (wd p 3)
  row : wr.ownsRow (w.heap.size + 1) 3 1 v (below p n).length (((below p n).map fun x : Nat => (x : Int)).map (Value.int .i64))
  low : Below w.heap.size w wr

theorem below_yes {p : Nat → Bool} {n : Nat} (h : p n = true) : below p (n + 1) = below p n ++ [n] := by unfold below; rw [List.range_succ, List.filter_append]; simp [h]
theorem below_no {p : Nat → Bool} {n : Nat} (h : p n = false) : below p (n + 1) = below p n := by unfold below; rw [List.range_succ, List.filter_append]; simp [h]

theorem LoopL.next {p : Nat → Bool} {w wr w1 w3 : World} {n : Nat} {v v' : Value} {o : Obj} (h : LoopL p w wr n v) (hw : Below wr.heap.size wr w1) (hp : p n = true)
    (hown : w3.ownsRow (w.heap.size + 1) 3 1 v' ((below p n).length + 1) (((below p n).map fun x : Nat => (x : Int)).map (Value.int .i64) ++ [.int .i64 (n : Int)])) (hg : (w1.alloc o).grownBy w3 v.ownBlock) : LoopL p w w3 (n + 1) v' := by
  have hlt := h.x.lt
  have hsz := hw.size
  have hne : ∀ k, v.ownBlock = some k → w.heap.size + 1 ≤ k := fun k hk => (h.row.lt k hk).1
  refine ⟨?_, ?_, ?_⟩
  · have h1 : Blk4 w1 w.heap.size (wd p 0) (wd p 1) (wd p 2) (wd p 3) := (hw.block _ hlt).trans h.x
    have h2 : Blk4 (w1.alloc o) w.heap.size (wd p 0) (wd p 1) (wd p 2) (wd p 3) := (Below.heap_alloc w1 o _ h1.lt).trans h1
    exact (hg.block _ h2.lt (fun e => by have := hne _ e.symm; omega)).trans h2
  · rw [below_yes hp]
    simpa using hown
  · exact ((h.low.trans (hw.mono h.low.size)).alloc (Nat.le_trans h.low.size hsz) o).grown hg (Nat.le_trans h.low.size (by simp; omega)) fun k hk => by have := hne k hk; omega
theorem LoopL.stay {p : Nat → Bool} {w wr w1 : World} {n : Nat} {v : Value} (h : LoopL p w wr n v) (hw : Below wr.heap.size wr w1) (hp : p n = false) : LoopL p w w1 (n + 1) v :=
  ⟨(hw.block _ h.x.lt).trans h.x, by rw [below_no hp]; exact owns_below h.row hw (Nat.le_refl _), h.low.trans (hw.mono h.low.size)⟩

set_option maxRecDepth 100000 in
set_option maxHeartbeats 4000000 in
theorem rlist_any (p : Nat → Bool) (w : World) : Calls Try.prog 56 #[.agg #[.int .u64 (wd p 0), .int .u64 (wd p 1), .int .u64 (wd p 2), .int .u64 (wd p 3)]] w (ListPost p w) := by
  obtain ⟨i0, hi, hz0, hz1, hz2⟩ := info_parts infoInt
  have H := Lib.hid (fun (n : Nat) (h : n < 256) w => (show Calls Try.prog 41 #[.agg #[.int .u64 (wd p 0), .int .u64 (wd p 1), .int .u64 (wd p 2), .int .u64 (wd p 3)], .int .i64 n] w fun e w' => e = .returned (.bool (p n)) ∧ Below w.heap.size w w' by have := rhas_any p n w; rw [hasP_nat h] at this; exact this))
  go_enter Try.func56, Try.ntmps56
  go_wp2
  go_loopw [3, 4] (fun v i wr => ∃ n : Nat, n ≤ 256 ∧ i = .int .i64 n ∧ Hid (LoopL p w wr n v)) (fun _ i _ => (256 - intOf i).toNat)
  case atStart =>
    exact ⟨0, by omega, rfl, ⟨World.alloc_heap_new w _, World.ownsRow_nil _ _ _ _, (Below.refl _ _).alloc (Nat.le_refl _) _⟩⟩
  case round =>
    obtain ⟨n, hn, rfl, HL⟩ := hrel
    by_cases hlt : n < 256
    · obtain ⟨x0, x1, x2, x3⟩ := HL.out.x.cells
      have C := Lib.hid (H.out n hlt)
      have hlen : (below p n).length ≤ 256 := by rw [below_length]; have := cntN_le p n; omega
      clear H
      cases hq : p n with
      | false =>
        have HN := Lib.hid (fun w1 hw => HL.out.stay (w1 := w1) hw hq)
        rw [hq] at C
        clear HL hq hlen
        generalize wd p = a at x0 x1 x2 x3 C
        go_wp2_with (go_at_call 41; (refine (C.out _).mono ?_); rintro e w1 ⟨rfl, hw1⟩; have HM := Lib.hid (HN.out _ hw1); clear hw1)
        go_roundw
        case rel => exact ⟨n + 1, by omega, by go_num, HM⟩
        case measure => simp [intOf]; omega
      | true =>
        have HQ := Lib.hid hq
        rw [hq] at C
        clear hq
        generalize wd p = a at x0 x1 x2 x3 C
        go_wp2_with (first
          | (go_at_call 41; (refine (C.out _).mono ?_); rintro e w1 ⟨rfl, hw1⟩; have HR := Lib.hid (owns_below HL.out.row hw1 (Nat.le_refl _)); have HZ := Lib.hid (Nat.le_trans (HL.out.x.lt : w.heap.size + 1 ≤ wr.heap.size) hw1.size); have HW := Lib.hid hw1; clear hw1)
          | (at_builtin; refine wpList_append_own _ rfl _ _ 45 rfl (w.heap.size + 1) 3 i0 (.int .i64 0) 1 8 Try.underlying45 hi hz0 hz1 hz2 rfl (by decide) _ _ _ rfl (HR.out.alloc _) ⟨w1.heap.size, 0, none⟩ 1 1 [.int .i64 n] rfl rfl (cell_one_new _ _ _) (fun x hx => by simp at hx; subst hx; rfl) (by unfold maxLen; omega) (by omega) (by have := HZ.out; simp; omega) ?_; intro v' w3 hown' hgrow _; have HM := Lib.hid (HL.out.next HW.out HQ.out hown' hgrow); clear hown' hgrow))
        go_roundw
        case rel => exact ⟨n + 1, by omega, by go_num, HM⟩
        case measure => simp [intOf]; omega
    · obtain rfl : n = 256 := by omega
      clear H
      go_wp2
      go_ret
      exact ⟨_, rfl, by
        have := owns_base HL.out.row (base' := w.heap.size) (by omega)
        unfold els; rw [List.length_map]; exact this, HL.out.low⟩

end Go.Proofs.Ytflemmmaakhahaa

/-
  The walks over the document's own count; two rows held against each other; the first numbers of a row; the chapter's example.
-/
namespace Go.Proofs.Ytflemmmaakhahaa
open Go.RowKit

theorem els_length (p : Nat → Bool) : (els p).length = cntN p 256 := by unfold els; rw [List.length_map, below_length]

set_option maxHeartbeats 1000000 in
theorem rlen_any (p : Nat → Bool) (w : World) :
    Calls Try.prog 33 #[.agg #[.int .u64 (wd p 0), .int .u64 (wd p 1), .int .u64 (wd p 2), .int .u64 (wd p 3)]] w fun e w' => e = .returned (.int .i64 (cntN p 256)) ∧ Below w.heap.size w w' := by
  have C := Lib.hid (fun w => rlist_any p w)
  have HE := Lib.hid (els_length p)
  have HB := Lib.hid ((Below.refl w.heap.size w).alloc (Nat.le_refl _) (.cells #[.int .u64 (wd p 0), .int .u64 (wd p 1), .int .u64 (wd p 2), .int .u64 (wd p 3)] 37))
  go_enter Try.func33, Try.ntmps33
  go_wp2_with (go_at_call 56; (refine (C.out _).mono ?_); rintro e w1 ⟨v, rfl, hown, hw1⟩; obtain ⟨ao, cap, rfl, _, _, _⟩ := owns_reads hown; have HB1 := Lib.hid (below_next hw1 HB.out (Nat.le_refl _)); clear hw1 hown)
  go_ret
  exact ⟨by rw [HE.out]; rfl, HB1.out⟩

theorem l_i64_of_wf {x : Int} (h : (Lit.int .i64 x).wf = true) : -9223372036854775808 ≤ x ∧ x ≤ 9223372036854775807 := by
  simp [Lit.wf, IntKind.min, IntKind.max, IntKind.signed, IntKind.bits] at h
  omega

theorem els_sample : els (ofN [5, 3, 300, 3] 4) = [3, 5] := by decide +kernel
theorem has_sample : hasP (ofN [3] 1) 3 = true := by decide +kernel

theorem reads_two (a b : Int) (g : Nat) (w : World) (hg : g < w.heap.size) (h0 : w.cell? ⟨g, 0, none⟩ = some (.int .i64 a)) (h1 : w.cell? ⟨g, 1, none⟩ = some (.int .i64 b)) : Reads w w.heap.size (some ⟨g, 0, none⟩) [a, b] :=
  .inr ⟨g, 0, rfl, hg, fun k hk => by
    rcases (show k = 0 ∨ k = 1 by simp at hk; omega) with rfl | rfl
    · exact h0
    · exact h1⟩

theorem reads_next {w w1 w2 : World} {B : Nat} {ao : Option Addr} {L : List Int} (hb : Below w1.heap.size w1 w2) (h : Reads w B ao L) (hB : B ≤ w.heap.size) (e : w1.heap = w.heap := by rfl) : Reads w2 w2.heap.size ao L := by
  rcases h with h | ⟨b, off, h1, h2, h3⟩
  · exact .inl h
  · refine .inr ⟨b, off, h1, ?_, fun k hk => ?_⟩
    · have := hb.size; rw [e] at this; omega
    · rw [hb.cell (p := ⟨b, off + k, none⟩) (by show b < _; rw [e]; omega), cell_same e]; exact h3 k hk

end Go.Proofs.Ytflemmmaakhahaa
