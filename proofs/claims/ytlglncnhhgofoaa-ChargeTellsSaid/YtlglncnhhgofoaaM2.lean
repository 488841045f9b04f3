/- Texts of this claim, put together: KW14, KN, KOpen2, BNum, BPop, BMem, BWalk1, BWalk2, BWalk3. -/
import Derived.Test.YtlglncnhhgofoaaChecked
import Derived.Test.YtlglncnhhgofoaaM1
import Derived.WalkKit
import Derived.Laws.Bits64b
import Derived.Laws.BitsAllLaws
import Derived.WalkSpells
import Derived.WalkLawsBesides
import Derived.Laws.Externs
import Derived.Lib.Hide
import Derived.Below
import Derived.Deep.QuietTactic
import Derived.BigQuiet
import Derived.Laws.Bits128
set_option linter.unusedVariables false
set_option linter.unusedSimpArgs false

/-
  The walk over a system that came in, cut to 66 tasks.
-/
namespace Go.Proofs.Ytlglncnhhgofoaa
open Go.RowKit Go.Maps

/-- A system in a box, one that comes back, and a row of one's own. -/
structure FewAt (w : World) (s r : Int) (a : Option Addr) (n cap : Nat) (v : Value) (R : List TV) (W : World) : Prop where
  low : Below w.heap.size w W
  box : W.heap[w.heap.size]? = some (.cells #[.int .i64 s, .int .i64 r, .slice a n cap] 27 (0, 0))
  res : W.heap[w.heap.size + 1]? = some (.cells #[.int .i64 0, .int .i64 0, .slice none 0 0] 27 (0, 0))
  own : OwnT W (w.heap.size + 2) v R
theorem FewAt.below {w W W' : World} {s r : Int} {a : Option Addr} {n cap : Nat} {v : Value} {R : List TV} (h : FewAt w s r a n cap v R W) (hb : Below W.heap.size W W') : FewAt w s r a n cap v R W' :=
  ⟨below_up h.low hb, kept_obj hb h.box, kept_obj hb h.res, h.own.below hb⟩
theorem FewAt.size {w W : World} {s r : Int} {a : Option Addr} {n cap : Nat} {v : Value} {R : List TV} (h : FewAt w s r a n cap v R W) : w.heap.size + 2 ≤ W.heap.size := lt_of_block h.res
theorem FewAt.grown {w W W' : World} {s r : Int} {a : Option Addr} {n cap : Nat} {v v' : Value} {R R' : List TV} (h : FewAt w s r a n cap v R W) (hg : W.grownBy W' v.ownBlock) (ho : OwnT W' (w.heap.size + 2) v' R') : FewAt w s r a n cap v' R' W' := by
  have hb : Below (w.heap.size + 2) W W' := (Below.refl _ W).grown hg h.size (fun k hk => (h.own.new hk).1)
  exact ⟨h.low.trans (hb.mono (by omega)), kept_objB hb (by omega) h.box, kept_objB hb (by omega) h.res, ho⟩
theorem fewAt_new {w : World} {s r : Int} {a : Option Addr} {n cap : Nat} : FewAt w s r a n cap (.slice none 0 0) [] ((w.alloc (.cells #[.int .i64 s, .int .i64 r, .slice a n cap] 27)).alloc (.cells #[.int .i64 0, .int .i64 0, .slice none 0 0] 27)) := by
  refine ⟨(by repeat (first | exact Below.refl _ _ | (with_reducible assumption) | refine bw_alloc ?_ _ | refine bw_drew ?_)), ?_, ?_, OwnT.nil _ _⟩
  · rw [Below.heap_alloc _ _ _ (by simp)]
    exact heap_alloc_new w _
  · have := heap_alloc_new (w.alloc (.cells #[.int .i64 s, .int .i64 r, .slice a n cap] 27)) (.cells #[.int .i64 0, .int .i64 0, .slice none 0 0] 27)
    rwa [World.size_alloc] at this
theorem zeroSys (w : World) : (zeroValue 27).run Try.prog w = .ok (.agg #[.int .i64 0, .int .i64 0, .slice none 0 0]) w := by kernel_rfl

/-- A system that comes back. -/
def SysBack (s r : Int) (m : Nat) (L : List TV) (w : World) (e : Ending) (w' : World) : Prop :=
  ∃ a c, e = .returned (.agg #[.int .i64 s, .int .i64 r, .slice a m c]) ∧ Tasks w' a m c L ∧ Below w.heap.size w w'

end Go.Proofs.Ytlglncnhhgofoaa

/-
  Rows of plain numbers of tasks.
-/
namespace Go.Proofs.Ytlglncnhhgofoaa
open Go.RowKit Go.Maps

/-- The cells of a row of tasks. -/
def nflat : List NV → List Value
  | [] => []
  | x :: l => x.cells ++ nflat l
theorem ncells_len (x : NV) : x.cells.length = 6 := rfl
theorem nflat_len : ∀ l : List NV, (nflat l).length = l.length * 6
  | [] => rfl
  | x :: l => by simp [nflat, nflat_len l, ncells_len]; omega
theorem nflat_append : ∀ l m : List NV, nflat (l ++ m) = nflat l ++ nflat m
  | [], _ => rfl
  | x :: l, m => by simp [nflat, nflat_append l m]
theorem nflat_at : ∀ (l : List NV) (k : Nat) (x : NV), l[k]? = some x → ∀ i, i < 6 → (nflat l)[k * 6 + i]? = x.cells[i]?
  | [], k, x, h => by simp at h
  | y :: l, 0, x, h => by
    simp at h; subst h
    intro i hi
    rw [Nat.zero_mul, Nat.zero_add, nflat, List.getElem?_append_left (by rw [ncells_len]; exact hi)]
  | y :: l, k + 1, x, h => by
    intro i hi
    have := nflat_at l k x (by simpa using h) i hi
    rw [show (k + 1) * 6 + i = 6 + (k * 6 + i) by omega, nflat, List.getElem?_append_right (by rw [ncells_len]; omega), ncells_len, ← this]
    congr 1; omega
theorem nflat_one : ∀ (l : List NV), ∀ u ∈ nflat l, u.oneCell' = true
  | [], u, h => by simp [nflat] at h
  | x :: l, u, h => by
    rcases List.mem_append.1 h with h | h
    · simp [NV.cells] at h
      rcases h with rfl | rfl | rfl | rfl | rfl | rfl <;> rfl
    · exact nflat_one l u h
theorem nflat_drop : ∀ (k : Nat) (l : List NV), nflat (l.drop k) = (nflat l).drop (k * 6)
  | 0, l => by simp
  | k + 1, [] => by simp [nflat]
  | k + 1, x :: l => by
    rw [List.drop_succ_cons, nflat_drop k l, nflat, List.drop_append, show (k + 1) * 6 = 6 + k * 6 by omega]
    simp [ncells_len]
theorem nflat_take : ∀ (k : Nat) (l : List NV), nflat (l.take k) = (nflat l).take (k * 6)
  | 0, l => by simp [nflat]
  | k + 1, [] => by simp [nflat]
  | k + 1, x :: l => by
    rw [List.take_succ_cons, nflat, nflat, nflat_take k l, List.take_append, show (k + 1) * 6 = 6 + k * 6 by omega]
    simp [ncells_len]
    rw [List.take_of_length_le (by rw [ncells_len]; omega)]

/-- A row of tasks that can be read. -/
def NView (w : World) (a : Option Addr) (l : List NV) : Prop :=
  l = [] ∨ ∃ g o, a = some ⟨g, o, none⟩ ∧ ∀ j u, (nflat l)[j]? = some u → w.cell? ⟨g, o + j, none⟩ = some u
theorem NView.nil {w : World} {a : Option Addr} : NView w a [] := .inl rfl
theorem NView.at_ {w : World} {a : Option Addr} {l : List NV} (h : NView w a l) {k : Nat} {x : NV} (hx : l[k]? = some x) : ∃ g o, a = some ⟨g, o, none⟩ ∧ NAt w g (o + k * 6) x := by
  rcases h with rfl | ⟨g, o, rfl, hc⟩
  · simp at hx
  · have f := nflat_at l k x hx
    refine ⟨g, o, rfl, ⟨?_, ?_, ?_, ?_, ?_, ?_⟩⟩
    · exact hc _ _ (f 0 (by omega))
    · exact hc _ _ (f 1 (by omega))
    · exact hc _ _ (f 2 (by omega))
    · exact hc _ _ (f 3 (by omega))
    · exact hc _ _ (f 4 (by omega))
    · exact hc _ _ (f 5 (by omega))
theorem NView.below {w w' : World} {a : Option Addr} {l : List NV} (h : NView w a l) (hb : Below w.heap.size w w') : NView w' a l := by
  rcases h with rfl | ⟨g, o, rfl, hc⟩
  · exact .inl rfl
  · exact .inr ⟨g, o, rfl, fun j u hj => kept_cell hb (hc j u hj)⟩
theorem NView.drop {w : World} {g o : Nat} {l : List NV} (h : NView w (some ⟨g, o, none⟩) l) (k : Nat) : NView w (some ⟨g, o + k * 6, none⟩) (l.drop k) := by
  rcases h with rfl | ⟨g', o', e, hc⟩
  · left; simp
  · cases e
    refine .inr ⟨_, _, rfl, fun j u hj => ?_⟩
    rw [nflat_drop, List.getElem?_drop] at hj
    rw [Nat.add_assoc]
    exact hc _ u hj
theorem NView.take {w : World} {a : Option Addr} {l : List NV} (h : NView w a l) (k : Nat) : NView w a (l.take k) := by
  rcases h with rfl | ⟨g, o, rfl, hc⟩
  · left; simp
  · refine .inr ⟨g, o, rfl, fun j u hj => ?_⟩
    rw [nflat_take, List.getElem?_take] at hj
    split at hj
    · exact hc j u hj
    · cases hj
theorem NView.of_at {w : World} {g o : Nat} {x : NV} (h : NAt w g o x) : NView w (some ⟨g, o, none⟩) [x] := by
  refine .inr ⟨g, o, rfl, fun j u hj => ?_⟩
  simp only [nflat, List.append_nil, NV.cells] at hj
  match j, hj with
  | 0, hj => simp at hj; subst hj; exact h.c0
  | 1, hj => simp at hj; subst hj; exact h.c1
  | 2, hj => simp at hj; subst hj; exact h.c2
  | 3, hj => simp at hj; subst hj; exact h.c3
  | 4, hj => simp at hj; subst hj; exact h.c4
  | 5, hj => simp at hj; subst hj; exact h.c5
  | j + 6, hj => simp at hj
abbrev NT : TypeId := 69
def OwnN (w : World) (B : Nat) (v : Value) (l : List NV) : Prop := w.ownsRow B NT 6 v l.length (nflat l)
theorem OwnN.nil (w : World) (B : Nat) : OwnN w B (.slice none 0 0) [] := World.ownsRow_nil _ _ _ _
theorem OwnN.made (w : World) : OwnN (w.alloc (.cells #[] NT)) w.heap.size (.slice (some ⟨w.heap.size, 0, none⟩) 0 0) [] :=
  World.ownsRow_made (w := w) #[] 0 (Nat.le_refl _) (by decide) rfl
theorem OwnN.low {w : World} {B B' : Nat} {v : Value} {l : List NV} (h : OwnN w B v l) (hB : B' ≤ B) : OwnN w B' v l := by
  rcases h with ⟨h0, h | ⟨g, cap, cur, rfl, hb, r⟩⟩
  · exact ⟨h0, .inl h⟩
  · exact ⟨h0, .inr ⟨g, cap, cur, rfl, by omega, r⟩⟩
theorem OwnN.slice {w : World} {B : Nat} {v : Value} {l : List NV} (h : OwnN w B v l) : ∃ a cap, v = .slice a l.length cap ∧ NView w a l ∧ l.length ≤ cap ∧ (cap : Int) ≤ 9223372036854775807 := by
  rcases h.2 with ⟨rfl, h0⟩ | ⟨g, cap, cur, rfl, _, h3, h1, h2, h4, h5⟩
  · exact ⟨none, 0, by rw [h0], .inl (List.length_eq_zero_iff.1 h0), by omega, by omega⟩
  · refine ⟨_, cap, rfl, .inr ⟨g, 0, rfl, fun j u hj => ?_⟩, h1, by unfold maxLen at h2; omega⟩
    rw [Nat.zero_add, blk_cell h3]
    rw [← h5] at hj
    rw [List.getElem?_take] at hj
    split at hj
    · simpa using hj
    · cases hj
theorem OwnN.new {w : World} {B : Nat} {v : Value} {l : List NV} (h : OwnN w B v l) {k : Nat} (hk : v.ownBlock = some k) : B ≤ k ∧ k < w.heap.size := World.ownsRow.lt h k hk
theorem OwnN.below {w w' : World} {B : Nat} {v : Value} {l : List NV} (h : OwnN w B v l) (hb : Below w.heap.size w w') : OwnN w' B v l := by
  rcases h with ⟨h0, h | ⟨g, cap, cur, rfl, hB, h3, r⟩⟩
  · exact ⟨h0, .inl h⟩
  · exact ⟨h0, .inr ⟨g, cap, cur, rfl, hB, kept_obj hb h3, r⟩⟩
theorem OwnN.none_len {w : World} {B n c : Nat} {l : List NV} (h : OwnN w B (.slice none n c) l) : n = 0 := by
  rcases h.2 with ⟨h1, h0⟩ | ⟨g, cap, cur, h1, _⟩
  · cases h1; rfl
  · cases h1

theorem infoNum : (Try.prog.info? NT).map (fun i => (i.zero, i.size, i.bytes)) = some (some (.agg #[.int .i64 0, .int .i64 0, .int .i64 0, .int .i64 0, .int .i64 0, .slice none 0 0]), 6, 64) := by kernel_rfl
theorem zeroNum (w : World) : (zeroValue NT).run Try.prog w = .ok (.agg #[.int .i64 0, .int .i64 0, .int .i64 0, .int .i64 0, .int .i64 0, .slice none 0 0]) w := by kernel_rfl
theorem ninfoParts : ∃ i, Try.prog.info? NT = some i ∧ i.zero = some (.agg #[.int .i64 0, .int .i64 0, .int .i64 0, .int .i64 0, .int .i64 0, .slice none 0 0]) ∧ i.size = 6 ∧ i.bytes = 64 := by
  obtain ⟨i, h1, h2⟩ := Option.map_eq_some_iff.1 infoNum
  simp only [Prod.mk.injEq] at h2
  exact ⟨i, h1, h2.1, h2.2.1, h2.2.2⟩

/-- A row that was appended to: what it holds, where it lies. -/
theorem append_nview {w : World} {B m c : Nat} {v : Value} {q l : List NV} {ad : Option Addr} (h : OwnN w B v q) (hB : B ≤ w.heap.size) (hv : NView w ad l) (hl : l.length = m) (hs : q.length + m ≤ 1000000) (hn : ad = none → m = 0) (ty : TypeId) :
    ∃ v' w', (Builtin.append_ #[65, 65] ty #[v, .slice ad m c]).run Try.prog w = .ok v' w' ∧ OwnN w' B v' (q ++ l) ∧ w.grownBy w' v.ownBlock ∧ ∀ k, v'.ownBlock = some k → v.ownBlock = some k ∨ w.heap.size ≤ k := by
  obtain ⟨i0, hi, hz0, hz1, hz2⟩ := ninfoParts
  cases ad with
  | none =>
    obtain rfl := hn rfl
    obtain rfl : l = [] := List.length_eq_zero_iff.1 hl
    refine ⟨v, w, ?_, by rw [List.append_nil]; exact h, ⟨rfl, rfl, rfl, Nat.le_refl _, fun _ _ _ => rfl⟩, fun k hk => .inl hk⟩
    rcases h.2 with ⟨rfl, h0⟩ | ⟨g, cap, cur, rfl, _, h3, h1, h2, h4, h5⟩
    · have hs := Src.ofNil (w := w) (size := i0.size) Try.underlying65 c
      simp [Builtin.append_, run_underlying Try.underlying65, sizeOf, typeInfo, hi, hs.len, hs.cells]
    · have := run_append_room_src (P := Try.prog) (w := w) 65 65 ty NT i0 Try.underlying65 hi g 0 q.length cap (.slice none 0 c) 0 [] (Src.ofNil w Try.underlying65 c) (by omega) (fun j hj => absurd hj (Nat.not_lt_zero _)) (fun j hj => absurd hj (Nat.not_lt_zero _))
      simpa [World.setCells] using this
  | some x =>
    have hnews : ∀ j u, (nflat l)[j]? = some u → w.cell? (x.add j) = some u := by
      intro j u hj
      rcases hv with rfl | ⟨g, o, e, hc⟩
      · simp [nflat] at hj
      · cases e
        rw [addr_at]; exact hc j u hj
    obtain ⟨v', w', h1, h2, h3, _, h5⟩ := run_append_own_at (P := Try.prog) w B 65 ty NT i0 _ 6 64 Try.underlying65 hi hz0 hz1 hz2 rfl (by decide) v q.length (nflat q) h x m c (nflat l) (by rw [nflat_len, hl]) hnews (nflat_one l) (by unfold maxLen; omega) (by omega) hB
    refine ⟨v', w', h1, ?_, h3, fun k hk => ?_⟩
    · unfold OwnN
      rw [List.length_append, nflat_append, hl]
      exact h2
    · rcases h5 with z | z
      · left; rw [← z]; exact hk
      · right; rw [z] at hk; cases hk; exact Nat.le_refl _

theorem nstep_append {w : World} {ops : Array Oper} {o : Oper} {a : Act} {K : Act → World → Prop} {Q : Exit → Act → World → Prop} {E : Prop} (hgd : o.guard = none) (s x : Operand)
    (ho : o.op = .call { callee := .builtin .append, args := #[s, x], argTypes := #[65, 65] }) {B m c : Nat} {v : Value} {q l : List NV} {ad : Option Addr} (hs : a.eval s = v) (hx : a.eval x = .slice ad m c)
    (hown : OwnN w B v q) (hB : B ≤ w.heap.size) (hv : NView w ad l) (hl : l.length = m) (hsm : q.length + m ≤ 1000000) (hn : ad = none → m = 0) (N : Nat) (hN : q.length + m = N)
    (h : ∀ a' cp' w', OwnN w' B (.slice a' N cp') (q ++ l) → w.grownBy w' v.ownBlock → (∀ k, (Value.slice a' N cp').ownBlock = some k → v.ownBlock = some k ∨ w.heap.size ≤ k) → K (a.put o.dst (.slice a' N cp')) w') :
    if Region.wanted o (yielded ops a.tmps) = true then Oper.wp Try.prog o a w K Q else E := by
  have hw : Region.wanted o (yielded ops a.tmps) = true := by simp [Region.wanted, hgd]
  rw [if_pos hw]
  obtain ⟨v', w', hr, h2, h3, h4⟩ := append_nview (c := c) hown hB hv hl hsm hn o.type
  obtain ⟨a', cp', hv', _⟩ := h2.slice
  rw [List.length_append, hl, hN] at hv'
  subst hv'
  unfold Oper.wp execOp
  simp only [ho, resolve, invoke, builtin, Sem.run_bind, Sem.run_pure, Result.andThen_ok, List.map_toArray, List.map_cons, List.map_nil, hs, hx, hr]
  exact h a' cp' w' h2 h3 h4
theorem wp_nappend {ops : Array Oper} {rest : List Oper} {o : Oper} {a : Act} {Q : Exit → Act → World → Prop} {w : World} (hgd : o.guard = none) (s x : Operand)
    (ho : o.op = .call { callee := .builtin .append, args := #[s, x], argTypes := #[65, 65] }) {B m c : Nat} {v : Value} {q l : List NV} {ad : Option Addr} (hs : a.eval s = v) (hx : a.eval x = .slice ad m c)
    (hown : OwnN w B v q) (hB : B ≤ w.heap.size) (hv : NView w ad l) (hl : l.length = m) (hsm : q.length + m ≤ 1000000) (hn : ad = none → m = 0) (N : Nat) (hN : q.length + m = N)
    (h : ∀ a' cp' w', OwnN w' B (.slice a' N cp') (q ++ l) → w.grownBy w' v.ownBlock → (∀ k, (Value.slice a' N cp').ownBlock = some k → v.ownBlock = some k ∨ w.heap.size ≤ k) → wpList Try.prog ops Q rest (a.put o.dst (.slice a' N cp')) w') : wpList Try.prog ops Q (o :: rest) a w :=
  wpList_step fun _ hK => nstep_append hgd s x ho hs hx hown hB hv hl hsm hn N hN (fun a' cp' w' o' g' l' => hK _ _ (h a' cp' w' o' g' l'))


/-- A slice of tasks' plain numbers that can be read. -/
structure Nums (w : World) (a : Option Addr) (n cap : Nat) (L : List NV) : Prop where
  len : L.length = n
  view : NView w a L
  ok : ∀ x ∈ L, x.ok w
  small : (n : Int) ≤ 9223372036854775807
theorem Nums.below {w w' : World} {a : Option Addr} {n cap : Nat} {L : List NV} (h : Nums w a n cap L) (hb : Below w.heap.size w w') : Nums w' a n cap L := ⟨h.len, h.view.below hb, fun x hx => (h.ok x hx).below hb, h.small⟩
theorem nat_new (w : World) (x : NV) (T : TypeId) : NAt (w.alloc (.cells #[.int .i64 x.C, .int .i64 x.D, .int .i64 x.T, .int .i64 x.P, .int .i64 x.K, .slice x.a x.us.length x.c] T)) w.heap.size 0 x :=
  ⟨by rw [World.cell?_alloc_new]; rfl, by rw [World.cell?_alloc_new]; rfl, by rw [World.cell?_alloc_new]; rfl, by rw [World.cell?_alloc_new]; rfl, by rw [World.cell?_alloc_new]; rfl, by rw [World.cell?_alloc_new]; rfl⟩
end Go.Proofs.Ytlglncnhhgofoaa

/-
  A system by plain numbers that came in, opened.
-/
namespace Go.Proofs.Ytlglncnhhgofoaa
open Go.ChangeShapes Go.WideShapes Go.ChangeAt Go.RowKit

instance : Inhabited NV := ⟨⟨0, 0, 0, 0, 0, none, [], 0⟩⟩
section
variable {H : Type} {enc : TypeId × Value → H} {W : World} {base : Nat} {spare : Nat → Bool} {held : Bool}

set_option maxRecDepth 100000 in
/-- The cells of a task's plain numbers. -/
theorem open_ncells {fuel : Nat} {cs : List Value} {y : DataW H × List MemPlace} (h : DataW.trod enc Try.prog W base spare held fuel 70 cs = some y) : ∃ x : NV, cs = x.cells ∧ x.ok W := by
  obtain ⟨xs, n, _, _, hl, hlen, hf⟩ := DataW.trod_struct Try.underlying70 h
  have hl7 : cs.length = 6 := hl.trans (by kernel_rfl)
  have hx7 : xs.length = 6 := hlen
  have k1 : Try.prog.cellsOf 3 = 1 := by kernel_rfl
  have k4 : Try.prog.cellsOf 28 = 1 := by kernel_rfl
  match cs, hl7, xs, hx7 with
  | [v0, v1, v2, v3, v4, v5], _, [y0, y1, y2, y3, y4, y5], _ =>
    have t0 : DataW.trod enc Try.prog W base spare held n 3 [v0] = some y0 := by have q := hf 0 _ rfl; simpa [k1, k4] using q
    have t1 : DataW.trod enc Try.prog W base spare held n 3 [v1] = some y1 := by have q := hf 1 _ rfl; simpa [k1, k4] using q
    have t2 : DataW.trod enc Try.prog W base spare held n 3 [v2] = some y2 := by have q := hf 2 _ rfl; simpa [k1, k4] using q
    have t3 : DataW.trod enc Try.prog W base spare held n 3 [v3] = some y3 := by have q := hf 3 _ rfl; simpa [k1, k4] using q
    have t4 : DataW.trod enc Try.prog W base spare held n 3 [v4] = some y4 := by have q := hf 4 _ rfl; simpa [k1, k4] using q
    have t5 : DataW.trod enc Try.prog W base spare held n 28 [v5] = some y5 := by have q := hf 5 _ rfl; simpa [k1, k4] using q
    obtain ⟨n0, e0, _, _⟩ := DataW.trod_int Try.underlying3 t0
    obtain ⟨n1, e1, _, _⟩ := DataW.trod_int Try.underlying3 t1
    obtain ⟨n2, e2, _, _⟩ := DataW.trod_int Try.underlying3 t2
    obtain ⟨n3, e3, _, _⟩ := DataW.trod_int Try.underlying3 t3
    obtain ⟨n4, e4, _, _⟩ := DataW.trod_int Try.underlying3 t4
    obtain ⟨a2, l2, c2, e5, i6, le6, m6, _⟩ := open_nums (v := v5) Try.underlying28 Try.underlying3 k1 t5
    simp at e0 e1 e2 e3 e4
    subst e0 e1 e2 e3 e4 e5
    exact ⟨⟨n0, n1, n2, n3, n4, a2, l2, c2⟩, rfl, ⟨i6, le6, m6⟩⟩

set_option maxRecDepth 100000 in
/-- A row of tasks' plain numbers. -/
theorem open_nrow {fuel : Nat} {v : Value} {y : DataW H × List MemPlace} (h : DataW.trod enc Try.prog W base spare held fuel 22 [v] = some y) :
    ∃ (a : Option Addr) (n c : Nat) (L : List NV), v = .slice a n c ∧ Nums W a n c L := by
  rcases Go.Deep.open_slice Try.underlying22 h with ⟨hcs, _⟩ | ⟨a, len, cap, m, n, D, Pl, hcs, hb, hl, hm, hmm, hx, hi⟩
  · simp at hcs; subst hcs
    exact ⟨none, 0, 0, [], rfl, ⟨rfl, .inl rfl, (fun x hx => by cases hx), by omega⟩⟩
  · simp at hcs; subst hcs
    have k7 : Try.prog.cellsOf 70 = 6 := by kernel_rfl
    have hlm : len ≤ m := by rw [hmm]; split <;> omega
    obtain ⟨O, hO⟩ := Go.Deep.choose_lt (n := len) (p := fun i (x : NV) => x.ok W ∧ ∀ j u, x.cells[j]? = some u → W.cell? (a.add (i * 6 + j)) = some u) (fun i hil => by
      obtain ⟨cs, hc, htr⟩ := hi i (by omega)
      rw [k7] at hc
      obtain ⟨_, hcl, hat⟩ := World.cells?_some hc
      obtain ⟨x, rfl, h1⟩ := open_ncells htr
      refine ⟨x, h1, fun j u hj => ?_⟩
      have hjl : j < 6 := by
        have := (List.getElem?_eq_some_iff.1 hj).1
        rwa [ncells_len] at this
      have := hat j hjl
      rw [Go.Deep.add_add] at this
      rw [this]; exact hj)
    refine ⟨some a, len, cap, (List.range len).map O, rfl, ⟨by simp, ?_, ?_, by unfold maxLen at hm; omega⟩⟩
    · rcases Nat.eq_zero_or_pos len with z | z
      · subst z; left; rfl
      have z0 := (hO 0 z).2 0 _ rfl
      rcases a with ⟨b, off, spot⟩
      have hs : spot = none := by
        cases spot with
        | none => rfl
        | some s => simp [World.cell?, Addr.add] at z0; split at z0 <;> simp at z0
      subst hs
      refine .inr ⟨b, off, rfl, fun j u hj => ?_⟩
      have hjl : j < len * 6 := by
        have := (List.getElem?_eq_some_iff.1 hj).1
        rwa [nflat_len, List.length_map, List.length_range] at this
      have hk : ((List.range len).map O)[j / 6]? = some (O (j / 6)) := by simp [show j / 6 < len by omega]
      have hf := nflat_at _ _ _ hk (j % 6) (by omega)
      rw [show j / 6 * 6 + j % 6 = j by omega, hj] at hf
      have := (hO (j / 6) (by omega)).2 (j % 6) u hf.symm
      rw [addr_at, show j / 6 * 6 + j % 6 = j by omega] at this
      exact this
    · intro x hx
      obtain ⟨i, hi, rfl⟩ := List.mem_map.1 hx
      exact (hO i (by simpa using hi)).1

set_option maxRecDepth 100000 in
/-- A system by plain numbers, by value. -/
theorem open_nsys {r : Reach} {b0 : Nat} {v : Value} {d : DataW H} {p : List MemPlace} (hv : Value.okWide Try.prog W r b0 24 v) (h : DataW.Trod enc Try.prog W base spare held 24 v d p) :
    ∃ (s r : Int) (a : Option Addr) (n c : Nat) (L : List NV), v = .agg #[.int .i64 s, .int .i64 r, .slice a n c] ∧ Nums W a n c L := by
  obtain ⟨v0, v1, v2, y0, y1, y2, n, rfl, _, _, t0, t1, t2⟩ := Go.Joins.open_agg3 Try.underlying24 (by kernel_rfl) (by kernel_rfl) hv h
  obtain ⟨n0, e0, _, _⟩ := DataW.trod_int Try.underlying3 t0
  obtain ⟨n1, e1, _, _⟩ := DataW.trod_int Try.underlying3 t1
  obtain ⟨a, n2, c, L, e2, h2⟩ := open_nrow t2
  simp at e0 e1
  subst e0 e1 e2
  exact ⟨n0, n1, a, n2, c, L, rfl, h2⟩
end
end Go.Proofs.Ytlglncnhhgofoaa

/-
  Sets of numbers below 256 as four words of 64 bits: plain numbers, no program in this text.
-/
namespace Go.Proofs.Ytlglncnhhgofoaa
open Go.RowKit

/-- The number whose n lowest bits are p's. -/
def natOf (p : Nat → Bool) : Nat → Nat
  | 0 => 0
  | n + 1 => natOf p n + if p n then 2 ^ n else 0

theorem natOf_lt (p : Nat → Bool) : ∀ n, natOf p n < 2 ^ n
  | 0 => by simp [natOf]
  | n + 1 => by have := natOf_lt p n; simp only [natOf, Nat.pow_succ]; split <;> omega

theorem natOf_bit (p : Nat → Bool) (j : Nat) : ∀ n, (natOf p n).testBit j = (decide (j < n) && p j)
  | 0 => by simp [natOf]
  | n + 1 => by
    have ih := natOf_bit p j n
    have hl := natOf_lt p n
    simp only [natOf]
    by_cases hp : p n = true
    · rw [if_pos hp, Nat.add_comm]
      rcases Nat.lt_trichotomy j n with h | h | h
      · rw [Nat.testBit_two_pow_add_gt h, ih]; simp [h, show j < n + 1 by omega]
      · subst h
        rw [Nat.testBit_two_pow_add_eq, ih]; simp [hp]
      · rw [Nat.testBit_lt_two_pow (i := j) (by
          have : 2 ^ (n + 1) ≤ 2 ^ j := Nat.pow_le_pow_right (by omega) h
          rw [Nat.pow_succ] at this; omega)]
        simp [show ¬ j < n + 1 by omega]
    · rw [if_neg hp, Nat.add_zero, ih]
      by_cases h : j = n
      · subst h; simp [hp]
      · simp [show (j < n + 1) = (j < n) by apply propext; omega]

theorem natOf_congr {p q : Nat → Bool} : ∀ {n}, (∀ j, j < n → p j = q j) → natOf p n = natOf q n
  | 0, _ => rfl
  | n + 1, h => by simp only [natOf]; rw [natOf_congr (fun j hj => h j (by omega)), h n (by omega)]

theorem natOf_self {x n : Nat} (h : x < 2 ^ n) : natOf x.testBit n = x := by
  apply Nat.eq_of_testBit_eq
  intro j
  rw [natOf_bit]
  by_cases hj : j < n
  · simp [hj]
  · have : 2 ^ n ≤ 2 ^ j := Nat.pow_le_pow_right (by omega) (by omega)
    simp [hj, Nat.testBit_lt_two_pow (x := x) (i := j) (by omega)]

/-- Word k of the set p. -/
def wd (p : Nat → Bool) (k : Nat) : Nat := natOf (fun j => p (64 * k + j)) 64

theorem wd_lt (p : Nat → Bool) (k : Nat) : wd p k < 18446744073709551616 := natOf_lt _ 64
theorem wd_lt' (p : Nat → Bool) (k : Nat) : wd p k < 2 ^ 64 := natOf_lt _ 64
theorem wd_bit (p : Nat → Bool) (k : Nat) {j : Nat} (h : j < 64) : (wd p k).testBit j = p (64 * k + j) := by
  unfold wd; rw [natOf_bit]; simp [h]
theorem wd_congr {p q : Nat → Bool} (h : ∀ i, i < 256 → p i = q i) {k : Nat} (hk : k < 4) : wd p k = wd q k :=
  natOf_congr fun j hj => h _ (by omega)

/-- The set that four words make. -/
def setOf (x0 x1 x2 x3 : Nat) (i : Nat) : Bool := if i < 64 then x0.testBit i else if i < 128 then x1.testBit (i - 64) else if i < 192 then x2.testBit (i - 128) else x3.testBit (i - 192)
theorem wd_setOf (x0 x1 x2 x3 : Nat) (h0 : x0 < 18446744073709551616) (h1 : x1 < 18446744073709551616) (h2 : x2 < 18446744073709551616) (h3 : x3 < 18446744073709551616) :
    wd (setOf x0 x1 x2 x3) 0 = x0 ∧ wd (setOf x0 x1 x2 x3) 1 = x1 ∧ wd (setOf x0 x1 x2 x3) 2 = x2 ∧ wd (setOf x0 x1 x2 x3) 3 = x3 := by
  refine ⟨?_, ?_, ?_, ?_⟩ <;> unfold wd
  · refine Eq.trans (natOf_congr fun j hj => ?_) (natOf_self (n := 64) h0)
    unfold setOf; rw [if_pos (by omega)]; simp
  · refine Eq.trans (natOf_congr fun j hj => ?_) (natOf_self (n := 64) h1)
    unfold setOf; rw [if_neg (by omega), if_pos (by omega)]; rw [show 64 * 1 + j - 64 = j by omega]
  · refine Eq.trans (natOf_congr fun j hj => ?_) (natOf_self (n := 64) h2)
    unfold setOf; rw [if_neg (by omega), if_neg (by omega), if_pos (by omega)]; rw [show 64 * 2 + j - 128 = j by omega]
  · refine Eq.trans (natOf_congr fun j hj => ?_) (natOf_self (n := 64) h3)
    unfold setOf; rw [if_neg (by omega), if_neg (by omega), if_neg (by omega)]; rw [show 64 * 3 + j - 192 = j by omega]

def orP (p q : Nat → Bool) (i : Nat) : Bool := p i || q i
def andP (p q : Nat → Bool) (i : Nat) : Bool := p i && q i
def minusP (p q : Nat → Bool) (i : Nat) : Bool := p i && !q i
def oneP (v : Int) (i : Nat) : Bool := decide ((i : Int) = v)
def noneP (_ : Nat) : Bool := false
def hasP (p : Nat → Bool) (v : Int) : Bool := decide (0 ≤ v ∧ v ≤ 255) && p v.toNat

theorem two64 : (18446744073709551616 : Nat) = 2 ^ 64 := by decide

theorem wd_ext {x : Nat} {p : Nat → Bool} {k : Nat} (hx : x < 18446744073709551616) (h : ∀ j, j < 64 → x.testBit j = p (64 * k + j)) : x = wd p k := by
  rw [← natOf_self (n := 64) hx]
  exact natOf_congr fun j hj => h j hj

theorem wd_or (p q : Nat → Bool) (k : Nat) : wd p k ||| wd q k = wd (orP p q) k :=
  wd_ext (Nat.or_lt_two_pow (n := 64) (wd_lt' p k) (wd_lt' q k)) fun j hj => by rw [Nat.testBit_or, wd_bit p k hj, wd_bit q k hj]; rfl
theorem wd_and (p q : Nat → Bool) (k : Nat) : wd p k &&& wd q k = wd (andP p q) k :=
  wd_ext (Nat.lt_of_le_of_lt Nat.and_le_left (wd_lt p k)) fun j hj => by rw [Nat.testBit_and, wd_bit p k hj, wd_bit q k hj]; rfl
theorem wd_minus (p q : Nat → Bool) (k : Nat) : wd p k &&& (18446744073709551615 - wd q k) = wd (minusP p q) k :=
  wd_ext (Nat.lt_of_le_of_lt Nat.and_le_left (wd_lt p k)) fun j hj => by
    have hq := wd_lt q k
    have e : 18446744073709551615 - wd q k = 2 ^ 64 - (wd q k + 1) := by rw [show (2 : Nat) ^ 64 = 18446744073709551616 by decide]; omega
    rw [Nat.testBit_and, wd_bit p k hj, e, Nat.testBit_two_pow_sub_succ (wd_lt' q k), wd_bit q k hj]
    simp [hj, minusP]

theorem wd_none (k : Nat) : wd noneP k = 0 := (wd_ext (p := noneP) (k := k) (by omega) (fun j _ => by simp [noneP])).symm

/-- One number alone. -/
theorem wd_one_at {k j : Nat} (hj : j < 64) : wd (oneP ((64 * k + j : Nat) : Int)) k = 2 ^ j :=
  (wd_ext (Nat.pow_lt_pow_right (a := 2) (by omega) hj) fun i hi => by
    rw [Nat.testBit_two_pow]; unfold oneP
    by_cases h : j = i
    · subst h; simp
    · rw [decide_eq_false h, eq_comm, decide_eq_false_iff_not]; omega).symm
theorem wd_one_far {v : Int} {k : Nat} (h : ∀ j : Nat, j < 64 → ((64 * k + j : Nat) : Int) ≠ v) : wd (oneP v) k = 0 :=
  (wd_ext (by omega) fun j hj => by unfold oneP; rw [decide_eq_false (h j hj)]; simp).symm

theorem natOf_put (p : Nat → Bool) (j : Nat) : ∀ n, natOf (fun i => p i || decide (i = j)) n = natOf p n + if j < n ∧ p j = false then 2 ^ j else 0
  | 0 => by simp [natOf]
  | n + 1 => by
    simp only [natOf]; rw [natOf_put p j n]
    by_cases h : n = j
    · subst h
      by_cases hp : p n = true
      · simp [hp]
      · simp [hp]
    · by_cases hl : j < n
      · have hl' : j < n + 1 := by omega
        simp only [hl, hl', true_and, decide_eq_false h, Bool.or_false]; omega
      · have hl' : ¬ j < n + 1 := by omega
        simp only [hl, hl', false_and, if_false, decide_eq_false h, Bool.or_false]; omega
theorem natOf_del (p : Nat → Bool) (j : Nat) : ∀ n, natOf (fun i => p i && !decide (i = j)) n + (if j < n ∧ p j = true then 2 ^ j else 0) = natOf p n
  | 0 => by simp [natOf]
  | n + 1 => by
    simp only [natOf]
    have ih := natOf_del p j n
    by_cases h : n = j
    · subst h
      by_cases hp : p n = true
      · simp [hp] at ih ⊢; omega
      · simp [hp] at ih ⊢; omega
    · by_cases hl : j < n
      · have hl' : j < n + 1 := by omega
        simp only [hl, hl', true_and, decide_eq_false h, Bool.not_false, Bool.and_true] at ih ⊢; omega
      · have hl' : ¬ j < n + 1 := by omega
        simp only [hl, hl', false_and, if_false, decide_eq_false h, Bool.not_false, Bool.and_true] at ih ⊢; omega

theorem wd_put {p : Nat → Bool} {k j : Nat} (hj : j < 64) (hp : p (64 * k + j) = false) : wd p k + 2 ^ j = wd (orP p (oneP ((64 * k + j : Nat) : Int))) k := by
  have h := natOf_put (fun i => p (64 * k + i)) j 64
  rw [if_pos ⟨hj, hp⟩] at h
  unfold wd; rw [← h]
  exact natOf_congr fun i _ => by
    unfold orP oneP
    rw [show decide (((64 * k + i : Nat) : Int) = ((64 * k + j : Nat) : Int)) = decide (i = j) from decide_eq_decide.2 (by omega)]
theorem wd_del {p : Nat → Bool} {k j : Nat} (hj : j < 64) (hp : p (64 * k + j) = true) : wd p k = wd (minusP p (oneP ((64 * k + j : Nat) : Int))) k + 2 ^ j := by
  have h := natOf_del (fun i => p (64 * k + i)) j 64
  rw [if_pos ⟨hj, hp⟩] at h
  unfold wd; rw [← h]
  congr 1
  exact natOf_congr fun i _ => by
    unfold minusP oneP
    rw [show decide (((64 * k + i : Nat) : Int) = ((64 * k + j : Nat) : Int)) = decide (i = j) from decide_eq_decide.2 (by omega)]

theorem wd_or_far {p : Nat → Bool} {v : Int} {k : Nat} (h : ∀ j : Nat, j < 64 → ((64 * k + j : Nat) : Int) ≠ v) : wd (orP p (oneP v)) k = wd p k :=
  natOf_congr fun j hj => by unfold orP oneP; rw [decide_eq_false (h j hj), Bool.or_false]
theorem wd_minus_far {p : Nat → Bool} {v : Int} {k : Nat} (h : ∀ j : Nat, j < 64 → ((64 * k + j : Nat) : Int) ≠ v) : wd (minusP p (oneP v)) k = wd p k :=
  natOf_congr fun j hj => by unfold minusP oneP; rw [decide_eq_false (h j hj), Bool.not_false, Bool.and_true]

theorem wd_ne {p q : Nat → Bool} {k j : Nat} (hj : j < 64) (h : p (64 * k + j) ≠ q (64 * k + j)) : wd p k ≠ wd q k := fun e => h (by rw [← wd_bit p k hj, ← wd_bit q k hj, e])

/-- One bit, read by shifting and masking. -/
theorem bit_read (x j : Nat) : x / 2 ^ j % 2 = if x.testBit j then 1 else 0 := by
  rw [Nat.testBit_eq_decide_div_mod_eq]
  have : x / 2 ^ j % 2 < 2 := Nat.mod_lt _ (by omega)
  by_cases h : x / 2 ^ j % 2 = 1 <;> simp [h]
  omega

end Go.Proofs.Ytlglncnhhgofoaa

/-
  How many bits of a word are 1, as the masks and shifts of the library's text reckon it: plain numbers, no program in this text.
-/
namespace Go.Proofs.Ytlglncnhhgofoaa

/-- How many of p's first n are true. -/
def cntN (p : Nat → Bool) : Nat → Nat
  | 0 => 0
  | n + 1 => cntN p n + if p n then 1 else 0
theorem cntN_le (p : Nat → Bool) : ∀ n, cntN p n ≤ n
  | 0 => Nat.le_refl _
  | n + 1 => by have := cntN_le p n; simp only [cntN]; split <;> omega
theorem cntN_congr {p q : Nat → Bool} : ∀ {n}, (∀ j, j < n → p j = q j) → cntN p n = cntN q n
  | 0, _ => rfl
  | n + 1, h => by simp only [cntN]; rw [cntN_congr (fun j hj => h j (by omega)), h n (by omega)]
theorem cntN_add (p : Nat → Bool) (m : Nat) : ∀ n, cntN p (m + n) = cntN p m + cntN (fun j => p (m + j)) n
  | 0 => rfl
  | n + 1 => by
    have := cntN_add p m n
    rw [← Nat.add_assoc]
    simp only [cntN]; omega

def M (d : Nat) : Nat → Nat
  | 0 => 0
  | n + 1 => 256 * M d n + d
theorem M_succ (d n : Nat) : M d (n + 1) = 256 * M d n + d := rfl
def sA (x n : Nat) : Nat := (x / 2 &&& M 0x55 n) + (x &&& M 0x55 n)
def sB (x n : Nat) : Nat := (x / 4 &&& M 0x33 n) + (x &&& M 0x33 n)
def sC (x n : Nat) : Nat := (x / 16 + x) &&& M 0x0f n
def pops (x : Nat) : Nat → Nat
  | 0 => 0
  | n + 1 => 256 * pops (x / 256) n + cntN x.testBit 8

theorem and_parts (a b c d : Nat) (hb : b < 256) (hd : d < 256) : (256 * a + b) &&& (256 * c + d) = 256 * (a &&& c) + (b &&& d) := by
  have h1 := Nat.and_div_two_pow (a := 256 * a + b) (b := 256 * c + d) (n := 8)
  have h2 := Nat.and_mod_two_pow (a := 256 * a + b) (b := 256 * c + d) (n := 8)
  have e1 : (256 * a + b) / 2 ^ 8 = a := by rw [show (2 : Nat) ^ 8 = 256 by decide]; omega
  have e2 : (256 * c + d) / 2 ^ 8 = c := by rw [show (2 : Nat) ^ 8 = 256 by decide]; omega
  have e3 : (256 * a + b) % 2 ^ 8 = b := by rw [show (2 : Nat) ^ 8 = 256 by decide]; omega
  have e4 : (256 * c + d) % 2 ^ 8 = d := by rw [show (2 : Nat) ^ 8 = 256 by decide]; omega
  rw [e1, e2] at h1
  rw [e3, e4] at h2
  rw [show (2 : Nat) ^ 8 = 256 by decide] at h1 h2
  generalize a &&& c = u at *
  generalize b &&& d = v at *
  generalize (256 * a + b) &&& (256 * c + d) = z at *
  omega

def bA (d : Nat) : Nat := (d / 2 &&& 0x55) + (d &&& 0x55)
def bB (d : Nat) : Nat := (d / 4 &&& 0x33) + (d &&& 0x33)
theorem bA_far : ∀ r, r < 2 → ∀ d, d < 256 → (128 * r + d / 2) &&& 0x55 = (d / 2 &&& 0x55) := by decide +kernel
theorem bB_far : ∀ r, r < 4 → ∀ d, d < 256 → (64 * r + d / 4) &&& 0x33 = (d / 4 &&& 0x33) := by decide +kernel
theorem bA_lt : ∀ d, d < 256 → bA d < 256 := by decide +kernel
theorem bB_lt : ∀ d, d < 256 → bB (bA d) < 256 ∧ bB (bA d) % 16 ≤ 4 := by decide +kernel
theorem bC_all : ∀ d, d < 256 → ∀ r, r < 5 → (16 * r + bB (bA d) / 16 + bB (bA d)) < 256 ∧ (16 * r + bB (bA d) / 16 + bB (bA d)) &&& 0x0f = cntN d.testBit 8 := by decide +kernel

theorem sA_step (y d n : Nat) (hd : d < 256) : sA (256 * y + d) (n + 1) = 256 * sA y n + bA d := by
  have e : (256 * y + d) / 2 = 256 * (y / 2) + (128 * (y % 2) + d / 2) := by omega
  have f := bA_far (y % 2) (by omega) d hd
  unfold sA bA
  rw [M_succ, e, and_parts _ _ _ _ (by omega) (by omega), and_parts _ _ _ _ hd (by omega), f]
  omega
theorem sB_step (y d n : Nat) (hd : d < 256) : sB (256 * y + d) (n + 1) = 256 * sB y n + bB d := by
  have e : (256 * y + d) / 4 = 256 * (y / 4) + (64 * (y % 4) + d / 4) := by omega
  have f := bB_far (y % 4) (by omega) d hd
  unfold sB bB
  rw [M_succ, e, and_parts _ _ _ _ (by omega) (by omega), and_parts _ _ _ _ hd (by omega), f]
  omega
theorem sC_step (y d n : Nat) (h : 16 * (y % 16) + d / 16 + d < 256) : sC (256 * y + d) (n + 1) = 256 * sC y n + ((16 * (y % 16) + d / 16 + d) &&& 0x0f) := by
  have e : (256 * y + d) / 16 + (256 * y + d) = 256 * (y / 16 + y) + (16 * (y % 16) + d / 16 + d) := by omega
  unfold sC
  rw [M_succ, e, and_parts _ _ _ _ h (by omega)]

theorem low_bits (x : Nat) : cntN x.testBit 8 = cntN (x % 256).testBit 8 :=
  cntN_congr fun j hj => by rw [show (256 : Nat) = 2 ^ 8 by decide, Nat.testBit_mod_two_pow]; simp [hj]

theorem steps : ∀ n x, sC (sB (sA x n) n) n = pops x n ∧ sB (sA x n) n % 16 ≤ 4
  | 0, x => by simp [sC, sB, M, pops]
  | n + 1, x => by
    obtain ⟨h1, h2⟩ := steps n (x / 256)
    have hx : x = 256 * (x / 256) + x % 256 := by omega
    have hd : x % 256 < 256 := Nat.mod_lt _ (by omega)
    have a := bA_lt _ hd
    obtain ⟨b1, b2⟩ := bB_lt _ hd
    obtain ⟨c1, c2⟩ := bC_all _ hd _ (show sB (sA (x / 256) n) n % 16 < 5 by omega)
    have eA : sA x (n + 1) = 256 * sA (x / 256) n + bA (x % 256) := by
      rw [← sA_step _ _ _ hd, ← hx]
    rw [eA, sB_step _ _ _ a, sC_step _ _ _ c1, h1, c2]
    refine ⟨?_, by omega⟩
    show _ = 256 * pops (x / 256) n + cntN x.testBit 8
    rw [low_bits x]

theorem high_bits (x n : Nat) : cntN x.testBit (8 + n) = cntN x.testBit 8 + cntN (x / 256).testBit n := by
  rw [cntN_add]
  congr 1
  exact cntN_congr fun j _ => by rw [show (256 : Nat) = 2 ^ 8 by decide, Nat.testBit_div_two_pow, Nat.add_comm]

theorem fold64 (x : Nat) : cntN x.testBit 64 < 128 ∧ ∃ b0 b1 b2 b3 b4 b5 b6 b7 : Nat, pops x 8 = b0 + 256 * (b1 + 256 * (b2 + 256 * (b3 + 256 * (b4 + 256 * (b5 + 256 * (b6 + 256 * b7)))))) ∧ b0 ≤ 8 ∧ b1 ≤ 8 ∧ b2 ≤ 8 ∧ b3 ≤ 8 ∧ b4 ≤ 8 ∧ b5 ≤ 8 ∧ b6 ≤ 8 ∧ b7 ≤ 8 ∧ cntN x.testBit 64 = b0 + b1 + b2 + b3 + b4 + b5 + b6 + b7 := by
  have l := fun y : Nat => cntN_le y.testBit 8
  refine ⟨by have := cntN_le x.testBit 64; omega, _, _, _, _, _, _, _, _, ?_, l x, l (x / 256), l (x / 256 / 256), l (x / 256 / 256 / 256), l (x / 256 / 256 / 256 / 256), l (x / 256 / 256 / 256 / 256 / 256), l (x / 256 / 256 / 256 / 256 / 256 / 256), l (x / 256 / 256 / 256 / 256 / 256 / 256 / 256), ?_⟩
  · simp only [pops]; omega
  · rw [high_bits x 56, high_bits _ 48, high_bits _ 40, high_bits _ 32, high_bits _ 24, high_bits _ 16, high_bits _ 8]; omega

theorem div_part {A B c : Nat} (h : A < c) : (A + c * B) / c = B := by
  rw [Nat.add_mul_div_left _ _ (by omega), Nat.div_eq_of_lt h, Nat.zero_add]

theorem lin1 (b0 b1 b2 b3 b4 b5 b6 b7 : Nat) : (b0 + 256 * (b1 + 256 * (b2 + 256 * (b3 + 256 * (b4 + 256 * (b5 + 256 * (b6 + 256 * b7))))))) + (b1 + 256 * (b2 + 256 * (b3 + 256 * (b4 + 256 * (b5 + 256 * (b6 + 256 * b7)))))) = ((b0 + b1) + 256 * (b1 + b2)) + 65536 * ((b2 + b3) + 256 * (b3 + b4) + 65536 * ((b4 + b5) + 256 * (b5 + b6) + 65536 * ((b6 + b7) + 256 * b7))) := by omega
theorem lin2 (b0 b1 b2 b3 b4 b5 b6 b7 : Nat) : ((b0 + b1) + 256 * (b1 + b2)) + 65536 * ((b2 + b3) + 256 * (b3 + b4) + 65536 * ((b4 + b5) + 256 * (b5 + b6) + 65536 * ((b6 + b7) + 256 * b7))) + ((b2 + b3) + 256 * (b3 + b4) + 65536 * ((b4 + b5) + 256 * (b5 + b6) + 65536 * ((b6 + b7) + 256 * b7))) = ((b0 + b1 + b2 + b3) + 256 * (b1 + b2 + b3 + b4) + 65536 * ((b2 + b3 + b4 + b5) + 256 * (b3 + b4 + b5 + b6))) + 4294967296 * ((b4 + b5 + b6 + b7) + 256 * (b5 + b6 + b7) + 65536 * ((b6 + b7) + 256 * b7)) := by omega
theorem lin3 (b0 b1 b2 b3 b4 b5 b6 b7 : Nat) : ((b0 + b1 + b2 + b3) + 256 * (b1 + b2 + b3 + b4) + 65536 * ((b2 + b3 + b4 + b5) + 256 * (b3 + b4 + b5 + b6))) + 4294967296 * ((b4 + b5 + b6 + b7) + 256 * (b5 + b6 + b7) + 65536 * ((b6 + b7) + 256 * b7)) + ((b4 + b5 + b6 + b7) + 256 * (b5 + b6 + b7) + 65536 * ((b6 + b7) + 256 * b7)) = (b0 + b1 + b2 + b3 + b4 + b5 + b6 + b7) + 128 * (2 * ((b1 + b2 + b3 + b4 + b5 + b6 + b7) + 256 * (b2 + b3 + b4 + b5 + b6 + b7) + 65536 * (b3 + b4 + b5 + b6 + b7) + 16777216 * ((b4 + b5 + b6 + b7) + 256 * (b5 + b6 + b7) + 65536 * ((b6 + b7) + 256 * b7)))) := by omega

/-- The last steps: the eight bytes are added up. -/
theorem sum_bytes (y b0 b1 b2 b3 b4 b5 b6 b7 : Nat) (e : y = b0 + 256 * (b1 + 256 * (b2 + 256 * (b3 + 256 * (b4 + 256 * (b5 + 256 * (b6 + 256 * b7)))))))
    (h0 : b0 ≤ 8) (h1 : b1 ≤ 8) (h2 : b2 ≤ 8) (h3 : b3 ≤ 8) (h4 : b4 ≤ 8) (h5 : b5 ≤ 8) (h6 : b6 ≤ 8) (h7 : b7 ≤ 8) :
    ∃ y1 y2 y3, y1 = y + y / 256 ∧ y2 = y1 + y1 / 65536 ∧ y3 = y2 + y2 / 4294967296 ∧ y < 18446744073709551616 ∧ y1 < 18446744073709551616 ∧ y2 < 18446744073709551616 ∧ y3 < 9223372036854775808 ∧ y3 % 128 = b0 + b1 + b2 + b3 + b4 + b5 + b6 + b7 := by
  have e1 : y / 256 = b1 + 256 * (b2 + 256 * (b3 + 256 * (b4 + 256 * (b5 + 256 * (b6 + 256 * b7))))) := by rw [e]; exact div_part (by omega)
  obtain ⟨y1, hy1⟩ : ∃ y1, y1 = y + y / 256 := ⟨_, rfl⟩
  have f1 : y1 = ((b0 + b1) + 256 * (b1 + b2)) + 65536 * ((b2 + b3) + 256 * (b3 + b4) + 65536 * ((b4 + b5) + 256 * (b5 + b6) + 65536 * ((b6 + b7) + 256 * b7))) := by rw [hy1, e1, e]; exact lin1 ..
  have g1 : y1 / 65536 = (b2 + b3) + 256 * (b3 + b4) + 65536 * ((b4 + b5) + 256 * (b5 + b6) + 65536 * ((b6 + b7) + 256 * b7)) := by rw [f1]; exact div_part (by omega)
  obtain ⟨y2, hy2⟩ : ∃ y2, y2 = y1 + y1 / 65536 := ⟨_, rfl⟩
  have f2 : y2 = ((b0 + b1 + b2 + b3) + 256 * (b1 + b2 + b3 + b4) + 65536 * ((b2 + b3 + b4 + b5) + 256 * (b3 + b4 + b5 + b6))) + 4294967296 * ((b4 + b5 + b6 + b7) + 256 * (b5 + b6 + b7) + 65536 * ((b6 + b7) + 256 * b7)) := by rw [hy2, g1, f1]; exact lin2 ..
  have g2 : y2 / 4294967296 = (b4 + b5 + b6 + b7) + 256 * (b5 + b6 + b7) + 65536 * ((b6 + b7) + 256 * b7) := by rw [f2]; exact div_part (by omega)
  obtain ⟨y3, hy3⟩ : ∃ y3, y3 = y2 + y2 / 4294967296 := ⟨_, rfl⟩
  have f3 : y3 = (b0 + b1 + b2 + b3 + b4 + b5 + b6 + b7) + 128 * (2 * ((b1 + b2 + b3 + b4 + b5 + b6 + b7) + 256 * (b2 + b3 + b4 + b5 + b6 + b7) + 65536 * (b3 + b4 + b5 + b6 + b7) + 16777216 * ((b4 + b5 + b6 + b7) + 256 * (b5 + b6 + b7) + 65536 * ((b6 + b7) + 256 * b7)))) := by rw [hy3, g2, f2]; exact lin3 ..
  have k0 : y < 18446744073709551616 := by rw [e]; clear e e1 hy1 f1 g1 hy2 f2 g2 hy3 f3; omega
  have k1 : y1 < 18446744073709551616 := by rw [f1]; clear e e1 hy1 f1 g1 hy2 f2 g2 hy3 f3; omega
  have k2 : y2 < 18446744073709551616 := by rw [f2]; clear e e1 hy1 f1 g1 hy2 f2 g2 hy3 f3; omega
  have k3 : y3 < 9223372036854775808 := by rw [f3]; clear e e1 hy1 f1 g1 hy2 f2 g2 hy3 f3; omega
  have km : y3 % 128 = b0 + b1 + b2 + b3 + b4 + b5 + b6 + b7 := by rw [f3, Nat.add_mul_mod_self_left, Nat.mod_eq_of_lt (by clear e e1 hy1 f1 g1 hy2 f2 g2 hy3 f3 k0 k1 k2 k3; omega)]
  exact ⟨y1, y2, y3, hy1, hy2, hy3, k0, k1, k2, k3, km⟩

theorem M55 : M 0x55 8 = 6148914691236517205 := by decide +kernel
theorem M33 : M 0x33 8 = 3689348814741910323 := by decide +kernel
theorem M0f : M 0x0f 8 = 1085102592571150095 := by decide +kernel

/-- All the steps, with what they need to be: none of them passes 64 bits. -/
theorem pop_steps (x : Nat) : ∃ a b c d e f : Nat,
    (x / 2 &&& 6148914691236517205) + (x &&& 6148914691236517205) = a ∧ a < 18446744073709551616 ∧
    (a / 4 &&& 3689348814741910323) + (a &&& 3689348814741910323) = b ∧ b < 18446744073709551616 ∧ b / 16 + b < 18446744073709551616 ∧
    (b / 16 + b) &&& 1085102592571150095 = c ∧ c + c / 256 = d ∧ d + d / 65536 = e ∧ e + e / 4294967296 = f ∧
    c < 18446744073709551616 ∧ d < 18446744073709551616 ∧ e < 18446744073709551616 ∧ f < 9223372036854775808 ∧ f % 128 = cntN x.testBit 64 := by
  obtain ⟨h1, _⟩ := steps 8 x
  obtain ⟨_, b0, b1, b2, b3, b4, b5, b6, b7, hp, l0, l1, l2, l3, l4, l5, l6, l7, hs⟩ := fold64 x
  obtain ⟨y1, y2, y3, e1, e2, e3, k0, k1, k2, k3, hm⟩ := sum_bytes _ b0 b1 b2 b3 b4 b5 b6 b7 hp l0 l1 l2 l3 l4 l5 l6 l7
  have q1 : ∀ z : Nat, (z &&& 6148914691236517205) ≤ 6148914691236517205 := fun z => Nat.and_le_right
  have q2 : ∀ z : Nat, (z &&& 3689348814741910323) ≤ 3689348814741910323 := fun z => Nat.and_le_right
  have r1 := q1 (x / 2); have r2 := q1 x
  refine ⟨sA x 8, sB (sA x 8) 8, pops x 8, y1, y2, y3, by unfold sA; rw [M55], ?_, by unfold sB; rw [M33], ?_, ?_, by rw [← h1]; unfold sC; rw [M0f], e1.symm, e2.symm, e3.symm, k0, k1, k2, k3, by rw [hm, hs]⟩
  · unfold sA; rw [M55]; generalize x / 2 &&& 6148914691236517205 = u at *; generalize x &&& 6148914691236517205 = v at *; omega
  · have r3 := q2 (sA x 8 / 4); have r4 := q2 (sA x 8)
    unfold sB; rw [M33]; generalize sA x 8 / 4 &&& 3689348814741910323 = u at *; generalize sA x 8 &&& 3689348814741910323 = v at *; omega
  · have r3 := q2 (sA x 8 / 4); have r4 := q2 (sA x 8)
    unfold sB; rw [M33]; generalize sA x 8 / 4 &&& 3689348814741910323 = u at *; generalize sA x 8 &&& 3689348814741910323 = v at *; omega

end Go.Proofs.Ytlglncnhhgofoaa

/-
  What stands in memory, carried through calls, new blocks and stores; blocks of four words.
-/
namespace Go.Proofs.Ytlglncnhhgofoaa
open Go.RowKit

theorem bcell {W w1 : World} (hb : Below W.heap.size W w1) : (∀ b o, b < W.heap.size → w1.cell? ⟨b, o, none⟩ = W.cell? ⟨b, o, none⟩) ∧ (∀ b o, b < W.heap.size → w1.frozen? ⟨b, o, none⟩ = W.frozen? ⟨b, o, none⟩) :=
  ⟨fun b o h => hb.cell (p := ⟨b, o, none⟩) h, fun b o h => hb.frozen (p := ⟨b, o, none⟩) h⟩

/-- A cell that was there reads as it did. -/
theorem l_kept_cell {w w' : World} (hb : Below w.heap.size w w') {b o : Nat} {v : Value} (h : w.cell? ⟨b, o, none⟩ = some v) : w'.cell? ⟨b, o, none⟩ = some v := by
  rw [hb.cell (p := ⟨b, o, none⟩) (block_of_cell h)]; exact h
theorem kept_frozen {w w' : World} (hb : Below w.heap.size w w') {b o : Nat} {v : Value} (h : w.cell? ⟨b, o, none⟩ = some v) (hf : w.frozen? ⟨b, o, none⟩ = false) : w'.frozen? ⟨b, o, none⟩ = false := by
  rw [hb.frozen (p := ⟨b, o, none⟩) (block_of_cell h)]; exact hf

/-- A block of four words, none of them frozen. -/
structure Four (w : World) (b : Nat) (x0 x1 x2 x3 : Nat) : Prop where
  c0 : w.cell? ⟨b, 0, none⟩ = some (.int .u64 x0)
  c1 : w.cell? ⟨b, 1, none⟩ = some (.int .u64 x1)
  c2 : w.cell? ⟨b, 2, none⟩ = some (.int .u64 x2)
  c3 : w.cell? ⟨b, 3, none⟩ = some (.int .u64 x3)
  f0 : w.frozen? ⟨b, 0, none⟩ = false
  f1 : w.frozen? ⟨b, 1, none⟩ = false
  f2 : w.frozen? ⟨b, 2, none⟩ = false
  f3 : w.frozen? ⟨b, 3, none⟩ = false

theorem Four.kept {w w' : World} {b x0 x1 x2 x3 : Nat} (h : Four w b x0 x1 x2 x3) (hb : Below w.heap.size w w') : Four w' b x0 x1 x2 x3 :=
  ⟨l_kept_cell hb h.c0, l_kept_cell hb h.c1, l_kept_cell hb h.c2, l_kept_cell hb h.c3, kept_frozen hb h.c0 h.f0, kept_frozen hb h.c1 h.f1, kept_frozen hb h.c2 h.f2, kept_frozen hb h.c3 h.f3⟩
theorem Four.lt {w : World} {b x0 x1 x2 x3 : Nat} (h : Four w b x0 x1 x2 x3) : b < w.heap.size := block_of_cell h.c0
theorem Four.alloc {w : World} {b x0 x1 x2 x3 : Nat} (h : Four w b x0 x1 x2 x3) (o : Obj) : Four (w.alloc o) b x0 x1 x2 x3 := h.kept ((Below.refl _ _).alloc (Nat.le_refl _) o)
theorem Four.new (w : World) (x0 x1 x2 x3 : Nat) (T : TypeId) : Four (w.alloc (.cells #[.int .u64 x0, .int .u64 x1, .int .u64 x2, .int .u64 x3] T)) w.heap.size x0 x1 x2 x3 :=
  ⟨by simp, by simp, by simp, by simp, by simp, by simp, by simp, by simp⟩
theorem Four.far {w : World} {b x0 x1 x2 x3 : Nat} (h : Four w b x0 x1 x2 x3) {p : Addr} (hp : b ≠ p.block) (v : Value) : Four (w.setCell p v) b x0 x1 x2 x3 := by
  have e : ∀ o, (⟨b, o, none⟩ : Addr) ≠ p := fun o e => hp (by rw [← e])
  refine ⟨?_, ?_, ?_, ?_, ?_, ?_, ?_, ?_⟩
  · rw [World.cell?_setCell_other _ _ _ _ (fun e2 => e 0 e2.symm)]; exact h.c0
  · rw [World.cell?_setCell_other _ _ _ _ (fun e2 => e 1 e2.symm)]; exact h.c1
  · rw [World.cell?_setCell_other _ _ _ _ (fun e2 => e 2 e2.symm)]; exact h.c2
  · rw [World.cell?_setCell_other _ _ _ _ (fun e2 => e 3 e2.symm)]; exact h.c3
  · simp; exact h.f0
  · simp; exact h.f1
  · simp; exact h.f2
  · simp; exact h.f3
theorem Four.set0 {w : World} {b x0 x1 x2 x3 : Nat} (h : Four w b x0 x1 x2 x3) (v : Nat) : Four (w.setCell ⟨b, 0, none⟩ (.int .u64 v)) b v x1 x2 x3 := by
  refine ⟨World.cell?_setCell_same _ _ _ h.c0, ?_, ?_, ?_, ?_, ?_, ?_, ?_⟩
  · rw [World.cell?_setCell_other _ _ _ _ (by simp)]; exact h.c1
  · rw [World.cell?_setCell_other _ _ _ _ (by simp)]; exact h.c2
  · rw [World.cell?_setCell_other _ _ _ _ (by simp)]; exact h.c3
  · simp; exact h.f0
  · simp; exact h.f1
  · simp; exact h.f2
  · simp; exact h.f3
theorem Four.set1 {w : World} {b x0 x1 x2 x3 : Nat} (h : Four w b x0 x1 x2 x3) (v : Nat) : Four (w.setCell ⟨b, 1, none⟩ (.int .u64 v)) b x0 v x2 x3 := by
  refine ⟨?_, World.cell?_setCell_same _ _ _ h.c1, ?_, ?_, ?_, ?_, ?_, ?_⟩
  · rw [World.cell?_setCell_other _ _ _ _ (by simp)]; exact h.c0
  · rw [World.cell?_setCell_other _ _ _ _ (by simp)]; exact h.c2
  · rw [World.cell?_setCell_other _ _ _ _ (by simp)]; exact h.c3
  · simp; exact h.f0
  · simp; exact h.f1
  · simp; exact h.f2
  · simp; exact h.f3
theorem Four.set2 {w : World} {b x0 x1 x2 x3 : Nat} (h : Four w b x0 x1 x2 x3) (v : Nat) : Four (w.setCell ⟨b, 2, none⟩ (.int .u64 v)) b x0 x1 v x3 := by
  refine ⟨?_, ?_, World.cell?_setCell_same _ _ _ h.c2, ?_, ?_, ?_, ?_, ?_⟩
  · rw [World.cell?_setCell_other _ _ _ _ (by simp)]; exact h.c0
  · rw [World.cell?_setCell_other _ _ _ _ (by simp)]; exact h.c1
  · rw [World.cell?_setCell_other _ _ _ _ (by simp)]; exact h.c3
  · simp; exact h.f0
  · simp; exact h.f1
  · simp; exact h.f2
  · simp; exact h.f3
theorem Four.set3 {w : World} {b x0 x1 x2 x3 : Nat} (h : Four w b x0 x1 x2 x3) (v : Nat) : Four (w.setCell ⟨b, 3, none⟩ (.int .u64 v)) b x0 x1 x2 v := by
  refine ⟨?_, ?_, ?_, World.cell?_setCell_same _ _ _ h.c3, ?_, ?_, ?_, ?_⟩
  · rw [World.cell?_setCell_other _ _ _ _ (by simp)]; exact h.c0
  · rw [World.cell?_setCell_other _ _ _ _ (by simp)]; exact h.c1
  · rw [World.cell?_setCell_other _ _ _ _ (by simp)]; exact h.c2
  · simp; exact h.f0
  · simp; exact h.f1
  · simp; exact h.f2
  · simp; exact h.f3

/-- A set is stored whole. -/
def set4 (w : World) (b x0 x1 x2 x3 : Nat) : World := (((w.setCell ⟨b, 0, none⟩ (.int .u64 x0)).setCell ⟨b, 1, none⟩ (.int .u64 x1)).setCell ⟨b, 2, none⟩ (.int .u64 x2)).setCell ⟨b, 3, none⟩ (.int .u64 x3)
theorem Four.set4 {w : World} {b y0 y1 y2 y3 : Nat} (h : Four w b y0 y1 y2 y3) (x0 x1 x2 x3 : Nat) : Four (set4 w b x0 x1 x2 x3) b x0 x1 x2 x3 := (((h.set0 x0).set1 x1).set2 x2).set3 x3
theorem Four.far4 {w : World} {b d y0 y1 y2 y3 : Nat} (h : Four w b y0 y1 y2 y3) (hne : b ≠ d) (x0 x1 x2 x3 : Nat) : Four (Go.Proofs.Ytlglncnhhgofoaa.set4 w d x0 x1 x2 x3) b y0 y1 y2 y3 :=
  (((h.far (p := ⟨d, 0, none⟩) hne _).far (p := ⟨d, 1, none⟩) hne _).far (p := ⟨d, 2, none⟩) hne _).far (p := ⟨d, 3, none⟩) hne _
theorem below_set4 {B : Nat} {W w : World} {d : Nat} (h : Below B W w) (hd : B ≤ d) (x0 x1 x2 x3 : Nat) : Below B W (set4 w d x0 x1 x2 x3) :=
  (((h.setCell (p := ⟨d, 0, none⟩) hd _).setCell (p := ⟨d, 1, none⟩) hd _).setCell (p := ⟨d, 2, none⟩) hd _).setCell (p := ⟨d, 3, none⟩) hd _
theorem set4_size (w : World) (b x0 x1 x2 x3 : Nat) : (set4 w b x0 x1 x2 x3).heap.size = w.heap.size := by simp [set4]

theorem cell_same {w w1 : World} (e : w1.heap = w.heap) (a : Addr) : w1.cell? a = w.cell? a := by unfold World.cell?; rw [e]
theorem frozen_same {w w1 : World} (e : w1.heap = w.heap) (a : Addr) : w1.frozen? a = w.frozen? a := by unfold World.frozen?; rw [e]
/-- The same, where the walk has drawn in between. -/
theorem Four.next {w w1 w2 : World} {b x0 x1 x2 x3 : Nat} (hb : Below w1.heap.size w1 w2) (h : Four w b x0 x1 x2 x3) (e : w1.heap = w.heap := by rfl) : Four w2 b x0 x1 x2 x3 := by
  refine Four.kept ?_ hb
  exact ⟨by rw [cell_same e]; exact h.c0, by rw [cell_same e]; exact h.c1, by rw [cell_same e]; exact h.c2, by rw [cell_same e]; exact h.c3, by rw [frozen_same e]; exact h.f0, by rw [frozen_same e]; exact h.f1, by rw [frozen_same e]; exact h.f2, by rw [frozen_same e]; exact h.f3⟩
theorem below_next {B : Nat} {W w w1 w2 : World} (hb : Below w1.heap.size w1 w2) (h : Below B W w) (hB : B ≤ W.heap.size) (e : w1.heap = w.heap := by rfl) (e1 : w1.os = w.os := by rfl) (e2 : w1.tape = w.tape := by rfl) (e3 : w1.output = w.output := by rfl) : Below B W w2 := by
  have hs : w1.heap.size = w.heap.size := by rw [e]
  have h1 : Below B W w1 := ⟨e1.trans h.os, e2.trans h.tape, e3.trans h.output, by rw [hs]; exact h.size, fun k hk => by rw [e]; exact h.block k hk⟩
  exact h1.trans (hb.mono (by rw [hs]; exact Nat.le_trans hB h.size))

/-- A slice of integers that came in. -/
def IsRow (k : IntKind) (w : World) (a : Option Addr) (len cap : Nat) (zs : List Int) : Prop :=
  (a = none ∧ len = 0 ∧ cap = 0 ∧ zs = []) ∨
  ∃ x, a = some x ∧ len ≤ cap ∧ cap ≤ maxLen ∧ zs.length = cap ∧ (∀ i, i < zs.length → w.cell? (x.add i) = some (.int k (zs.getD i 0))) ∧ ∀ n ∈ zs, (Lit.int k n).wf = true

/-- A row of ints that lies below block B. -/
def Reads (w : World) (B : Nat) (a : Option Addr) (zs : List Int) : Prop :=
  zs = [] ∨ ∃ b off, a = some ⟨b, off, none⟩ ∧ b < B ∧ ∀ k, k < zs.length → w.cell? ⟨b, off + k, none⟩ = some (.int .i64 (zs.getD k 0))

theorem Reads.below {w w' : World} {B : Nat} {a : Option Addr} {zs : List Int} (h : Reads w B a zs) (hb : Below B w w') : Reads w' B a zs := by
  rcases h with h | ⟨b, off, h1, h2, h3⟩
  · exact .inl h
  · exact .inr ⟨b, off, h1, h2, fun k hk => by rw [hb.cell (p := ⟨b, off + k, none⟩) h2]; exact h3 k hk⟩
theorem Reads.up {w : World} {B B' : Nat} {ao : Option Addr} {zs : List Int} (h : Reads w B ao zs) (hB : B ≤ B') : Reads w B' ao zs := by
  rcases h with h | ⟨b, off, h1, h2, h3⟩
  · exact .inl h
  · exact .inr ⟨b, off, h1, by omega, h3⟩
theorem Reads.later {w w' : World} {B : Nat} {ao : Option Addr} {zs : List Int} (h : Reads w B ao zs) (hB : B ≤ w.heap.size) (hb : Below B w w') : Reads w' w'.heap.size ao zs :=
  (h.below hb).up (Nat.le_trans hB hb.size)

theorem getD_take (zs : List Int) (n k : Nat) (h : k < n) : (zs.take n).getD k 0 = zs.getD k 0 := by
  simp only [List.getD_eq_getElem?_getD, List.getElem?_take, if_pos h]
theorem Reads.take {w : World} {B : Nat} {ao : Option Addr} {zs : List Int} (h : Reads w B ao zs) (n : Nat) : Reads w B ao (zs.take n) := by
  rcases h with h | ⟨b, off, h1, h2, h3⟩
  · left; rw [h]; simp
  · right
    refine ⟨b, off, h1, h2, fun k hk => ?_⟩
    rw [List.length_take] at hk
    rw [getD_take _ _ _ (by omega)]
    exact h3 k (by omega)

theorem isrow_reads {w : World} {a : Option Addr} {len cap : Nat} {z : List Int} (h : IsRow .i64 w a len cap z) :
    Reads w w.heap.size a (z.take len) ∧ (z.take len).length = len ∧ (len : Int) ≤ 9223372036854775807 ∧ len ≤ cap ∧ (cap : Int) ≤ 9223372036854775807 ∧ ∀ x ∈ z.take len, (Lit.int .i64 x).wf = true := by
  rcases h with ⟨rfl, rfl, rfl, rfl⟩ | ⟨x, rfl, h1, h2, h3, h4, h5⟩
  · exact ⟨.inl rfl, rfl, by omega, by omega, by omega, by simp⟩
  · have hl : (z.take len).length = len := by rw [List.length_take]; omega
    refine ⟨?_, hl, by unfold maxLen at h2; omega, h1, by unfold maxLen at h2; omega, fun y hy => h5 y (List.mem_of_mem_take hy)⟩
    rcases Nat.eq_zero_or_pos len with e | e
    · left; rw [e]; simp
    · right
      have h0 := h4 0 (by omega)
      rcases x with ⟨b, off, spot⟩
      have hs : spot = none := by
        cases spot with
        | none => rfl
        | some s => simp [World.cell?, Addr.add] at h0; split at h0 <;> simp at h0
      subst hs
      refine ⟨b, off, rfl, block_of_cell h0, fun k hk => ?_⟩
      rw [getD_take _ _ _ (by omega)]
      have e : (⟨b, off, none⟩ : Addr).add k = ⟨b, off + k, none⟩ := by
        unfold Addr.add; split <;> simp_all
      rw [← e]
      exact h4 k (by omega)

theorem Calls.under {P : Program} {f : FuncId} {args : Array Value} {B : Nat} {W w : World} {R : Ending → Prop} (hb : Below B W w) (hB : B ≤ W.heap.size)
    (h : Calls P f args w fun e w' => R e ∧ Below w.heap.size w w') : Calls P f args w fun e w' => R e ∧ Below B W w' :=
  h.mono fun _ _ ⟨h1, h2⟩ => ⟨h1, hb.trans (h2.mono (Nat.le_trans hB hb.size))⟩

end Go.Proofs.Ytlglncnhhgofoaa

/-
  The walks over one number's set, and over the count and the lowest bit of a word.
-/
namespace Go.Proofs.Ytlglncnhhgofoaa
open Go.RowKit
set_option linter.unusedSimpArgs false

theorem u64_nat (n : Nat) (h : n < 18446744073709551616) : IntKind.u64.wrap (n : Int) = n := IntWalk.u64_in _ (by omega)
theorem pow_wrap {j : Nat} (hj : j < 64) : IntKind.u64.wrap ((2 : Int) ^ j) = ((2 ^ j : Nat) : Int) := by
  have h : (2 : Nat) ^ j < 18446744073709551616 := Nat.pow_lt_pow_right (a := 2) (m := j) (n := 64) (by omega) hj
  rw [show (2 : Int) ^ j = ((2 ^ j : Nat) : Int) by simp]
  exact u64_nat _ h

theorem one_words {k j : Nat} (hk : k < 4) (hj : j < 64) (k' : Nat) : wd (oneP ((64 * k + j : Nat) : Int)) k' = if k' = k then 2 ^ j else 0 := by
  by_cases h : k' = k
  · subst h; rw [if_pos rfl]; exact wd_one_at hj
  · rw [if_neg h]; exact wd_one_far fun i hi => by omega
theorem one_out {v : Int} (h : v < 0 ∨ 255 < v) {k : Nat} (hk : k < 4) : wd (oneP v) k = 0 := wd_one_far fun i hi => by omega

set_option maxHeartbeats 1000000 in
theorem only_0 (i : Int) (h0 : 0 ≤ i) (h1 : i / 64 = 0) (j : Nat) (hj : j < 64) (h2 : i % 64 = j) (w : World) :
    Calls Try.prog 75 #[.int .i64 i] w fun e w' => e = .returned (.agg #[.int .u64 (wd (oneP i) 0), .int .u64 (wd (oneP i) 1), .int .u64 (wd (oneP i) 2), .int .u64 (wd (oneP i) 3)]) ∧ Below w.heap.size w w' := by
  have hi : i = ((64 * 0 + j : Nat) : Int) := by omega
  have e0 := one_words (k := 0) (j := j) (by omega) hj 0
  have e1 := one_words (k := 0) (j := j) (by omega) hj 1
  have e2 := one_words (k := 0) (j := j) (by omega) hj 2
  have e3 := one_words (k := 0) (j := j) (by omega) hj 3
  rw [← hi] at e0 e1 e2 e3
  have pw := pow_wrap hj
  rw [e0, e1, e2, e3]
  clear e0 e1 e2 e3 hi
  simp only [reduceIte, Nat.reduceEqDiff, Nat.succ_ne_self, Nat.one_ne_zero, Nat.zero_ne_one]
  generalize (2 : Nat) ^ j = z at pw
  go_enter Try.func75, Try.ntmps75
  go_wp2
  exact bodyPost_ret (by simp [results, Try.results75, go_sem]) rfl ⟨rfl, ((Below.refl _ _).alloc (Nat.le_refl _) _).alloc (by simp) _⟩
set_option maxHeartbeats 1000000 in
theorem only_1 (i : Int) (h0 : 0 ≤ i) (h1 : i / 64 = 1) (j : Nat) (hj : j < 64) (h2 : i % 64 = j) (w : World) :
    Calls Try.prog 75 #[.int .i64 i] w fun e w' => e = .returned (.agg #[.int .u64 (wd (oneP i) 0), .int .u64 (wd (oneP i) 1), .int .u64 (wd (oneP i) 2), .int .u64 (wd (oneP i) 3)]) ∧ Below w.heap.size w w' := by
  have hi : i = ((64 * 1 + j : Nat) : Int) := by omega
  have e0 := one_words (k := 1) (j := j) (by omega) hj 0
  have e1 := one_words (k := 1) (j := j) (by omega) hj 1
  have e2 := one_words (k := 1) (j := j) (by omega) hj 2
  have e3 := one_words (k := 1) (j := j) (by omega) hj 3
  rw [← hi] at e0 e1 e2 e3
  have pw := pow_wrap hj
  rw [e0, e1, e2, e3]
  clear e0 e1 e2 e3 hi
  simp only [reduceIte, Nat.reduceEqDiff, Nat.succ_ne_self, Nat.one_ne_zero, Nat.zero_ne_one]
  generalize (2 : Nat) ^ j = z at pw
  go_enter Try.func75, Try.ntmps75
  go_wp2
  exact bodyPost_ret (by simp [results, Try.results75, go_sem]) rfl ⟨rfl, ((Below.refl _ _).alloc (Nat.le_refl _) _).alloc (by simp) _⟩
set_option maxHeartbeats 1000000 in
theorem only_2 (i : Int) (h0 : 0 ≤ i) (h1 : i / 64 = 2) (j : Nat) (hj : j < 64) (h2 : i % 64 = j) (w : World) :
    Calls Try.prog 75 #[.int .i64 i] w fun e w' => e = .returned (.agg #[.int .u64 (wd (oneP i) 0), .int .u64 (wd (oneP i) 1), .int .u64 (wd (oneP i) 2), .int .u64 (wd (oneP i) 3)]) ∧ Below w.heap.size w w' := by
  have hi : i = ((64 * 2 + j : Nat) : Int) := by omega
  have e0 := one_words (k := 2) (j := j) (by omega) hj 0
  have e1 := one_words (k := 2) (j := j) (by omega) hj 1
  have e2 := one_words (k := 2) (j := j) (by omega) hj 2
  have e3 := one_words (k := 2) (j := j) (by omega) hj 3
  rw [← hi] at e0 e1 e2 e3
  have pw := pow_wrap hj
  rw [e0, e1, e2, e3]
  clear e0 e1 e2 e3 hi
  simp only [reduceIte, Nat.reduceEqDiff, Nat.succ_ne_self, Nat.one_ne_zero, Nat.zero_ne_one]
  generalize (2 : Nat) ^ j = z at pw
  go_enter Try.func75, Try.ntmps75
  go_wp2
  exact bodyPost_ret (by simp [results, Try.results75, go_sem]) rfl ⟨rfl, ((Below.refl _ _).alloc (Nat.le_refl _) _).alloc (by simp) _⟩
set_option maxHeartbeats 1000000 in
theorem only_3 (i : Int) (h0 : 0 ≤ i) (h1 : i / 64 = 3) (j : Nat) (hj : j < 64) (h2 : i % 64 = j) (w : World) :
    Calls Try.prog 75 #[.int .i64 i] w fun e w' => e = .returned (.agg #[.int .u64 (wd (oneP i) 0), .int .u64 (wd (oneP i) 1), .int .u64 (wd (oneP i) 2), .int .u64 (wd (oneP i) 3)]) ∧ Below w.heap.size w w' := by
  have hi : i = ((64 * 3 + j : Nat) : Int) := by omega
  have e0 := one_words (k := 3) (j := j) (by omega) hj 0
  have e1 := one_words (k := 3) (j := j) (by omega) hj 1
  have e2 := one_words (k := 3) (j := j) (by omega) hj 2
  have e3 := one_words (k := 3) (j := j) (by omega) hj 3
  rw [← hi] at e0 e1 e2 e3
  have pw := pow_wrap hj
  rw [e0, e1, e2, e3]
  clear e0 e1 e2 e3 hi
  simp only [reduceIte, Nat.reduceEqDiff, Nat.succ_ne_self, Nat.one_ne_zero, Nat.zero_ne_one]
  generalize (2 : Nat) ^ j = z at pw
  go_enter Try.func75, Try.ntmps75
  go_wp2
  exact bodyPost_ret (by simp [results, Try.results75, go_sem]) rfl ⟨rfl, ((Below.refl _ _).alloc (Nat.le_refl _) _).alloc (by simp) _⟩

set_option maxHeartbeats 1000000 in
theorem only_low (i : Int) (h : i < 0) (w : World) :
    Calls Try.prog 75 #[.int .i64 i] w fun e w' => e = .returned (.agg #[.int .u64 (wd (oneP i) 0), .int .u64 (wd (oneP i) 1), .int .u64 (wd (oneP i) 2), .int .u64 (wd (oneP i) 3)]) ∧ Below w.heap.size w w' := by
  rw [one_out (.inl h) (k := 0) (by omega), one_out (.inl h) (k := 1) (by omega), one_out (.inl h) (k := 2) (by omega), one_out (.inl h) (k := 3) (by omega)]
  go_enter Try.func75, Try.ntmps75
  go_wp2
  exact bodyPost_ret (by simp [results, Try.results75, go_sem]) rfl ⟨rfl, ((Below.refl _ _).alloc (Nat.le_refl _) _).alloc (by simp) _⟩
set_option maxHeartbeats 1000000 in
theorem only_high (i : Int) (h : 256 ≤ i) (hu : i ≤ 9223372036854775807) (w : World) :
    Calls Try.prog 75 #[.int .i64 i] w fun e w' => e = .returned (.agg #[.int .u64 (wd (oneP i) 0), .int .u64 (wd (oneP i) 1), .int .u64 (wd (oneP i) 2), .int .u64 (wd (oneP i) 3)]) ∧ Below w.heap.size w w' := by
  have ho : i < 0 ∨ 255 < i := .inr (by omega)
  rw [one_out ho (k := 0) (by omega), one_out ho (k := 1) (by omega), one_out ho (k := 2) (by omega), one_out ho (k := 3) (by omega)]
  have h0 : 0 ≤ i := by omega
  have h1 : 4 ≤ i / 64 := by omega
  clear ho h
  go_enter Try.func75, Try.ntmps75
  go_wp2
  exact bodyPost_ret (by simp [results, Try.results75, go_sem]) rfl ⟨rfl, ((Below.refl _ _).alloc (Nat.le_refl _) _).alloc (by simp) _⟩

theorem only_any (i : Int) (hu : i ≤ 9223372036854775807) (w : World) :
    Calls Try.prog 75 #[.int .i64 i] w fun e w' => e = .returned (.agg #[.int .u64 (wd (oneP i) 0), .int .u64 (wd (oneP i) 1), .int .u64 (wd (oneP i) 2), .int .u64 (wd (oneP i) 3)]) ∧ Below w.heap.size w w' := by
  rcases (show i < 0 ∨ 256 ≤ i ∨ (0 ≤ i ∧ i ≤ 255) by omega) with h | h | ⟨h0, h1⟩
  · exact only_low i h w
  · exact only_high i h hu w
  · obtain ⟨j, hj⟩ : ∃ j : Nat, i % 64 = j := ⟨(i % 64).toNat, by omega⟩
    rcases (show i / 64 = 0 ∨ i / 64 = 1 ∨ i / 64 = 2 ∨ i / 64 = 3 by omega) with g | g | g | g
    · exact only_0 i h0 g j (by omega) hj w
    · exact only_1 i h0 g j (by omega) hj w
    · exact only_2 i h0 g j (by omega) hj w
    · exact only_3 i h0 g j (by omega) hj w

theorem and_nat (a b : Nat) (ha : a < 18446744073709551616) (hb : b < 18446744073709551616) : bits .and .u64 (a : Int) (b : Int) = ((a &&& b : Nat) : Int) := bits_and_u64_nat a b ha hb

end Go.Proofs.Ytlglncnhhgofoaa

/-
  The walks over what is in both sets, and in the first one alone.
-/
namespace Go.Proofs.Ytlglncnhhgofoaa
open Go.RowKit

theorem or_nat (a b : Nat) (ha : a < 18446744073709551616) (hb : b < 18446744073709551616) : bits .or .u64 (a : Int) (b : Int) = ((a ||| b : Nat) : Int) := bits_or_u64_nat a b ha hb
theorem andnot_nat (a b : Nat) (ha : a < 18446744073709551616) (hb : b < 18446744073709551616) : bits .andNot .u64 (a : Int) (b : Int) = ((a &&& (18446744073709551615 - b) : Nat) : Int) := u64_andNot_nat a b ha hb

theorem w_and (p q : Nat → Bool) (k : Nat) : bits .and .u64 (wd p k : Int) (wd q k : Int) = (wd (andP p q) k : Int) := by rw [and_nat _ _ (wd_lt p k) (wd_lt q k), wd_and]
theorem w_or (p q : Nat → Bool) (k : Nat) : bits .or .u64 (wd p k : Int) (wd q k : Int) = (wd (orP p q) k : Int) := by rw [or_nat _ _ (wd_lt p k) (wd_lt q k), wd_or]
theorem w_minus (p q : Nat → Bool) (k : Nat) : bits .andNot .u64 (wd p k : Int) (wd q k : Int) = (wd (minusP p q) k : Int) := by rw [andnot_nat _ _ (wd_lt p k) (wd_lt q k), wd_minus]

/-- Four words, of which the first k are done. -/
def mix (k : Nat) (r a : Nat → Nat) (j : Nat) : Nat := if j < k then r j else a j

structure Loop4 (w wr : World) (k : Nat) (r a b : Nat → Nat) : Prop where
  x : Four wr w.heap.size (mix k r a 0) (mix k r a 1) (mix k r a 2) (mix k r a 3)
  y : Four wr (w.heap.size + 1) (b 0) (b 1) (b 2) (b 3)
  z : Four wr (w.heap.size + 1 + 1) 0 0 0 0
  below : Below w.heap.size w wr

theorem Four.of_drew {w : World} {b x0 x1 x2 x3 : Nat} (h : Four w b x0 x1 x2 x3) : Four w.drew b x0 x1 x2 x3 := ⟨h.c0, h.c1, h.c2, h.c3, h.f0, h.f1, h.f2, h.f3⟩

set_option maxHeartbeats 2000000 in
theorem minus_any (p q : Nat → Bool) (w : World) :
    Calls Try.prog 91 #[.agg #[.int .u64 (wd p 0), .int .u64 (wd p 1), .int .u64 (wd p 2), .int .u64 (wd p 3)], .agg #[.int .u64 (wd q 0), .int .u64 (wd q 1), .int .u64 (wd q 2), .int .u64 (wd q 3)]] w fun e w' => e = .returned (.agg #[.int .u64 (wd (minusP p q) 0), .int .u64 (wd (minusP p q) 1), .int .u64 (wd (minusP p q) 2), .int .u64 (wd (minusP p q) 3)]) ∧ Below w.heap.size w w' := by
  have e0 := Lib.hid (w_minus p q 0)
  have e1 := Lib.hid (w_minus p q 1)
  have e2 := Lib.hid (w_minus p q 2)
  have e3 := Lib.hid (w_minus p q 3)
  generalize wd (minusP p q) = r at e0 e1 e2 e3 ⊢
  generalize wd p = a at e0 e1 e2 e3 ⊢
  generalize wd q = b at e0 e1 e2 e3 ⊢
  go_enter Try.func91, Try.ntmps91
  go_wp2
  go_loopw [6] (fun i wr => ∃ k : Nat, k ≤ 4 ∧ i = .int .i64 k ∧ Loop4 w wr k r a b) (fun i _ => (4 - intOf i).toNat)
  case atStart =>
    exact ⟨0, by omega, rfl, ⟨((Four.new w _ _ _ _ _).alloc _).alloc _, by simpa using (Four.new (w.alloc _) (b 0) (b 1) (b 2) (b 3) _).alloc _, by simpa using Four.new ((w.alloc _).alloc _) 0 0 0 0 _, (((Below.refl _ _).alloc (Nat.le_refl _) _).alloc (by simp) _).alloc (by simp; omega) _⟩⟩
  case round =>
    obtain ⟨k, hk, rfl, hx, hy, hz, hb⟩ := hrel
    have HY := Lib.hid hy
    have HZ := Lib.hid hz
    have HB := Lib.hid hb
    have HX := Lib.hid hx
    clear hb hz
    rcases (show k = 0 ∨ k = 1 ∨ k = 2 ∨ k = 3 ∨ k = 4 by omega) with rfl | rfl | rfl | rfl | rfl
    rotate_left 4
    · clear HY hy
      simp only [mix, Nat.reduceLT, reduceIte] at hx
      obtain ⟨x0, x1, x2, x3, g0, g1, g2, g3⟩ := hx
      obtain ⟨z0, z1, z2, z3, v0, v1, v2, v3⟩ := HZ.out
      go_wp2
      refine bodyPost_ret (v := .agg #[.int .u64 (r 0), .int .u64 (r 1), .int .u64 (r 2), .int .u64 (r 3)]) ?_ rfl ⟨rfl, below_set4 HB.out (by omega) (r 0) (r 1) (r 2) (r 3)⟩
      obtain ⟨s0, s1, s2, s3, _, _, _, _⟩ := HZ.out.set4 (r 0) (r 1) (r 2) (r 3)
      unfold set4 at s0 s1 s2 s3
      simp [results, Try.results91, go_sem, s0, s1, s2, s3]
    all_goals
      simp only [mix, Nat.lt_irrefl, Nat.reduceLT, Nat.not_lt_zero, reduceIte] at hx
      obtain ⟨x0, x1, x2, x3, g0, g1, g2, g3⟩ := hx
      obtain ⟨y0, y1, y2, y3, _, _, _, _⟩ := hy
    · have e := e0.out
      go_wp2
      go_region
      all_goals
        clear e
        go_wp2
        go_roundw
        case rel => exact ⟨1, by omega, rfl, ⟨(HX.out.set0 (r 0)).of_drew, (HY.out.far (p := ⟨w.heap.size, 0, none⟩) (by simp) _).of_drew, (HZ.out.far (p := ⟨w.heap.size, 0, none⟩) (by simp; omega) _).of_drew, (HB.out.setCell (p := ⟨w.heap.size, 0, none⟩) (Nat.le_refl _) _).drew⟩⟩
        case measure => simp [intOf]
    · have e := e1.out
      go_wp2
      go_region
      all_goals
        clear e
        go_wp2
        go_roundw
        case rel => exact ⟨2, by omega, rfl, ⟨(HX.out.set1 (r 1)).of_drew, (HY.out.far (p := ⟨w.heap.size, 1, none⟩) (by simp) _).of_drew, (HZ.out.far (p := ⟨w.heap.size, 1, none⟩) (by simp; omega) _).of_drew, (HB.out.setCell (p := ⟨w.heap.size, 1, none⟩) (Nat.le_refl _) _).drew⟩⟩
        case measure => simp [intOf]
    · have e := e2.out
      go_wp2
      go_region
      all_goals
        clear e
        go_wp2
        go_roundw
        case rel => exact ⟨3, by omega, rfl, ⟨(HX.out.set2 (r 2)).of_drew, (HY.out.far (p := ⟨w.heap.size, 2, none⟩) (by simp) _).of_drew, (HZ.out.far (p := ⟨w.heap.size, 2, none⟩) (by simp; omega) _).of_drew, (HB.out.setCell (p := ⟨w.heap.size, 2, none⟩) (Nat.le_refl _) _).drew⟩⟩
        case measure => simp [intOf]
    · have e := e3.out
      go_wp2
      go_region
      all_goals
        clear e
        go_wp2
        go_roundw
        case rel => exact ⟨4, by omega, rfl, ⟨(HX.out.set3 (r 3)).of_drew, (HY.out.far (p := ⟨w.heap.size, 3, none⟩) (by simp) _).of_drew, (HZ.out.far (p := ⟨w.heap.size, 3, none⟩) (by simp; omega) _).of_drew, (HB.out.setCell (p := ⟨w.heap.size, 3, none⟩) (Nat.le_refl _) _).drew⟩⟩
        case measure => simp [intOf]

end Go.Proofs.Ytlglncnhhgofoaa

/-
  The walks over what is in one of some sets.
-/
namespace Go.Proofs.Ytlglncnhhgofoaa
open Go.RowKit

/-- Sets that stand one behind the other. -/
def Sets (w : World) (B : Nat) (a : Option Addr) (l : List (Nat → Bool)) : Prop :=
  l = [] ∨ ∃ b off, a = some ⟨b, off, none⟩ ∧ b < B ∧ ∀ k, k < l.length → w.cell? ⟨b, off + k * 4, none⟩ = some (.int .u64 (wd (l.getD k noneP) 0)) ∧ w.cell? ⟨b, off + k * 4 + 1, none⟩ = some (.int .u64 (wd (l.getD k noneP) 1)) ∧ w.cell? ⟨b, off + k * 4 + 2, none⟩ = some (.int .u64 (wd (l.getD k noneP) 2)) ∧ w.cell? ⟨b, off + k * 4 + 3, none⟩ = some (.int .u64 (wd (l.getD k noneP) 3))

theorem Sets.below {w w' : World} {B : Nat} {a : Option Addr} {l : List (Nat → Bool)} (h : Sets w B a l) (hb : Below B w w') : Sets w' B a l := by
  rcases h with h | ⟨b, off, h1, h2, h3⟩
  · exact .inl h
  · exact .inr ⟨b, off, h1, h2, fun k hk => by rw [hb.cell (p := ⟨b, off + k * 4, none⟩) h2, hb.cell (p := ⟨b, off + k * 4 + 1, none⟩) h2, hb.cell (p := ⟨b, off + k * 4 + 2, none⟩) h2, hb.cell (p := ⟨b, off + k * 4 + 3, none⟩) h2]; exact h3 k hk⟩

/-- All that is in one of the first n. -/
def orN (l : List (Nat → Bool)) : Nat → Nat → Bool
  | 0 => noneP
  | n + 1 => orP (orN l n) (l.getD n noneP)

set_option maxHeartbeats 2000000 in
theorem or_any (l : List (Nat → Bool)) (hl : (l.length : Int) ≤ 1000000) (cap : Nat) (ao : Option Addr) (w : World) (hs : Sets w w.heap.size ao l) :
    Calls Try.prog 74 #[.slice ao l.length cap] w fun e w' => e = .returned (.agg #[.int .u64 (wd (orN l l.length) 0), .int .u64 (wd (orN l l.length) 1), .int .u64 (wd (orN l l.length) 2), .int .u64 (wd (orN l l.length) 3)]) ∧ Below w.heap.size w w' := by
  have HS := Lib.hid hs
  clear hs
  go_enter Try.func74, Try.ntmps74
  go_wp2
  go_loopw [9] (fun i wr => ∃ k : Nat, k ≤ l.length ∧ i = .int .i64 k ∧ Four wr (w.heap.size + 1) (wd (orN l k) 0) (wd (orN l k) 1) (wd (orN l k) 2) (wd (orN l k) 3) ∧ Four wr w.heap.size 0 0 0 0 ∧ Below w.heap.size w wr) (fun i _ => (l.length - intOf i).toNat)
  case atStart =>
    refine ⟨0, by omega, rfl, ?_, ?_, ((Below.refl _ _).alloc (Nat.le_refl _) _).alloc (by simp) _⟩
    · have := Four.new (w.alloc (.cells #[.int .u64 0, .int .u64 0, .int .u64 0, .int .u64 0] 47)) 0 0 0 0 47
      simpa [orN, wd_none] using this
    · exact (Four.new w 0 0 0 0 _).alloc _
  case round =>
    obtain ⟨k, hk, rfl, hx, hz, hb⟩ := hrel
    have HX := Lib.hid hx
    have HZ := Lib.hid hz
    have HB := Lib.hid hb
    clear hx hb
    by_cases hlt : k < l.length
    · obtain ⟨b, off, rfl, hbb, hc⟩ : ∃ b off, ao = some ⟨b, off, none⟩ ∧ b < w.heap.size ∧ ∀ k, k < l.length → wr.cell? ⟨b, off + k * 4, none⟩ = some (.int .u64 (wd (l.getD k noneP) 0)) ∧ wr.cell? ⟨b, off + k * 4 + 1, none⟩ = some (.int .u64 (wd (l.getD k noneP) 1)) ∧ wr.cell? ⟨b, off + k * 4 + 2, none⟩ = some (.int .u64 (wd (l.getD k noneP) 2)) ∧ wr.cell? ⟨b, off + k * 4 + 3, none⟩ = some (.int .u64 (wd (l.getD k noneP) 3)) := by
        rcases HS.out.below HB.out with h | h
        · rw [h] at hlt; exact absurd hlt (Nat.not_lt_zero _)
        · exact h
      obtain ⟨c0, c1, c2, c3⟩ := hc k hlt
      have hsz : w.heap.size + 1 < wr.heap.size := HX.out.lt
      have e0 := Lib.hid (w_or (orN l k) (l.getD k noneP) 0)
      have e1 := Lib.hid (w_or (orN l k) (l.getD k noneP) 1)
      have e2 := Lib.hid (w_or (orN l k) (l.getD k noneP) 2)
      have e3 := Lib.hid (w_or (orN l k) (l.getD k noneP) 3)
      have HR : Hid (wd (orP (orN l k) (l.getD k noneP)) = wd (orN l (k + 1))) := by show _ = _; rfl
      clear hc hz
      generalize wd (orP (orN l k) (l.getD k noneP)) = r at e0 e1 e2 e3 HR
      generalize wd (l.getD k noneP) = q at e0 e1 e2 e3 c0 c1 c2 c3
      generalize wd (orN l k) = a at e0 e1 e2 e3 HX
      go_wp2
      go_loopw [13] (fun i wi => ∃ j : Nat, j ≤ 4 ∧ i = .int .i64 j ∧ Four wi (w.heap.size + 1) (mix j r a 0) (mix j r a 1) (mix j r a 2) (mix j r a 3) ∧ Four wi wr.heap.size (q 0) (q 1) (q 2) (q 3) ∧ Four wi w.heap.size 0 0 0 0 ∧ Below w.heap.size w wi) (fun i _ => (4 - intOf i).toNat)
      case atStart =>
        exact ⟨0, by omega, rfl, HX.out.alloc _, Four.new _ _ _ _ _ _, HZ.out.alloc _, HB.out.alloc HB.out.size _⟩
      case round =>
        obtain ⟨j, hj, rfl, hx, hy, hz, hb⟩ := hrel
        have HX := Lib.hid hx
        have HY := Lib.hid hy
        have HZ := Lib.hid hz
        have HB := Lib.hid hb
        clear hz hb
        rcases (show j = 0 ∨ j = 1 ∨ j = 2 ∨ j = 3 ∨ j = 4 by omega) with rfl | rfl | rfl | rfl | rfl
        rotate_left 4
        · clear HY hy hx
          go_wp2
          go_roundw
          case rel => exact ⟨k + 1, by omega, by go_num, by rw [← HR.out]; exact HX.out, HZ.out, HB.out⟩
          case measure => simp [intOf]; omega
        all_goals
          simp only [mix, Nat.lt_irrefl, Nat.reduceLT, Nat.not_lt_zero, reduceIte] at hx
          obtain ⟨x0, x1, x2, x3, g0, g1, g2, g3⟩ := hx
          obtain ⟨y0, y1, y2, y3, _, _, _, _⟩ := hy
        · have e := e0.out
          go_wp2
          go_region
          all_goals
            clear e
            go_wp2
            go_roundw
            case rel => exact ⟨1, by omega, rfl, (HX.out.set0 (r 0)).of_drew, (HY.out.far (p := ⟨w.heap.size + 1, 0, none⟩) (by simp; omega) _).of_drew, (HZ.out.far (p := ⟨w.heap.size + 1, 0, none⟩) (by simp) _).of_drew, (HB.out.setCell (p := ⟨w.heap.size + 1, 0, none⟩) (by simp) _).drew⟩
            case measure => simp [intOf]
        · have e := e1.out
          go_wp2
          go_region
          all_goals
            clear e
            go_wp2
            go_roundw
            case rel => exact ⟨2, by omega, rfl, (HX.out.set1 (r 1)).of_drew, (HY.out.far (p := ⟨w.heap.size + 1, 1, none⟩) (by simp; omega) _).of_drew, (HZ.out.far (p := ⟨w.heap.size + 1, 1, none⟩) (by simp) _).of_drew, (HB.out.setCell (p := ⟨w.heap.size + 1, 1, none⟩) (by simp) _).drew⟩
            case measure => simp [intOf]
        · have e := e2.out
          go_wp2
          go_region
          all_goals
            clear e
            go_wp2
            go_roundw
            case rel => exact ⟨3, by omega, rfl, (HX.out.set2 (r 2)).of_drew, (HY.out.far (p := ⟨w.heap.size + 1, 2, none⟩) (by simp; omega) _).of_drew, (HZ.out.far (p := ⟨w.heap.size + 1, 2, none⟩) (by simp) _).of_drew, (HB.out.setCell (p := ⟨w.heap.size + 1, 2, none⟩) (by simp) _).drew⟩
            case measure => simp [intOf]
        · have e := e3.out
          go_wp2
          go_region
          all_goals
            clear e
            go_wp2
            go_roundw
            case rel => exact ⟨4, by omega, rfl, (HX.out.set3 (r 3)).of_drew, (HY.out.far (p := ⟨w.heap.size + 1, 3, none⟩) (by simp; omega) _).of_drew, (HZ.out.far (p := ⟨w.heap.size + 1, 3, none⟩) (by simp) _).of_drew, (HB.out.setCell (p := ⟨w.heap.size + 1, 3, none⟩) (by simp) _).drew⟩
            case measure => simp [intOf]
    · obtain rfl : k = l.length := by omega
      obtain ⟨x0, x1, x2, x3, _, _, _, _⟩ := HX.out
      obtain ⟨z0, z1, z2, z3, v0, v1, v2, v3⟩ := hz
      go_wp2
      refine bodyPost_ret (v := .agg #[.int .u64 (wd (orN l l.length) 0), .int .u64 (wd (orN l l.length) 1), .int .u64 (wd (orN l l.length) 2), .int .u64 (wd (orN l l.length) 3)]) ?_ rfl ⟨rfl, below_set4 HB.out (by omega) (wd (orN l l.length) 0) (wd (orN l l.length) 1) (wd (orN l l.length) 2) (wd (orN l l.length) 3)⟩
      obtain ⟨s0, s1, s2, s3, _, _, _, _⟩ := HZ.out.set4 (wd (orN l l.length) 0) (wd (orN l l.length) 1) (wd (orN l l.length) 2) (wd (orN l l.length) 3)
      unfold set4 at s0 s1 s2 s3
      simp [results, Try.results74, go_sem, s0, s1, s2, s3]

end Go.Proofs.Ytlglncnhhgofoaa
