/- Texts of this claim, put together: EMem, EW1, CW3, EIt, BRef2, BRef3, BRef4, BList, BIter, BListW, BRef5, BRef6, CW4, EAdd. -/
import Derived.Test.YtcanbjgbpkofaaaM92
import Derived.Tactics
import Derived.RegionTactic
import Derived.RangeFuncNested
import Derived.RangeFuncBound
import Derived.RangeFuncCalls
import Derived.RangeFuncLeaves
import Derived.RangeFuncBox
import Derived.Shelf.RegionOpen
import Derived.Shelf.Abstract
import Derived.OwnWalkIn
import Derived.TacticsInMore
import Derived.LoopNIn
import Derived.LoopIn
import Derived.Deep.RegionHeld3
import Derived.Lib.TrailingZeros
import Derived.Maps.AppendAt
import Derived.Laws.MakeOwn
import Derived.OwnWalk
set_option linter.unusedVariables false
set_option linter.unusedSimpArgs false

/-
  Rows of sets: four cells each.
-/
namespace Go.Proofs.Ytcanbjgbpkofaaa
open Go.RowKit Go.Maps

def scells (p : Nat → Bool) : List Value := [.int .u64 (wd p 0), .int .u64 (wd p 1), .int .u64 (wd p 2), .int .u64 (wd p 3)]
/-- The cells of a set, from a place on. -/
structure SAt (w : World) (g o : Nat) (x : Nat → Bool) : Prop where
  c0 : w.cell? ⟨g, o, none⟩ = some (.int .u64 (wd x 0))
  c1 : w.cell? ⟨g, o + 1, none⟩ = some (.int .u64 (wd x 1))
  c2 : w.cell? ⟨g, o + 2, none⟩ = some (.int .u64 (wd x 2))
  c3 : w.cell? ⟨g, o + 3, none⟩ = some (.int .u64 (wd x 3))
theorem SAt.below {w w' : World} {g o : Nat} {x : Nat → Bool} (h : SAt w g o x) (hb : Below w.heap.size w w') : SAt w' g o x :=
  ⟨kept_cell hb h.c0, kept_cell hb h.c1, kept_cell hb h.c2, kept_cell hb h.c3⟩
/-- The cells of a row of tasks. -/
def sflat : List (Nat → Bool) → List Value
  | [] => []
  | x :: l => scells x ++ sflat l
theorem scells_len (x : Nat → Bool) : (scells x).length = 4 := rfl
theorem sflat_len : ∀ l : List (Nat → Bool), (sflat l).length = l.length * 4
  | [] => rfl
  | x :: l => by simp [sflat, sflat_len l, scells_len]; omega
theorem sflat_append : ∀ l m : List (Nat → Bool), sflat (l ++ m) = sflat l ++ sflat m
  | [], _ => rfl
  | x :: l, m => by simp [sflat, sflat_append l m]
theorem sflat_at : ∀ (l : List (Nat → Bool)) (k : Nat) (x : Nat → Bool), l[k]? = some x → ∀ i, i < 4 → (sflat l)[k * 4 + i]? = (scells x)[i]?
  | [], k, x, h => by simp at h
  | y :: l, 0, x, h => by
    simp at h; subst h
    intro i hi
    rw [Nat.zero_mul, Nat.zero_add, sflat, List.getElem?_append_left (by rw [scells_len]; exact hi)]
  | y :: l, k + 1, x, h => by
    intro i hi
    have := sflat_at l k x (by simpa using h) i hi
    rw [show (k + 1) * 4 + i = 4 + (k * 4 + i) by omega, sflat, List.getElem?_append_right (by rw [scells_len]; omega), scells_len, ← this]
    congr 1; omega
theorem sflat_one : ∀ (l : List (Nat → Bool)), ∀ u ∈ sflat l, u.oneCell' = true
  | [], u, h => by simp [sflat] at h
  | x :: l, u, h => by
    rcases List.mem_append.1 h with h | h
    · simp [scells] at h
      rcases h with rfl | rfl | rfl | rfl <;> rfl
    · exact sflat_one l u h
theorem sflat_drop : ∀ (k : Nat) (l : List (Nat → Bool)), sflat (l.drop k) = (sflat l).drop (k * 4)
  | 0, l => by simp
  | k + 1, [] => by simp [sflat]
  | k + 1, x :: l => by
    rw [List.drop_succ_cons, sflat_drop k l, sflat, List.drop_append, show (k + 1) * 4 = 4 + k * 4 by omega]
    simp [scells_len]
theorem sflat_take : ∀ (k : Nat) (l : List (Nat → Bool)), sflat (l.take k) = (sflat l).take (k * 4)
  | 0, l => by simp [sflat]
  | k + 1, [] => by simp [sflat]
  | k + 1, x :: l => by
    rw [List.take_succ_cons, sflat, sflat, sflat_take k l, List.take_append, show (k + 1) * 4 = 4 + k * 4 by omega]
    simp [scells_len]
    rw [List.take_of_length_le (by rw [scells_len]; omega)]

/-- A row of tasks that can be read. -/
def SView (w : World) (a : Option Addr) (l : List (Nat → Bool)) : Prop :=
  l = [] ∨ ∃ g o, a = some ⟨g, o, none⟩ ∧ ∀ j u, (sflat l)[j]? = some u → w.cell? ⟨g, o + j, none⟩ = some u
theorem SView.nil {w : World} {a : Option Addr} : SView w a [] := .inl rfl
theorem SView.at_ {w : World} {a : Option Addr} {l : List (Nat → Bool)} (h : SView w a l) {k : Nat} {x : Nat → Bool} (hx : l[k]? = some x) : ∃ g o, a = some ⟨g, o, none⟩ ∧ SAt w g (o + k * 4) x := by
  rcases h with rfl | ⟨g, o, rfl, hc⟩
  · simp at hx
  · have f := sflat_at l k x hx
    refine ⟨g, o, rfl, ⟨?_, ?_, ?_, ?_⟩⟩
    · exact hc _ _ (f 0 (by omega))
    · exact hc _ _ (f 1 (by omega))
    · exact hc _ _ (f 2 (by omega))
    · exact hc _ _ (f 3 (by omega))
theorem SView.below {w w' : World} {a : Option Addr} {l : List (Nat → Bool)} (h : SView w a l) (hb : Below w.heap.size w w') : SView w' a l := by
  rcases h with rfl | ⟨g, o, rfl, hc⟩
  · exact .inl rfl
  · exact .inr ⟨g, o, rfl, fun j u hj => kept_cell hb (hc j u hj)⟩
theorem SView.drop {w : World} {g o : Nat} {l : List (Nat → Bool)} (h : SView w (some ⟨g, o, none⟩) l) (k : Nat) : SView w (some ⟨g, o + k * 4, none⟩) (l.drop k) := by
  rcases h with rfl | ⟨g', o', e, hc⟩
  · left; simp
  · cases e
    refine .inr ⟨_, _, rfl, fun j u hj => ?_⟩
    rw [sflat_drop, List.getElem?_drop] at hj
    rw [Nat.add_assoc]
    exact hc _ u hj
theorem SView.take {w : World} {a : Option Addr} {l : List (Nat → Bool)} (h : SView w a l) (k : Nat) : SView w a (l.take k) := by
  rcases h with rfl | ⟨g, o, rfl, hc⟩
  · left; simp
  · refine .inr ⟨g, o, rfl, fun j u hj => ?_⟩
    rw [sflat_take, List.getElem?_take] at hj
    split at hj
    · exact hc j u hj
    · cases hj
theorem SView.of_at {w : World} {g o : Nat} {x : Nat → Bool} (h : SAt w g o x) : SView w (some ⟨g, o, none⟩) [x] := by
  refine .inr ⟨g, o, rfl, fun j u hj => ?_⟩
  simp only [sflat, List.append_nil, scells] at hj
  match j, hj with
  | 0, hj => simp at hj; subst hj; exact h.c0
  | 1, hj => simp at hj; subst hj; exact h.c1
  | 2, hj => simp at hj; subst hj; exact h.c2
  | 3, hj => simp at hj; subst hj; exact h.c3
  | j + 4, hj => simp at hj
abbrev ST4 : TypeId := 32
def OwnS (w : World) (B : Nat) (v : Value) (l : List (Nat → Bool)) : Prop := w.ownsRow B ST4 4 v l.length (sflat l)
theorem OwnS.nil (w : World) (B : Nat) : OwnS w B (.slice none 0 0) [] := World.ownsRow_nil _ _ _ _
theorem OwnS.made (w : World) : OwnS (w.alloc (.cells #[] ST4)) w.heap.size (.slice (some ⟨w.heap.size, 0, none⟩) 0 0) [] :=
  World.ownsRow_made (w := w) #[] 0 (Nat.le_refl _) (by decide) rfl
theorem OwnS.low {w : World} {B B' : Nat} {v : Value} {l : List (Nat → Bool)} (h : OwnS w B v l) (hB : B' ≤ B) : OwnS w B' v l := by
  rcases h with ⟨h0, h | ⟨g, cap, cur, rfl, hb, r⟩⟩
  · exact ⟨h0, .inl h⟩
  · exact ⟨h0, .inr ⟨g, cap, cur, rfl, by omega, r⟩⟩
theorem OwnS.slice {w : World} {B : Nat} {v : Value} {l : List (Nat → Bool)} (h : OwnS w B v l) : ∃ a cap, v = .slice a l.length cap ∧ SView w a l ∧ l.length ≤ cap ∧ (cap : Int) ≤ 9223372036854775807 := by
  rcases h.2 with ⟨rfl, h0⟩ | ⟨g, cap, cur, rfl, _, h3, h1, h2, h4, h5⟩
  · exact ⟨none, 0, by rw [h0], .inl (List.length_eq_zero_iff.1 h0), by omega, by omega⟩
  · refine ⟨_, cap, rfl, .inr ⟨g, 0, rfl, fun j u hj => ?_⟩, h1, by unfold maxLen at h2; omega⟩
    rw [Nat.zero_add, blk_cell h3]
    rw [← h5] at hj
    rw [List.getElem?_take] at hj
    split at hj
    · simpa using hj
    · cases hj
theorem OwnS.new {w : World} {B : Nat} {v : Value} {l : List (Nat → Bool)} (h : OwnS w B v l) {k : Nat} (hk : v.ownBlock = some k) : B ≤ k ∧ k < w.heap.size := World.ownsRow.lt h k hk
theorem OwnS.below {w w' : World} {B : Nat} {v : Value} {l : List (Nat → Bool)} (h : OwnS w B v l) (hb : Below w.heap.size w w') : OwnS w' B v l := by
  rcases h with ⟨h0, h | ⟨g, cap, cur, rfl, hB, h3, r⟩⟩
  · exact ⟨h0, .inl h⟩
  · exact ⟨h0, .inr ⟨g, cap, cur, rfl, hB, kept_obj hb h3, r⟩⟩
theorem OwnS.none_len {w : World} {B n c : Nat} {l : List (Nat → Bool)} (h : OwnS w B (.slice none n c) l) : n = 0 := by
  rcases h.2 with ⟨h1, h0⟩ | ⟨g, cap, cur, h1, _⟩
  · cases h1; rfl
  · cases h1

theorem infoSet4 : (Try.prog.info? ST4).map (fun i => (i.zero, i.size, i.bytes)) = some (some (.agg #[.int .u64 0, .int .u64 0, .int .u64 0, .int .u64 0]), 4, 32) := by kernel_rfl
theorem zeroSet4 (w : World) : (zeroValue ST4).run Try.prog w = .ok (.agg #[.int .u64 0, .int .u64 0, .int .u64 0, .int .u64 0]) w := by kernel_rfl
theorem sinfoParts : ∃ i, Try.prog.info? ST4 = some i ∧ i.zero = some (.agg #[.int .u64 0, .int .u64 0, .int .u64 0, .int .u64 0]) ∧ i.size = 4 ∧ i.bytes = 32 := by
  obtain ⟨i, h1, h2⟩ := Option.map_eq_some_iff.1 infoSet4
  simp only [Prod.mk.injEq] at h2
  exact ⟨i, h1, h2.1, h2.2.1, h2.2.2⟩

/-- A row that was appended to: what it holds, where it lies. -/
theorem append_sview {w : World} {B m c : Nat} {v : Value} {q l : List (Nat → Bool)} {ad : Option Addr} (h : OwnS w B v q) (hB : B ≤ w.heap.size) (hv : SView w ad l) (hl : l.length = m) (hs : q.length + m ≤ 1000000) (hn : ad = none → m = 0) (ty : TypeId) :
    ∃ v' w', (Builtin.append_ #[39, 39] ty #[v, .slice ad m c]).run Try.prog w = .ok v' w' ∧ OwnS w' B v' (q ++ l) ∧ w.grownBy w' v.ownBlock ∧ ∀ k, v'.ownBlock = some k → v.ownBlock = some k ∨ w.heap.size ≤ k := by
  obtain ⟨i0, hi, hz0, hz1, hz2⟩ := sinfoParts
  cases ad with
  | none =>
    obtain rfl := hn rfl
    obtain rfl : l = [] := List.length_eq_zero_iff.1 hl
    refine ⟨v, w, ?_, by rw [List.append_nil]; exact h, ⟨rfl, rfl, rfl, Nat.le_refl _, fun _ _ _ => rfl⟩, fun k hk => .inl hk⟩
    rcases h.2 with ⟨rfl, h0⟩ | ⟨g, cap, cur, rfl, _, h3, h1, h2, h4, h5⟩
    · have hs := Src.ofNil (w := w) (size := i0.size) Try.underlying39 c
      simp [Builtin.append_, run_underlying Try.underlying39, sizeOf, typeInfo, hi, hs.len, hs.cells]
    · have := run_append_room_src (P := Try.prog) (w := w) 39 39 ty ST4 i0 Try.underlying39 hi g 0 q.length cap (.slice none 0 c) 0 [] (Src.ofNil w Try.underlying39 c) (by omega) (fun j hj => absurd hj (Nat.not_lt_zero _)) (fun j hj => absurd hj (Nat.not_lt_zero _))
      simpa [World.setCells] using this
  | some x =>
    have hnews : ∀ j u, (sflat l)[j]? = some u → w.cell? (x.add j) = some u := by
      intro j u hj
      rcases hv with rfl | ⟨g, o, e, hc⟩
      · simp [sflat] at hj
      · cases e
        rw [addr_at]; exact hc j u hj
    obtain ⟨v', w', h1, h2, h3, _, h5⟩ := run_append_own_at (P := Try.prog) w B 39 ty ST4 i0 _ 4 32 Try.underlying39 hi hz0 hz1 hz2 rfl (by decide) v q.length (sflat q) h x m c (sflat l) (by rw [sflat_len, hl]) hnews (sflat_one l) (by unfold maxLen; omega) (by omega) hB
    refine ⟨v', w', h1, ?_, h3, fun k hk => ?_⟩
    · unfold OwnS
      rw [List.length_append, sflat_append, hl]
      exact h2
    · rcases h5 with z | z
      · left; rw [← z]; exact hk
      · right; rw [z] at hk; cases hk; exact Nat.le_refl _

theorem sstep_append {w : World} {ops : Array Oper} {o : Oper} {a : Act} {K : Act → World → Prop} {Q : Exit → Act → World → Prop} {E : Prop} (hgd : o.guard = none) (s x : Operand)
    (ho : o.op = .call { callee := .builtin .append, args := #[s, x], argTypes := #[39, 39] }) {B m c : Nat} {v : Value} {q l : List (Nat → Bool)} {ad : Option Addr} (hs : a.eval s = v) (hx : a.eval x = .slice ad m c)
    (hown : OwnS w B v q) (hB : B ≤ w.heap.size) (hv : SView w ad l) (hl : l.length = m) (hsm : q.length + m ≤ 1000000) (hn : ad = none → m = 0) (N : Nat) (hN : q.length + m = N)
    (h : ∀ a' cp' w', OwnS w' B (.slice a' N cp') (q ++ l) → w.grownBy w' v.ownBlock → (∀ k, (Value.slice a' N cp').ownBlock = some k → v.ownBlock = some k ∨ w.heap.size ≤ k) → K (a.put o.dst (.slice a' N cp')) w') :
    if Region.wanted o (yielded ops a.tmps) = true then Oper.wp Try.prog o a w K Q else E := by
  have hw : Region.wanted o (yielded ops a.tmps) = true := by simp [Region.wanted, hgd]
  rw [if_pos hw]
  obtain ⟨v', w', hr, h2, h3, h4⟩ := append_sview (c := c) hown hB hv hl hsm hn o.type
  obtain ⟨a', cp', hv', _⟩ := h2.slice
  rw [List.length_append, hl, hN] at hv'
  subst hv'
  unfold Oper.wp execOp
  simp only [ho, resolve, invoke, builtin, Sem.run_bind, Sem.run_pure, Result.andThen_ok, List.map_toArray, List.map_cons, List.map_nil, hs, hx, hr]
  exact h a' cp' w' h2 h3 h4
theorem wp_sappend {ops : Array Oper} {rest : List Oper} {o : Oper} {a : Act} {Q : Exit → Act → World → Prop} {w : World} (hgd : o.guard = none) (s x : Operand)
    (ho : o.op = .call { callee := .builtin .append, args := #[s, x], argTypes := #[39, 39] }) {B m c : Nat} {v : Value} {q l : List (Nat → Bool)} {ad : Option Addr} (hs : a.eval s = v) (hx : a.eval x = .slice ad m c)
    (hown : OwnS w B v q) (hB : B ≤ w.heap.size) (hv : SView w ad l) (hl : l.length = m) (hsm : q.length + m ≤ 1000000) (hn : ad = none → m = 0) (N : Nat) (hN : q.length + m = N)
    (h : ∀ a' cp' w', OwnS w' B (.slice a' N cp') (q ++ l) → w.grownBy w' v.ownBlock → (∀ k, (Value.slice a' N cp').ownBlock = some k → v.ownBlock = some k ∨ w.heap.size ≤ k) → wpList Try.prog ops Q rest (a.put o.dst (.slice a' N cp')) w') : wpList Try.prog ops Q (o :: rest) a w :=
  wpList_step fun _ hK => sstep_append hgd s x ho hs hx hown hB hv hl hsm hn N hN (fun a' cp' w' o' g' l' => hK _ _ (h a' cp' w' o' g' l'))



end Go.Proofs.Ytcanbjgbpkofaaa

/-
  The walks over what is told of a task: whether its sets are told at all, how many, a place; the last set of a row.
-/
namespace Go.Proofs.Ytcanbjgbpkofaaa
open Go.RowKit Go.Maps

/-- What is promised of a task here: short, few sets. -/
structure Told (x : TV) : Prop where
  c1 : 1 ≤ x.c
  c24 : x.c ≤ 24
  n5 : x.us.length ≤ 5
  us : ∀ u ∈ x.us, 0 ≤ u ∧ u < 256
theorem Good.told {i s : Int} {x : TV} (h : Good i s x) (hs : s ≤ 8) : Told x :=
  ⟨h.c1, by have := h.cd; have := h.dt; have := h.t24; omega, h.us5, fun u hu => ⟨(h.us u hu).1, by have := (h.us u hu).2; omega⟩⟩

set_option maxRecDepth 100000 in
set_option maxHeartbeats 2000000 in
theorem told_any (x : TV) (h : Told x) (w : World) : Calls Try.prog 34 #[.agg #[.int .i64 x.id, .int .i64 x.c, .int .i64 x.d, .int .i64 x.t, .int .i64 x.p, .slice x.a1 x.ch.length x.c1, .slice x.a2 x.us.length x.c2]] w fun e w' => e = .returned (.bool true) ∧ Below w.heap.size w w' := by
  have h1 := h.c1
  have h2 : x.c ≤ 1073741824 := by have := h.c24; omega
  have h3 : (x.us.length : Int) ≤ 64 := by have := h.n5; omega
  have d1 : decide (1 ≤ x.c) = true := decide_eq_true h1
  have d2 : decide (x.c ≤ 1073741824) = true := decide_eq_true h2
  have d3 : decide ((x.us.length : Int) ≤ 64) = true := decide_eq_true h3
  clear h
  generalize x.us.length = n at *
  generalize x.c = c at *
  go_enter Try.func34, Try.ntmps34
  go_wp2_with fail
  go_ret
  exact ⟨rfl, (by repeat (first | exact Below.refl _ _ | (with_reducible assumption) | refine bw_alloc ?_ _ | refine bw_drew ?_))⟩
set_option maxRecDepth 100000 in
set_option maxHeartbeats 2000000 in
theorem round_any (x : TV) (h : Told x) (w : World) : Calls Try.prog 35 #[.agg #[.int .i64 x.id, .int .i64 x.c, .int .i64 x.d, .int .i64 x.t, .int .i64 x.p, .slice x.a1 x.ch.length x.c1, .slice x.a2 x.us.length x.c2]] w fun e w' => e = .returned (.int .i64 x.us.length) ∧ Below w.heap.size w w' := by
  have h3 : x.us.length ≤ 5 := h.n5
  have e1 : IntKind.i64.wrap (x.us.length : Int) = x.us.length := IntWalk.i64_in _ (by omega)
  clear h
  generalize x.us.length = n at *
  go_enter Try.func35, Try.ntmps35
  go_wp2_with fail
  go_ret
  exact ⟨rfl, (by repeat (first | exact Below.refl _ _ | (with_reducible assumption) | refine bw_alloc ?_ _ | refine bw_drew ?_))⟩
set_option maxRecDepth 100000 in
set_option maxHeartbeats 2000000 in
theorem place_any (x : TV) (h : Told x) (C p : Nat) (hC : x.c = (C : Int)) (w : World) : Calls Try.prog 28 #[.agg #[.int .i64 x.id, .int .i64 x.c, .int .i64 x.d, .int .i64 x.t, .int .i64 x.p, .slice x.a1 x.ch.length x.c1, .slice x.a2 x.us.length x.c2], .int .i64 (p : Int)] w fun e w' => e = .returned (.int .i64 (min p C : Nat)) ∧ Below w.heap.size w w' := by
  rw [hC]
  clear h hC
  have h0 : ¬ (p : Int) < 0 := by omega
  by_cases hp : C < p
  · have h1 : (C : Int) < (p : Int) := by omega
    rw [Nat.min_eq_right (by omega : C ≤ p)]
    go_enter Try.func28, Try.ntmps28
    go_wp2_with fail
    go_ret
    exact ⟨rfl, (by repeat (first | exact Below.refl _ _ | (with_reducible assumption) | refine bw_alloc ?_ _ | refine bw_drew ?_))⟩
  · have h1 : ¬ (C : Int) < (p : Int) := by omega
    rw [Nat.min_eq_left (by omega : p ≤ C)]
    go_enter Try.func28, Try.ntmps28
    go_wp2_with fail
    go_ret
    exact ⟨rfl, (by repeat (first | exact Below.refl _ _ | (with_reducible assumption) | refine bw_alloc ?_ _ | refine bw_drew ?_))⟩

/-- What is told of a set. -/
def SetBack (p : Nat → Bool) (w : World) (e : Ending) (w' : World) : Prop := e = .returned (.agg #[.int .u64 (wd p 0), .int .u64 (wd p 1), .int .u64 (wd p 2), .int .u64 (wd p 3)]) ∧ Below w.heap.size w w'
theorem wordsAt_0 (x0 x1 x2 x3 : Nat) : (#[.int .u64 x0, .int .u64 x1, .int .u64 x2, .int .u64 x3] : Array Value)[0]? = some (.int .u64 x0) := rfl
set_option maxRecDepth 100000 in
set_option maxHeartbeats 4000000 in
theorem last_any (l : List (Nat → Bool)) (p : Nat → Bool) (n : Nat) (hn : l.length = n + 1) (hl : l[n]? = some p) (hs : n ≤ 1000000) (a : Option Addr) (c : Nat) (w : World) (hv : SView w a l) : Calls Try.prog 25 #[.slice a (n + 1 : Nat) c] w (SetBack p w) := by
  obtain ⟨g, o, rfl, ⟨c0, c1, c2, c3⟩⟩ := hv.at_ hl
  have g0 := block_of_cell c0
  have e1 : IntKind.i64.wrap (((n + 1 : Nat) : Int) - 1) = n := by rw [show ((n + 1 : Nat) : Int) - 1 = n by omega]; exact IntWalk.i64_in _ (by omega)
  have e2 : IntKind.i64.wrap ((n : Int) + 1 - 1) = n := by rw [show (n : Int) + 1 - 1 = n by omega]; exact IntWalk.i64_in _ (by omega)
  have e3 : (n : Int) < (n : Int) + 1 := by omega
  have e4 : (0 : Int) ≤ n := by omega
  clear hv hl hn
  unfold SetBack
  generalize wd p 0 = x0 at *
  generalize wd p 1 = x1 at *
  generalize wd p 2 = x2 at *
  generalize wd p 3 = x3 at *
  go_enter Try.func25, Try.ntmps25
  go_wp2_with fail
  refine bodyPost_ret (v := .agg #[.int .u64 x0, .int .u64 x1, .int .u64 x2, .int .u64 x3]) ?_ rfl ⟨rfl, (by repeat (first | exact Below.refl _ _ | (with_reducible assumption) | refine bw_alloc ?_ _ | refine bw_drew ?_))⟩
  have q0 := World.cell?_alloc_new w #[.int .u64 x0, .int .u64 x1, .int .u64 x2, .int .u64 x3] 32
  simp [results, Try.results25, go_sem, q0]
end Go.Proofs.Ytcanbjgbpkofaaa

/-
  The walk over the sets of a row that belong to one, told one by one.
-/
namespace Go.Proofs.Ytcanbjgbpkofaaa
open Go.RowKit Go.Maps Go.Shelf
attribute [local go_sem] Oper.semAt_some

/-- What is kept: what is walked over, and some blocks of cells. -/
def KpS (S : Nat → Prop) (W W' : World) : Prop := KeepsWalks W W' ∧ ∀ k cs T fr, S k → W.heap[k]? = some (.cells cs T fr) → W'.heap[k]? = some (.cells cs T fr)
theorem kpS_t {S : Nat → Prop} {A B C : World} (h : KpS S A B) (k : KpS S B C) : KpS S A C := ⟨h.1.trans k.1, fun i cs T fr q z => k.2 i cs T fr q (h.2 i cs T fr q z)⟩
theorem kpS_b {S : Nat → Prop} {B : Nat} (W : World) (l : Nat) (o o' : Obj) (_ : B ≤ l) (h : W.heap[l]? = some o) (hc : o.isCells = false) (hw : o.isWalk = false) : KpS S W (W.putObj l o') := by
  refine ⟨KeepsWalks.putObj _ h hw, fun k cs T fr _ z => ?_⟩
  by_cases e : k = l
  · subst e
    rw [z] at h
    cases h
    cases hc
  · exact (World.putObj_heap_other e).trans z
/-- The sets of the first k that belong to o. -/
def ofsN (L : Nat → Int) (o : Int) (k : Nat) : List Int := ((List.range k).filter (fun i => decide (L i = o))).map (fun i : Nat => (i : Int))
theorem ofs_yes {L : Nat → Int} {o : Int} {k : Nat} (h : L k = o) : ofsN L o (k + 1) = ofsN L o k ++ [(k : Int)] := by unfold ofsN; rw [List.range_succ, List.filter_append]; simp [h]
theorem ofs_no {L : Nat → Int} {o : Int} {k : Nat} (h : ¬ L k = o) : ofsN L o (k + 1) = ofsN L o k := by unfold ofsN; rw [List.range_succ, List.filter_append]; simp [h]
theorem ofs_len (L : Nat → Int) (o : Int) (k : Nat) : (ofsN L o k).length ≤ k := by
  unfold ofsN; rw [List.length_map]; exact Nat.le_trans (List.length_filter_le _ _) (by simp)
/-- What the one that tells reads: its two boxes, the cache. -/
structure IterC (W : World) (Bc Bo b r n : Nat) (L : Nat → Int) (o : Int) : Prop where
  bc : W.heap[Bc]? = some (.cells #[.pointer (some ⟨b, 0, none⟩)] 47 (0, 0))
  bo : W.heap[Bo]? = some (.cells #[.int .i64 o] 3 (0, 0))
  ch : Ch CT W b r n L
def IterS (Bc Bo b r : Nat) (k : Nat) : Prop := k = Bc ∨ k = Bo ∨ k = b ∨ k = r
theorem IterC.kept {W W' : World} {Bc Bo b r n : Nat} {L : Nat → Int} {o : Int} (h : IterC W Bc Bo b r n L o) (hk : KpS (IterS Bc Bo b r) W W') : IterC W' Bc Bo b r n L o := by
  obtain ⟨cur, hb, h1, h2⟩ := h.ch.row
  exact ⟨hk.2 _ _ _ _ (.inl rfl) h.bc, hk.2 _ _ _ _ (.inr (.inl rfl)) h.bo, ⟨hk.2 _ _ _ _ (.inr (.inr (.inl rfl))) h.ch.str, ⟨cur, hk.2 _ _ _ _ (.inr (.inr (.inr rfl))) hb, h1, h2⟩, h.ch.ne, h.ch.few, h.ch.wf⟩⟩
theorem IterC.below {W W' : World} {Bc Bo b r n : Nat} {L : Nat → Int} {o : Int} (h : IterC W Bc Bo b r n L o) (hk : Below W.heap.size W W') : IterC W' Bc Bo b r n L o :=
  ⟨kept_obj hk h.bc, kept_obj hk h.bo, h.ch.below hk⟩
theorem grown_drew (W : World) : W.grownBy W.drew none := ⟨rfl, rfl, rfl, Nat.le_refl _, fun _ _ _ => rfl⟩
/-- One answer or the other one. -/
theorem told_or {e : Ending} {A B : Prop} (h : (e = .returned (.bool true) ∧ A) ∨ (e = .returned (.bool false) ∧ B)) : ∃ q, e = .returned (.bool q) ∧ Hid ((q = true → A) ∧ (q = false → B)) := by
  rcases h with ⟨h, a⟩ | ⟨h, b⟩
  · exact ⟨true, h, fun _ => a, fun q => by cases q⟩
  · exact ⟨false, h, fun q => by (cases q), fun _ => b⟩
theorem sets_fn : Fence.wide.fn 55 := trivial

set_option maxRecDepth 100000 in
set_option maxHeartbeats 4000000 in
theorem owned1_in (n : Nat) (hn : 1 ≤ n) (l Bc Bo b r m : Nat) (L : Nat → Int) (o : Int) (J Jx : List Int → World → Prop) (W : World) (hJ : AbidesFrom W.heap.size J)
    (hY : ∀ pre x W1, x ≤ 255 → J pre W1 → pre.length < 257 → YieldAt Fence.wide (n - 1) Try.prog l #[.int .i64 x] W1 fun e W' =>
      (e = .returned (.bool true) ∧ J (pre ++ [x]) W' ∧ KpS (IterS Bc Bo b r) W1 W') ∨ (e = .returned (.bool false) ∧ Jx (pre ++ [x]) W'))
    (hB : IterC W Bc Bo b r m L o) (h0 : J [] W) :
    CallsIn Fence.wide n Try.prog 54 #[.func (.yield l) #[] #[], .pointer (some ⟨Bc, 0, none⟩), .pointer (some ⟨Bo, 0, none⟩)] W fun e W' => (∃ v, e = .returned v) ∧
      ((∃ ys, ys = ofsN L o m ∧ J ys W') ∨ (∃ pre, True ∧ Jx pre W')) := by
  have HY := Lib.hid hY
  have HJ := Lib.hid hJ
  have HB0 := Lib.hid hB
  have H0 : Hid (J (ofsN L o 0) W) := h0
  have C := Lib.hid (sets_any hB.ch)
  have k0 : W.cell? ⟨Bc, 0, none⟩ = some (.pointer (some ⟨b, 0, none⟩)) := by rw [blk_cell hB.bc]; rfl
  have hm := hB.ch.few
  clear hY hJ hB h0
  refine callsIn_of_wp Try.func54 rfl trivial ?_ rfl
  simp only [Try.ntmps54, List.size_toArray, List.length_cons, List.length_nil, Nat.reduceAdd, Nat.reduceSub, Array.replicate_succ, Array.replicate_zero, List.push_toArray, List.append_toArray, List.nil_append, List.cons_append]
  gi_wp2_with ((with_reducible refine And.intro (a := Fence.wide.fn 55) sets_fn ?_); gi_at_call 55; (refine (callsIn_wide.2 C.out).mono ?_); rintro e w' ⟨rfl, rfl⟩)
  clear C
  gi_loopw [4, 7] (fun v u wr => ∃ k : Nat, k ≤ m ∧ u = .int .i64 k ∧ Hid (J (ofsN L o k) wr) ∧ Hid (IterC wr Bc Bo b r m L o)) (fun _ u _ => (m - intOf u).toNat)
  case atStart => exact ⟨0, by omega, rfl, H0, HB0⟩
  case round =>
    obtain ⟨k, hk, rfl, HJk, HI⟩ := hrel
    clear k0
    have k0 : wr.cell? ⟨Bc, 0, none⟩ = some (.pointer (some ⟨b, 0, none⟩)) := by rw [blk_cell HI.out.bc]; rfl
    have k1 : wr.cell? ⟨Bo, 0, none⟩ = some (.int .i64 o) := by rw [blk_cell HI.out.bo]; rfl
    have k2 := HI.out.ch.slice
    by_cases hlt : k < m
    · have k3 := HI.out.ch.row.cell hlt
      have hkt : decide ((k : Int) < m) = true := decide_eq_true (by omega)
      have hmix : Try.prog.follows .mixedOrders = true := by kernel_rfl
      by_cases ho : L k = o
      · have hd : (L k == o) = true := by simp [ho]
        obtain ⟨fn, tmps, assign, body, hy, hR⟩ := HY.out (ofsN L o k) (k : Int) wr.drew (by omega) (HJ.out _ _ _ none HJk.out (grown_drew wr) (fun _ q => by cases q)) (by have := ofs_len L o k; omega)
        have HR := Lib.hid hR
        have HE : Hid (ofsN L o (k + 1) = ofsN L o k ++ [(k : Int)]) := ofs_yes ho
        have HI2 : Hid (IterC wr.drew Bc Bo b r m L o) := HI.out.below (bw_drew (Below.refl _ _))
        clear ho HJk hR
        generalize L k = x at *
        gi_wp2
        gi_region_with_o ((refine HR.out.mono ?_); rintro e W3 h3; obtain ⟨q, rfl, H3⟩ := told_or h3; clear h3)
        all_goals
          cases q
          · have HX := Lib.hid (H3.out.2 rfl)
            clear H3
            gi_wp2
            refine bodyPost_ret (results_none rfl _ _ _) rfl ?_
            exact ⟨⟨_, rfl⟩, .inr ⟨_, trivial, HX.out⟩⟩
          · have HX := Lib.hid (H3.out.1 rfl)
            clear H3
            gi_wp2
            go_roundw
            case rel => exact ⟨k + 1, by omega, by go_num, by rw [HE.out]; exact HX.out.1, HI2.out.kept HX.out.2⟩
            case measure => simp [intOf]; omega
      · have hd : (L k == o) = false := by simp [ho]
        have HN : Hid (∀ q, J (ofsN L o (k + 1)) (wr.drewN q) ∧ IterC (wr.drewN q) Bc Bo b r m L o) := fun q => ⟨by rw [ofs_no ho]; exact HJ.out _ _ _ none HJk.out ⟨rfl, rfl, rfl, Nat.le_refl _, fun _ _ _ => rfl⟩ (fun _ q => by cases q), HI.out.below ⟨rfl, rfl, rfl, Nat.le_refl _, fun _ _ => rfl⟩⟩
        clear ho HJk
        generalize L k = x at *
        gi_wp2
        refine wpIn_wide.2 ?_
        go_quiet (fail)
        gi_wp2
        go_roundw
        case rel => exact ⟨k + 1, by omega, by go_num, (HN.out _).1, (HN.out _).2⟩
        case measure => simp [intOf]; omega
    · obtain rfl : k = m := by omega
      gi_wp2
      go_end0
      exact ⟨⟨_, rfl⟩, .inl ⟨_, rfl, HJk.out⟩⟩
/-- A set's number. -/
abbrev SetNo := { x : Int // x ≤ 255 }
theorem stops_of {n m : Nat} {lb : Array Value} {Kp : World → World → Prop} {S : List Int → Prop} {N : Nat} {gf : Nat} {w : World}
    (h : ∀ (l : Nat) (J Jx : List Int → World → Prop) (W : World), Below w.heap.size w W → AbidesFrom W.heap.size J →
      (∀ pre x W1, x ≤ 255 → J pre W1 → pre.length < N → YieldAt Fence.wide (n - 1) Try.prog l #[.int .i64 x] W1 fun e W' => (e = .returned (.bool true) ∧ J (pre ++ [x]) W' ∧ Kp W1 W') ∨ (e = .returned (.bool false) ∧ Jx (pre ++ [x]) W')) →
      J [] W → CallsIn Fence.wide n Try.prog gf (#[.func (.yield l) #[] #[]] ++ lb) W fun e W' => (∃ v, e = .returned v) ∧ ((∃ ys, S ys ∧ J ys W') ∨ (∃ pre, True ∧ Jx pre W'))) :
    SeqStopsK Fence.wide n Try.prog gf lb (fun x : SetNo => #[.int .i64 x.1]) Kp (fun ys => S (ys.map Subtype.val)) (fun _ => True) N w := fun l J Jx W hW hJ _ hY h0 => by
  refine (h l (fun pre W => ∃ ys : List SetNo, ys.map Subtype.val = pre ∧ J ys W) (fun pre W => ∃ ys : List SetNo, ys.map Subtype.val = pre ∧ Jx ys W) W hW (fun s X Y row ⟨ys, e, hs⟩ hg hr => ⟨ys, e, hJ ys X Y row hs hg hr⟩) ?_ ⟨[], rfl, h0⟩).mono ?_
  · rintro pre x W1 hx ⟨ys, rfl, hs⟩ hlt
    refine (hY ys ⟨x, hx⟩ W1 hs (by simpa using hlt)).mono ?_
    rintro e W' (⟨he, hj, hk⟩ | ⟨he, hj⟩)
    · exact .inl ⟨he, ⟨ys ++ [⟨x, hx⟩], by simp, hj⟩, hk⟩
    · exact .inr ⟨he, ⟨ys ++ [⟨x, hx⟩], by simp, hj⟩⟩
  · rintro e W' ⟨he, ⟨_, hS, ys, rfl, hj⟩ | ⟨_, _, ys, rfl, hj⟩⟩
    · exact ⟨he, .inl ⟨ys, hS, hj⟩⟩
    · exact ⟨he, .inr ⟨ys, trivial, hj⟩⟩
theorem owned1_stops (n : Nat) (hn : 1 ≤ n) (Bc Bo b r m : Nat) (L : Nat → Int) (o : Int) (w : World) (hB : IterC w Bc Bo b r m L o) :
    SeqStopsK Fence.wide n Try.prog 54 #[.pointer (some ⟨Bc, 0, none⟩), .pointer (some ⟨Bo, 0, none⟩)] (fun x : SetNo => #[.int .i64 x.1]) (KpS (IterS Bc Bo b r)) (fun ys => ys.map Subtype.val = ofsN L o m) (fun _ => True) 257 w :=
  stops_of (m := 0) (S := fun ys => ys = ofsN L o m) fun l J Jx W hW hJ hY h0 => owned1_in n hn l Bc Bo b r m L o J Jx W hJ hY (hB.below hW) h0
set_option maxRecDepth 100000 in
set_option maxHeartbeats 2000000 in
/-- Of no cache none are told. -/
theorem owned1_nil (n : Nat) (hn : 1 ≤ n) (Bc Bo : Nat) (o : Int) (w : World) (bc : w.heap[Bc]? = some (.cells #[.pointer none] 47 (0, 0))) :
    SeqStopsK Fence.wide n Try.prog 54 #[.pointer (some ⟨Bc, 0, none⟩), .pointer (some ⟨Bo, 0, none⟩)] (fun x : SetNo => #[.int .i64 x.1]) (KpS (fun k => k = Bc ∨ k = Bo ∨ False)) (fun ys => ys.map Subtype.val = ofsN (fun _ => 0) o 0) (fun _ => True) 257 w :=
  stops_of (m := 0) (S := fun ys => ys = ofsN (fun _ => 0) o 0) fun l J Jx W hW hJ hY h0 => by
  have k0 : W.cell? ⟨Bc, 0, none⟩ = some (.pointer none) := by rw [blk_cell (kept_obj hW bc)]; rfl
  have H0 : Hid (J [] W) := h0
  have C := Lib.hid (sets_nil W)
  clear hJ hY bc h0 hW
  refine callsIn_of_wp Try.func54 rfl trivial ?_ rfl
  simp only [Try.ntmps54, List.size_toArray, List.length_cons, List.length_nil, Nat.reduceAdd, Nat.reduceSub, Array.replicate_succ, Array.replicate_zero, List.push_toArray, List.append_toArray, List.nil_append, List.cons_append]
  gi_wp2_with ((with_reducible refine And.intro (a := Fence.wide.fn 55) sets_fn ?_); gi_at_call 55; (refine (callsIn_wide.2 C.out).mono ?_); rintro e w' ⟨rfl, rfl⟩)
  clear C
  gi_loopw [4, 7] (fun v u wr => u = .int .i64 0 ∧ Hid (J [] wr)) (fun _ u _ => (0 - intOf u).toNat)
  case atStart => exact ⟨rfl, H0⟩
  case round =>
    obtain ⟨rfl, HJk⟩ := hrel
    clear k0
    gi_wp2
    go_end0
    exact ⟨⟨_, rfl⟩, .inl ⟨_, rfl, HJk.out⟩⟩
set_option maxRecDepth 100000 in
theorem owned_val (ad : Option Addr) (o : Int) (n : Nat) (w : World) :
    CallsIn Fence.wide n Try.prog 41 #[.pointer ad, .int .i64 o] w fun e w' => e = .returned (.func (.func 54) #[] #[.pointer (some ⟨w.heap.size, 0, none⟩), .pointer (some ⟨w.heap.size + 1, 0, none⟩)]) ∧ w' = (w.alloc (.cells #[.pointer ad] 47)).alloc (.cells #[.int .i64 o] 3) := by
  have hmf : ∀ (fn : Fn) (first cap : Array Value) (w : World), (Instr.makeFunc fn first cap).run Try.prog w = .ok (.func fn first cap) w := fun _ _ _ _ => rfl
  refine callsIn_of_wp Try.func41 rfl trivial ?_ rfl
  simp only [Try.ntmps41, List.size_toArray, List.length_cons, List.length_nil, Nat.reduceAdd, Nat.reduceSub, Array.replicate_succ, Array.replicate_zero, List.push_toArray, List.append_toArray, List.nil_append, List.cons_append]
  gi_wp2
  go_ret
  exact ⟨rfl, rfl⟩
end Go.Proofs.Ytcanbjgbpkofaaa

/-
  The walks over the ticks from 0 on, and those below an end, the last one first, told one by one.
-/
namespace Go.Proofs.Ytcanbjgbpkofaaa
open Go.RowKit Go.Maps Go.Shelf
attribute [local go_sem] Oper.semAt_some

theorem up_pre {k m : Nat} (h : k ≤ m) : upT k <+: upT m := by
  rw [← upT_take m k h]; exact List.take_prefix _ _
theorem down_pre {C k m : Nat} (h : k ≤ m) : downT C k <+: downT C m := by
  rw [← downT_take C m k h]; exact List.take_prefix _ _
/-- What tells ticks. -/
def Tells (gf : Nat) (lb : Array Value) (S : Nat → Prop) (l : List Nat) (w : World) : Prop :=
  ∀ n, 1 ≤ n → SeqStopsK Fence.wide n Try.prog gf lb (fun x : Nat => #[.int .i64 (x : Int)]) (KpS S) (fun ys => ys = l) (fun pre => pre <+: l) 1000 w

set_option maxRecDepth 100000 in
set_option maxHeartbeats 4000000 in
theorem rising1_in (n : Nat) (hn : 1 ≤ n) (l Be m : Nat) (hm : m ≤ 24) (S : Nat → Prop) (hS : S Be) (J Jx : List Nat → World → Prop) (W : World)
    (hY : ∀ pre (x : Nat) W1, J pre W1 → pre.length < 1000 → YieldAt Fence.wide (n - 1) Try.prog l #[.int .i64 (x : Int)] W1 fun e W' =>
      (e = .returned (.bool true) ∧ J (pre ++ [x]) W' ∧ KpS S W1 W') ∨ (e = .returned (.bool false) ∧ Jx (pre ++ [x]) W'))
    (hB : W.heap[Be]? = some (.cells #[.int .i64 (m : Int)] 2 (0, 0))) (h0 : J [] W) :
    CallsIn Fence.wide n Try.prog 48 #[.func (.yield l) #[] #[], .pointer (some ⟨Be, 0, none⟩)] W fun e W' => (∃ v, e = .returned v) ∧
      ((∃ ys, ys = upT m ∧ J ys W') ∨ (∃ pre, pre <+: upT m ∧ Jx pre W')) := by
  have HY := Lib.hid hY
  have HB := Lib.hid hB
  have H0 : Hid (J (upT 0) W) := h0
  clear hY hB h0
  refine callsIn_of_wp Try.func48 rfl trivial ?_ rfl
  simp only [Try.ntmps48, List.size_toArray, List.length_cons, List.length_nil, Nat.reduceAdd, Nat.reduceSub, Array.replicate_succ, Array.replicate_zero, List.push_toArray, List.append_toArray, List.nil_append, List.cons_append]
  gi_wp2
  gi_loopw [3] (fun u wr => ∃ k : Nat, k ≤ m ∧ u = .int .i64 k ∧ Hid (J (upT k) wr) ∧ Hid (wr.heap[Be]? = some (.cells #[.int .i64 (m : Int)] 2 (0, 0)))) (fun u _ => (m - intOf u).toNat)
  case atStart => exact ⟨0, by omega, rfl, H0, HB⟩
  case round =>
    obtain ⟨k, hk, rfl, HJk, HI⟩ := hrel
    have k0 : wr.cell? ⟨Be, 0, none⟩ = some (.int .i64 (m : Int)) := by rw [blk_cell HI.out]; rfl
    by_cases hlt : k < m
    · have hlt' : (k : Int) < (m : Int) := by omega
      obtain ⟨fn, tmps, assign, body, hy, hR⟩ := HY.out (upT k) k wr HJk.out (by rw [upT_len]; omega)
      have HR := Lib.hid hR
      clear HJk hR
      gi_wp2_with ((refine HR.out.mono ?_); rintro e W3 h3; obtain ⟨q, rfl, H3⟩ := told_or h3; clear h3)
      · have HX := Lib.hid (H3.out.1 (by assumption))
        clear H3
        go_roundw
        case rel => exact ⟨k + 1, by omega, by go_num, by rw [upT_succ]; exact HX.out.1, HX.out.2.2 _ _ _ _ hS HI.out⟩
        case measure => simp [intOf]; omega
      · have HX := Lib.hid (H3.out.2 (by assumption))
        clear H3
        go_end0
        exact ⟨⟨_, rfl⟩, .inr ⟨_, by have := up_pre (k := k + 1) (m := m) (by omega); rwa [upT_succ] at this, HX.out⟩⟩
    · obtain rfl : k = m := by omega
      gi_wp2
      refine ⟨fun _ h => (by cases h), ?_⟩
      gi_wp2
      go_end0
      exact ⟨⟨_, rfl⟩, .inl ⟨_, rfl, HJk.out⟩⟩
set_option maxRecDepth 100000 in
set_option maxHeartbeats 4000000 in
theorem falling1_in (n : Nat) (hn : 1 ≤ n) (l Be Bf C a : Nat) (hC : C ≤ 24) (ha : a ≤ C) (S : Nat → Prop) (hS : S Be) (hS2 : S Bf) (J Jx : List Nat → World → Prop) (W : World)
    (hY : ∀ pre (x : Nat) W1, J pre W1 → pre.length < 1000 → YieldAt Fence.wide (n - 1) Try.prog l #[.int .i64 (x : Int)] W1 fun e W' =>
      (e = .returned (.bool true) ∧ J (pre ++ [x]) W' ∧ KpS S W1 W') ∨ (e = .returned (.bool false) ∧ Jx (pre ++ [x]) W'))
    (hB : W.heap[Be]? = some (.cells #[.int .i64 (C : Int)] 2 (0, 0))) (hB2 : W.heap[Bf]? = some (.cells #[.int .i64 (a : Int)] 2 (0, 0))) (h0 : J [] W) :
    CallsIn Fence.wide n Try.prog 49 #[.func (.yield l) #[] #[], .pointer (some ⟨Be, 0, none⟩), .pointer (some ⟨Bf, 0, none⟩)] W fun e W' => (∃ v, e = .returned v) ∧
      ((∃ ys, ys = downT C (C - a) ∧ J ys W') ∨ (∃ pre, pre <+: downT C (C - a) ∧ Jx pre W')) := by
  have HY := Lib.hid hY
  have HB := Lib.hid hB
  have HB2 := Lib.hid hB2
  have e0 : W.cell? ⟨Be, 0, none⟩ = some (.int .i64 (C : Int)) := by rw [blk_cell hB]; rfl
  have e1 : IntKind.i64.wrap ((C : Int) - 1) = (C : Int) - 1 := IntWalk.i64_in _ (by omega)
  have H0 : Hid (J (downT C 0) W) := h0
  clear hY hB hB2 h0
  refine callsIn_of_wp Try.func49 rfl trivial ?_ rfl
  simp only [Try.ntmps49, List.size_toArray, List.length_cons, List.length_nil, Nat.reduceAdd, Nat.reduceSub, Array.replicate_succ, Array.replicate_zero, List.push_toArray, List.append_toArray, List.nil_append, List.cons_append]
  gi_wp2
  gi_loopw [4] (fun u wr => ∃ k : Nat, k ≤ C - a ∧ u = .int .i64 ((C : Int) - 1 - k) ∧ Hid (J (downT C k) wr) ∧ Hid (wr.heap[Bf]? = some (.cells #[.int .i64 (a : Int)] 2 (0, 0)))) (fun u _ => (intOf u + 1 - a).toNat)
  case atStart => exact ⟨0, by omega, by simp, H0, HB2⟩
  case round =>
    obtain ⟨k, hk, rfl, HJk, HI⟩ := hrel
    clear e0 e1
    have k0 : wr.cell? ⟨Bf, 0, none⟩ = some (.int .i64 (a : Int)) := by rw [blk_cell HI.out]; rfl
    by_cases hlt : k < C - a
    · obtain ⟨x, hx⟩ : ∃ x : Nat, x = C - 1 - k := ⟨_, rfl⟩
      have hxe : (C : Int) - 1 - k = (x : Int) := by omega
      have hlt' : (a : Int) ≤ (x : Int) := by omega
      have hx1 : IntKind.i64.wrap ((x : Int) - 1) = (x : Int) - 1 := IntWalk.i64_in _ (by omega)
      obtain ⟨fn, tmps, assign, body, hy, hR⟩ := HY.out (downT C k) x wr HJk.out (by rw [downT_len]; omega)
      have HXE := Lib.hid hx
      rw [hxe]
      clear hx
      have HR := Lib.hid hR
      clear HJk hR
      gi_wp2_with ((refine HR.out.mono ?_); rintro e W3 h3; obtain ⟨q, rfl, H3⟩ := told_or h3; clear h3)
      · have HX := Lib.hid (H3.out.1 (by assumption))
        clear H3
        go_roundw
        case rel => exact ⟨k + 1, by omega, by congr 1; omega, by rw [downT_succ, ← HXE.out]; exact HX.out.1, HX.out.2.2 _ _ _ _ hS2 HI.out⟩
        case measure => simp [intOf]; omega
      · have HX := Lib.hid (H3.out.2 (by assumption))
        clear H3
        go_end0
        exact ⟨⟨_, rfl⟩, .inr ⟨_, by have := down_pre (C := C) (k := k + 1) (m := C - a) (by omega); rwa [downT_succ, ← HXE.out] at this, HX.out⟩⟩
    · obtain rfl : k = C - a := by omega
      have hlt' : ¬ (a : Int) ≤ (C : Int) - 1 - ((C - a : Nat) : Int) := by omega
      gi_wp2
      refine ⟨fun _ h => (by cases h), ?_⟩
      gi_wp2
      go_end0
      exact ⟨⟨_, rfl⟩, .inl ⟨_, rfl, HJk.out⟩⟩

theorem tells_of {gf : Nat} {lb : Array Value} {S : Nat → Prop} {q : List Nat} {w : World}
    (h : ∀ n, 1 ≤ n → ∀ (l : Nat) (J Jx : List Nat → World → Prop) (W : World), Below w.heap.size w W →
      (∀ pre (x : Nat) W1, J pre W1 → pre.length < 1000 → YieldAt Fence.wide (n - 1) Try.prog l #[.int .i64 (x : Int)] W1 fun e W' => (e = .returned (.bool true) ∧ J (pre ++ [x]) W' ∧ KpS S W1 W') ∨ (e = .returned (.bool false) ∧ Jx (pre ++ [x]) W')) →
      J [] W → CallsIn Fence.wide n Try.prog gf (#[.func (.yield l) #[] #[]] ++ lb) W fun e W' => (∃ v, e = .returned v) ∧ ((∃ ys, ys = q ∧ J ys W') ∨ (∃ pre, pre <+: q ∧ Jx pre W'))) : Tells gf lb S q w :=
  fun n hn l J Jx W hW _ _ hY h0 => h n hn l J Jx W hW hY h0
theorem rising_tells (Be m : Nat) (hm : m ≤ 24) (w : World) (hB : w.heap[Be]? = some (.cells #[.int .i64 (m : Int)] 2 (0, 0))) :
    Tells 48 #[.pointer (some ⟨Be, 0, none⟩)] (fun k => k = Be) (upT m) w :=
  tells_of fun n hn l J Jx W hW hY h0 => rising1_in n hn l Be m hm (fun k => k = Be) rfl J Jx W hY (kept_obj hW hB) h0
theorem falling_tells (Be Bf C a : Nat) (hC : C ≤ 24) (ha : a ≤ C) (w : World) (hB : w.heap[Be]? = some (.cells #[.int .i64 (C : Int)] 2 (0, 0))) (hB2 : w.heap[Bf]? = some (.cells #[.int .i64 (a : Int)] 2 (0, 0))) :
    Tells 49 #[.pointer (some ⟨Be, 0, none⟩), .pointer (some ⟨Bf, 0, none⟩)] (fun k => k = Be ∨ k = Bf) (downT C (C - a)) w :=
  tells_of fun n hn l J Jx W hW hY h0 => falling1_in n hn l Be Bf C a hC ha (fun k => k = Be ∨ k = Bf) (.inl rfl) (.inr rfl) J Jx W hY (kept_obj hW hB) (kept_obj hW hB2) h0
theorem Tells.below {gf : Nat} {lb : Array Value} {S : Nat → Prop} {q : List Nat} {w w' : World} (h : Tells gf lb S q w) (hb : Below w.heap.size w w') : Tells gf lb S q w' :=
  fun n hn l J Jx W hW a b c d => h n hn l J Jx W (below_up hb hW) a b c d
set_option maxRecDepth 100000 in
/-- The one that tells the ticks from 0 on. -/
theorem rising_any (m : Nat) (w : World) : Calls Try.prog 27 #[.int .i64 (m : Int)] w fun e w' => e = .returned (.func (.func 48) #[] #[.pointer (some ⟨w.heap.size, 0, none⟩)]) ∧ w' = w.alloc (.cells #[.int .i64 (m : Int)] 2) := by
  have hmf : ∀ (fn : Fn) (first cap : Array Value) (w : World), (Instr.makeFunc fn first cap).run Try.prog w = .ok (.func fn first cap) w := fun _ _ _ _ => rfl
  go_enter Try.func27, Try.ntmps27
  go_wp2
  go_ret
  exact ⟨rfl, rfl⟩
set_option maxRecDepth 100000 in
/-- The one that tells the ticks below an end. -/
theorem falling_any (C a : Nat) (w : World) : Calls Try.prog 29 #[.int .i64 (C : Int), .int .i64 (a : Int)] w fun e w' => e = .returned (.func (.func 49) #[] #[.pointer (some ⟨w.heap.size, 0, none⟩), .pointer (some ⟨w.heap.size + 1, 0, none⟩)]) ∧ w' = (w.alloc (.cells #[.int .i64 (C : Int)] 2)).alloc (.cells #[.int .i64 (a : Int)] 2) := by
  have hmf : ∀ (fn : Fn) (first cap : Array Value) (w : World), (Instr.makeFunc fn first cap).run Try.prog w = .ok (.func fn first cap) w := fun _ _ _ _ => rfl
  go_enter Try.func29, Try.ntmps29
  go_wp2
  go_ret
  exact ⟨rfl, rfl⟩
end Go.Proofs.Ytcanbjgbpkofaaa

/-
  The walks over the document's own answers: one number put in, taken out.
-/
namespace Go.Proofs.Ytcanbjgbpkofaaa
open Go.RowKit

theorem set4_results {w : World} {b y0 y1 y2 y3 : Nat} (h : Four w b y0 y1 y2 y3) (x0 x1 x2 x3 : Nat) :
    ((((w.setCell ⟨b, 0, none⟩ (.int .u64 x0)).setCell ⟨b, 1, none⟩ (.int .u64 x1)).setCell ⟨b, 2, none⟩ (.int .u64 x2)).setCell ⟨b, 3, none⟩ (.int .u64 x3)).cell? ⟨b, 0, none⟩ = some (.int .u64 x0) ∧
    ((((w.setCell ⟨b, 0, none⟩ (.int .u64 x0)).setCell ⟨b, 1, none⟩ (.int .u64 x1)).setCell ⟨b, 2, none⟩ (.int .u64 x2)).setCell ⟨b, 3, none⟩ (.int .u64 x3)).cell? ⟨b, 1, none⟩ = some (.int .u64 x1) ∧
    ((((w.setCell ⟨b, 0, none⟩ (.int .u64 x0)).setCell ⟨b, 1, none⟩ (.int .u64 x1)).setCell ⟨b, 2, none⟩ (.int .u64 x2)).setCell ⟨b, 3, none⟩ (.int .u64 x3)).cell? ⟨b, 2, none⟩ = some (.int .u64 x2) ∧
    ((((w.setCell ⟨b, 0, none⟩ (.int .u64 x0)).setCell ⟨b, 1, none⟩ (.int .u64 x1)).setCell ⟨b, 2, none⟩ (.int .u64 x2)).setCell ⟨b, 3, none⟩ (.int .u64 x3)).cell? ⟨b, 3, none⟩ = some (.int .u64 x3) := by
  obtain ⟨s0, s1, s2, s3, _, _, _, _⟩ := h.set4 x0 x1 x2 x3
  unfold set4 at s0 s1 s2 s3
  exact ⟨s0, s1, s2, s3⟩

set_option maxHeartbeats 2000000 in
theorem rwith_low (x0 x1 x2 x3 : Nat) (i : Int) (h : i < 0) (w : World)
    (C : Hid (∀ w, Calls Try.prog 31 #[.agg #[.int .u64 x0, .int .u64 x1, .int .u64 x2, .int .u64 x3], .int .i64 i] w fun e w' => e = .returned (.bool false) ∧ Below w.heap.size w w')) :
    Calls Try.prog 32 #[.agg #[.int .u64 x0, .int .u64 x1, .int .u64 x2, .int .u64 x3], .int .i64 i] w fun e w' => e = .returned (.agg #[.int .u64 x0, .int .u64 x1, .int .u64 x2, .int .u64 x3]) ∧ Below w.heap.size w w' := by
  have FA := Lib.hid ((Four.new w x0 x1 x2 x3 32).alloc (.cells #[.int .u64 0, .int .u64 0, .int .u64 0, .int .u64 0] 32))
  have FZ := Four.new (w.alloc (.cells #[.int .u64 x0, .int .u64 x1, .int .u64 x2, .int .u64 x3] 32)) 0 0 0 0 32
  rw [World.size_alloc] at FZ
  have FZ := Lib.hid FZ
  have HB := Lib.hid (((Below.refl w.heap.size w).alloc (Nat.le_refl _) (.cells #[.int .u64 x0, .int .u64 x1, .int .u64 x2, .int .u64 x3] 32)).alloc (by simp) (.cells #[.int .u64 0, .int .u64 0, .int .u64 0, .int .u64 0] 32))
  go_enter Try.func32, Try.ntmps32
  go_wp2_with (go_at_call 31; (refine (C.out _).mono ?_); rintro e w1 ⟨rfl, hw1⟩; have FA1 := Lib.hid (FA.out.kept hw1); have FZ1 := Lib.hid (FZ.out.kept hw1); have HB1 := Lib.hid (below_next hw1 HB.out (Nat.le_refl _)); obtain ⟨a0, a1, a2, a3, c0, c1, c2, c3⟩ := FA1.out; obtain ⟨z0, z1, z2, z3, v0, v1, v2, v3⟩ := FZ1.out; clear hw1)
  refine bodyPost_ret (v := .agg #[.int .u64 x0, .int .u64 x1, .int .u64 x2, .int .u64 x3]) ?_ rfl ⟨rfl, below_set4 HB1.out (by simp) x0 x1 x2 x3⟩
  obtain ⟨s0, s1, s2, s3⟩ := set4_results FZ1.out x0 x1 x2 x3
  simp [results, Try.results32, go_sem, s0, s1, s2, s3]

set_option maxHeartbeats 2000000 in
theorem rwith_high (x0 x1 x2 x3 : Nat) (i : Int) (h0 : 0 ≤ i) (h : 255 < i) (w : World)
    (C : Hid (∀ w, Calls Try.prog 31 #[.agg #[.int .u64 x0, .int .u64 x1, .int .u64 x2, .int .u64 x3], .int .i64 i] w fun e w' => e = .returned (.bool false) ∧ Below w.heap.size w w')) :
    Calls Try.prog 32 #[.agg #[.int .u64 x0, .int .u64 x1, .int .u64 x2, .int .u64 x3], .int .i64 i] w fun e w' => e = .returned (.agg #[.int .u64 x0, .int .u64 x1, .int .u64 x2, .int .u64 x3]) ∧ Below w.heap.size w w' := by
  have FA := Lib.hid ((Four.new w x0 x1 x2 x3 32).alloc (.cells #[.int .u64 0, .int .u64 0, .int .u64 0, .int .u64 0] 32))
  have FZ := Four.new (w.alloc (.cells #[.int .u64 x0, .int .u64 x1, .int .u64 x2, .int .u64 x3] 32)) 0 0 0 0 32
  rw [World.size_alloc] at FZ
  have FZ := Lib.hid FZ
  have HB := Lib.hid (((Below.refl w.heap.size w).alloc (Nat.le_refl _) (.cells #[.int .u64 x0, .int .u64 x1, .int .u64 x2, .int .u64 x3] 32)).alloc (by simp) (.cells #[.int .u64 0, .int .u64 0, .int .u64 0, .int .u64 0] 32))
  go_enter Try.func32, Try.ntmps32
  go_wp2_with (go_at_call 31; (refine (C.out _).mono ?_); rintro e w1 ⟨rfl, hw1⟩; have FA1 := Lib.hid (FA.out.kept hw1); have FZ1 := Lib.hid (FZ.out.kept hw1); have HB1 := Lib.hid (below_next hw1 HB.out (Nat.le_refl _)); obtain ⟨a0, a1, a2, a3, c0, c1, c2, c3⟩ := FA1.out; obtain ⟨z0, z1, z2, z3, v0, v1, v2, v3⟩ := FZ1.out; clear hw1)
  refine bodyPost_ret (v := .agg #[.int .u64 x0, .int .u64 x1, .int .u64 x2, .int .u64 x3]) ?_ rfl ⟨rfl, below_set4 HB1.out (by simp) x0 x1 x2 x3⟩
  obtain ⟨s0, s1, s2, s3⟩ := set4_results FZ1.out x0 x1 x2 x3
  simp [results, Try.results32, go_sem, s0, s1, s2, s3]

set_option maxHeartbeats 2000000 in
theorem rwith_same (x0 x1 x2 x3 : Nat) (i : Int) (h0 : 0 ≤ i) (h : i ≤ 255) (w : World)
    (C : Hid (∀ w, Calls Try.prog 31 #[.agg #[.int .u64 x0, .int .u64 x1, .int .u64 x2, .int .u64 x3], .int .i64 i] w fun e w' => e = .returned (.bool true) ∧ Below w.heap.size w w')) :
    Calls Try.prog 32 #[.agg #[.int .u64 x0, .int .u64 x1, .int .u64 x2, .int .u64 x3], .int .i64 i] w fun e w' => e = .returned (.agg #[.int .u64 x0, .int .u64 x1, .int .u64 x2, .int .u64 x3]) ∧ Below w.heap.size w w' := by
  have FA := Lib.hid ((Four.new w x0 x1 x2 x3 32).alloc (.cells #[.int .u64 0, .int .u64 0, .int .u64 0, .int .u64 0] 32))
  have FZ := Four.new (w.alloc (.cells #[.int .u64 x0, .int .u64 x1, .int .u64 x2, .int .u64 x3] 32)) 0 0 0 0 32
  rw [World.size_alloc] at FZ
  have FZ := Lib.hid FZ
  have HB := Lib.hid (((Below.refl w.heap.size w).alloc (Nat.le_refl _) (.cells #[.int .u64 x0, .int .u64 x1, .int .u64 x2, .int .u64 x3] 32)).alloc (by simp) (.cells #[.int .u64 0, .int .u64 0, .int .u64 0, .int .u64 0] 32))
  go_enter Try.func32, Try.ntmps32
  go_wp2_with (go_at_call 31; (refine (C.out _).mono ?_); rintro e w1 ⟨rfl, hw1⟩; have FA1 := Lib.hid (FA.out.kept hw1); have FZ1 := Lib.hid (FZ.out.kept hw1); have HB1 := Lib.hid (below_next hw1 HB.out (Nat.le_refl _)); obtain ⟨a0, a1, a2, a3, c0, c1, c2, c3⟩ := FA1.out; obtain ⟨z0, z1, z2, z3, v0, v1, v2, v3⟩ := FZ1.out; clear hw1)
  refine bodyPost_ret (v := .agg #[.int .u64 x0, .int .u64 x1, .int .u64 x2, .int .u64 x3]) ?_ rfl ⟨rfl, below_set4 HB1.out (by simp) x0 x1 x2 x3⟩
  obtain ⟨s0, s1, s2, s3⟩ := set4_results FZ1.out x0 x1 x2 x3
  simp [results, Try.results32, go_sem, s0, s1, s2, s3]

set_option maxHeartbeats 2000000 in
theorem rwith_0 (x0 x1 x2 x3 : Nat) (i : Int) (_h0 : 0 ≤ i) (_h255 : i ≤ 255) (h1 : i / 64 = 0) (j : Nat) (hj : j < 64) (h2 : i % 64 = j) (y : Nat) (hy : x0 + 2 ^ j = y) (hl : y < 18446744073709551616) (w : World)
    (C : Hid (∀ w, Calls Try.prog 31 #[.agg #[.int .u64 x0, .int .u64 x1, .int .u64 x2, .int .u64 x3], .int .i64 i] w fun e w' => e = .returned (.bool false) ∧ Below w.heap.size w w')) :
    Calls Try.prog 32 #[.agg #[.int .u64 x0, .int .u64 x1, .int .u64 x2, .int .u64 x3], .int .i64 i] w fun e w' => e = .returned (.agg #[.int .u64 y, .int .u64 x1, .int .u64 x2, .int .u64 x3]) ∧ Below w.heap.size w w' := by
  have FA := Lib.hid ((Four.new w x0 x1 x2 x3 32).alloc (.cells #[.int .u64 0, .int .u64 0, .int .u64 0, .int .u64 0] 32))
  have FZ := Four.new (w.alloc (.cells #[.int .u64 x0, .int .u64 x1, .int .u64 x2, .int .u64 x3] 32)) 0 0 0 0 32
  rw [World.size_alloc] at FZ
  have FZ := Lib.hid FZ
  have HB := Lib.hid (((Below.refl w.heap.size w).alloc (Nat.le_refl _) (.cells #[.int .u64 x0, .int .u64 x1, .int .u64 x2, .int .u64 x3] 32)).alloc (by simp) (.cells #[.int .u64 0, .int .u64 0, .int .u64 0, .int .u64 0] 32))
  have hs : IntKind.u64.wrap ((x0 : Int) + ((2 ^ j : Nat) : Int)) = (y : Int) := by rw [← Int.natCast_add, hy]; exact u64_nat y hl
  have pw := pow_wrap hj
  clear hl hy
  generalize (2 : Nat) ^ j = z at pw hs
  go_enter Try.func32, Try.ntmps32
  go_wp2_with (go_at_call 31; (refine (C.out _).mono ?_); rintro e w1 ⟨rfl, hw1⟩; have FA1 := Lib.hid (FA.out.kept hw1); have FZ1 := Lib.hid (FZ.out.kept hw1); have HB1 := Lib.hid (below_next hw1 HB.out (Nat.le_refl _)); obtain ⟨a0, a1, a2, a3, c0, c1, c2, c3⟩ := FA1.out; obtain ⟨z0, z1, z2, z3, v0, v1, v2, v3⟩ := FZ1.out; clear hw1)
  refine bodyPost_ret (v := .agg #[.int .u64 y, .int .u64 x1, .int .u64 x2, .int .u64 x3]) ?_ rfl ⟨rfl, below_set4 (HB1.out.setCell (p := ⟨w.heap.size, 0, none⟩) (Nat.le_refl _) _) (by simp) y x1 x2 x3⟩
  obtain ⟨s0, s1, s2, s3⟩ := set4_results (FZ1.out.far (p := ⟨w.heap.size, 0, none⟩) (by simp) (.int .u64 y)) y x1 x2 x3
  simp [results, Try.results32, go_sem, s0, s1, s2, s3]

set_option maxHeartbeats 2000000 in
theorem rwith_1 (x0 x1 x2 x3 : Nat) (i : Int) (_h0 : 0 ≤ i) (_h255 : i ≤ 255) (h1 : i / 64 = 1) (j : Nat) (hj : j < 64) (h2 : i % 64 = j) (y : Nat) (hy : x1 + 2 ^ j = y) (hl : y < 18446744073709551616) (w : World)
    (C : Hid (∀ w, Calls Try.prog 31 #[.agg #[.int .u64 x0, .int .u64 x1, .int .u64 x2, .int .u64 x3], .int .i64 i] w fun e w' => e = .returned (.bool false) ∧ Below w.heap.size w w')) :
    Calls Try.prog 32 #[.agg #[.int .u64 x0, .int .u64 x1, .int .u64 x2, .int .u64 x3], .int .i64 i] w fun e w' => e = .returned (.agg #[.int .u64 x0, .int .u64 y, .int .u64 x2, .int .u64 x3]) ∧ Below w.heap.size w w' := by
  have FA := Lib.hid ((Four.new w x0 x1 x2 x3 32).alloc (.cells #[.int .u64 0, .int .u64 0, .int .u64 0, .int .u64 0] 32))
  have FZ := Four.new (w.alloc (.cells #[.int .u64 x0, .int .u64 x1, .int .u64 x2, .int .u64 x3] 32)) 0 0 0 0 32
  rw [World.size_alloc] at FZ
  have FZ := Lib.hid FZ
  have HB := Lib.hid (((Below.refl w.heap.size w).alloc (Nat.le_refl _) (.cells #[.int .u64 x0, .int .u64 x1, .int .u64 x2, .int .u64 x3] 32)).alloc (by simp) (.cells #[.int .u64 0, .int .u64 0, .int .u64 0, .int .u64 0] 32))
  have hs : IntKind.u64.wrap ((x1 : Int) + ((2 ^ j : Nat) : Int)) = (y : Int) := by rw [← Int.natCast_add, hy]; exact u64_nat y hl
  have pw := pow_wrap hj
  clear hl hy
  generalize (2 : Nat) ^ j = z at pw hs
  go_enter Try.func32, Try.ntmps32
  go_wp2_with (go_at_call 31; (refine (C.out _).mono ?_); rintro e w1 ⟨rfl, hw1⟩; have FA1 := Lib.hid (FA.out.kept hw1); have FZ1 := Lib.hid (FZ.out.kept hw1); have HB1 := Lib.hid (below_next hw1 HB.out (Nat.le_refl _)); obtain ⟨a0, a1, a2, a3, c0, c1, c2, c3⟩ := FA1.out; obtain ⟨z0, z1, z2, z3, v0, v1, v2, v3⟩ := FZ1.out; clear hw1)
  refine bodyPost_ret (v := .agg #[.int .u64 x0, .int .u64 y, .int .u64 x2, .int .u64 x3]) ?_ rfl ⟨rfl, below_set4 (HB1.out.setCell (p := ⟨w.heap.size, 1, none⟩) (Nat.le_refl _) _) (by simp) x0 y x2 x3⟩
  obtain ⟨s0, s1, s2, s3⟩ := set4_results (FZ1.out.far (p := ⟨w.heap.size, 1, none⟩) (by simp) (.int .u64 y)) x0 y x2 x3
  simp [results, Try.results32, go_sem, s0, s1, s2, s3]

set_option maxHeartbeats 2000000 in
theorem rwith_2 (x0 x1 x2 x3 : Nat) (i : Int) (_h0 : 0 ≤ i) (_h255 : i ≤ 255) (h1 : i / 64 = 2) (j : Nat) (hj : j < 64) (h2 : i % 64 = j) (y : Nat) (hy : x2 + 2 ^ j = y) (hl : y < 18446744073709551616) (w : World)
    (C : Hid (∀ w, Calls Try.prog 31 #[.agg #[.int .u64 x0, .int .u64 x1, .int .u64 x2, .int .u64 x3], .int .i64 i] w fun e w' => e = .returned (.bool false) ∧ Below w.heap.size w w')) :
    Calls Try.prog 32 #[.agg #[.int .u64 x0, .int .u64 x1, .int .u64 x2, .int .u64 x3], .int .i64 i] w fun e w' => e = .returned (.agg #[.int .u64 x0, .int .u64 x1, .int .u64 y, .int .u64 x3]) ∧ Below w.heap.size w w' := by
  have FA := Lib.hid ((Four.new w x0 x1 x2 x3 32).alloc (.cells #[.int .u64 0, .int .u64 0, .int .u64 0, .int .u64 0] 32))
  have FZ := Four.new (w.alloc (.cells #[.int .u64 x0, .int .u64 x1, .int .u64 x2, .int .u64 x3] 32)) 0 0 0 0 32
  rw [World.size_alloc] at FZ
  have FZ := Lib.hid FZ
  have HB := Lib.hid (((Below.refl w.heap.size w).alloc (Nat.le_refl _) (.cells #[.int .u64 x0, .int .u64 x1, .int .u64 x2, .int .u64 x3] 32)).alloc (by simp) (.cells #[.int .u64 0, .int .u64 0, .int .u64 0, .int .u64 0] 32))
  have hs : IntKind.u64.wrap ((x2 : Int) + ((2 ^ j : Nat) : Int)) = (y : Int) := by rw [← Int.natCast_add, hy]; exact u64_nat y hl
  have pw := pow_wrap hj
  clear hl hy
  generalize (2 : Nat) ^ j = z at pw hs
  go_enter Try.func32, Try.ntmps32
  go_wp2_with (go_at_call 31; (refine (C.out _).mono ?_); rintro e w1 ⟨rfl, hw1⟩; have FA1 := Lib.hid (FA.out.kept hw1); have FZ1 := Lib.hid (FZ.out.kept hw1); have HB1 := Lib.hid (below_next hw1 HB.out (Nat.le_refl _)); obtain ⟨a0, a1, a2, a3, c0, c1, c2, c3⟩ := FA1.out; obtain ⟨z0, z1, z2, z3, v0, v1, v2, v3⟩ := FZ1.out; clear hw1)
  refine bodyPost_ret (v := .agg #[.int .u64 x0, .int .u64 x1, .int .u64 y, .int .u64 x3]) ?_ rfl ⟨rfl, below_set4 (HB1.out.setCell (p := ⟨w.heap.size, 2, none⟩) (Nat.le_refl _) _) (by simp) x0 x1 y x3⟩
  obtain ⟨s0, s1, s2, s3⟩ := set4_results (FZ1.out.far (p := ⟨w.heap.size, 2, none⟩) (by simp) (.int .u64 y)) x0 x1 y x3
  simp [results, Try.results32, go_sem, s0, s1, s2, s3]

set_option maxHeartbeats 2000000 in
theorem rwith_3 (x0 x1 x2 x3 : Nat) (i : Int) (_h0 : 0 ≤ i) (_h255 : i ≤ 255) (h1 : i / 64 = 3) (j : Nat) (hj : j < 64) (h2 : i % 64 = j) (y : Nat) (hy : x3 + 2 ^ j = y) (hl : y < 18446744073709551616) (w : World)
    (C : Hid (∀ w, Calls Try.prog 31 #[.agg #[.int .u64 x0, .int .u64 x1, .int .u64 x2, .int .u64 x3], .int .i64 i] w fun e w' => e = .returned (.bool false) ∧ Below w.heap.size w w')) :
    Calls Try.prog 32 #[.agg #[.int .u64 x0, .int .u64 x1, .int .u64 x2, .int .u64 x3], .int .i64 i] w fun e w' => e = .returned (.agg #[.int .u64 x0, .int .u64 x1, .int .u64 x2, .int .u64 y]) ∧ Below w.heap.size w w' := by
  have FA := Lib.hid ((Four.new w x0 x1 x2 x3 32).alloc (.cells #[.int .u64 0, .int .u64 0, .int .u64 0, .int .u64 0] 32))
  have FZ := Four.new (w.alloc (.cells #[.int .u64 x0, .int .u64 x1, .int .u64 x2, .int .u64 x3] 32)) 0 0 0 0 32
  rw [World.size_alloc] at FZ
  have FZ := Lib.hid FZ
  have HB := Lib.hid (((Below.refl w.heap.size w).alloc (Nat.le_refl _) (.cells #[.int .u64 x0, .int .u64 x1, .int .u64 x2, .int .u64 x3] 32)).alloc (by simp) (.cells #[.int .u64 0, .int .u64 0, .int .u64 0, .int .u64 0] 32))
  have hs : IntKind.u64.wrap ((x3 : Int) + ((2 ^ j : Nat) : Int)) = (y : Int) := by rw [← Int.natCast_add, hy]; exact u64_nat y hl
  have pw := pow_wrap hj
  clear hl hy
  generalize (2 : Nat) ^ j = z at pw hs
  go_enter Try.func32, Try.ntmps32
  go_wp2_with (go_at_call 31; (refine (C.out _).mono ?_); rintro e w1 ⟨rfl, hw1⟩; have FA1 := Lib.hid (FA.out.kept hw1); have FZ1 := Lib.hid (FZ.out.kept hw1); have HB1 := Lib.hid (below_next hw1 HB.out (Nat.le_refl _)); obtain ⟨a0, a1, a2, a3, c0, c1, c2, c3⟩ := FA1.out; obtain ⟨z0, z1, z2, z3, v0, v1, v2, v3⟩ := FZ1.out; clear hw1)
  refine bodyPost_ret (v := .agg #[.int .u64 x0, .int .u64 x1, .int .u64 x2, .int .u64 y]) ?_ rfl ⟨rfl, below_set4 (HB1.out.setCell (p := ⟨w.heap.size, 3, none⟩) (Nat.le_refl _) _) (by simp) x0 x1 x2 y⟩
  obtain ⟨s0, s1, s2, s3⟩ := set4_results (FZ1.out.far (p := ⟨w.heap.size, 3, none⟩) (by simp) (.int .u64 y)) x0 x1 x2 y
  simp [results, Try.results32, go_sem, s0, s1, s2, s3]

set_option maxHeartbeats 2000000 in
theorem rwithout_same (x0 x1 x2 x3 : Nat) (i : Int)  (w : World)
    (C : Hid (∀ w, Calls Try.prog 31 #[.agg #[.int .u64 x0, .int .u64 x1, .int .u64 x2, .int .u64 x3], .int .i64 i] w fun e w' => e = .returned (.bool false) ∧ Below w.heap.size w w')) :
    Calls Try.prog 33 #[.agg #[.int .u64 x0, .int .u64 x1, .int .u64 x2, .int .u64 x3], .int .i64 i] w fun e w' => e = .returned (.agg #[.int .u64 x0, .int .u64 x1, .int .u64 x2, .int .u64 x3]) ∧ Below w.heap.size w w' := by
  have FA := Lib.hid ((Four.new w x0 x1 x2 x3 32).alloc (.cells #[.int .u64 0, .int .u64 0, .int .u64 0, .int .u64 0] 32))
  have FZ := Four.new (w.alloc (.cells #[.int .u64 x0, .int .u64 x1, .int .u64 x2, .int .u64 x3] 32)) 0 0 0 0 32
  rw [World.size_alloc] at FZ
  have FZ := Lib.hid FZ
  have HB := Lib.hid (((Below.refl w.heap.size w).alloc (Nat.le_refl _) (.cells #[.int .u64 x0, .int .u64 x1, .int .u64 x2, .int .u64 x3] 32)).alloc (by simp) (.cells #[.int .u64 0, .int .u64 0, .int .u64 0, .int .u64 0] 32))
  go_enter Try.func33, Try.ntmps33
  go_wp2_with (go_at_call 31; (refine (C.out _).mono ?_); rintro e w1 ⟨rfl, hw1⟩; have FA1 := Lib.hid (FA.out.kept hw1); have FZ1 := Lib.hid (FZ.out.kept hw1); have HB1 := Lib.hid (below_next hw1 HB.out (Nat.le_refl _)); obtain ⟨a0, a1, a2, a3, c0, c1, c2, c3⟩ := FA1.out; obtain ⟨z0, z1, z2, z3, v0, v1, v2, v3⟩ := FZ1.out; clear hw1)
  refine bodyPost_ret (v := .agg #[.int .u64 x0, .int .u64 x1, .int .u64 x2, .int .u64 x3]) ?_ rfl ⟨rfl, below_set4 HB1.out (by simp) x0 x1 x2 x3⟩
  obtain ⟨s0, s1, s2, s3⟩ := set4_results FZ1.out x0 x1 x2 x3
  simp [results, Try.results33, go_sem, s0, s1, s2, s3]

set_option maxHeartbeats 2000000 in
theorem rwithout_0 (x0 x1 x2 x3 : Nat) (i : Int) (_h0 : 0 ≤ i) (_h255 : i ≤ 255) (h1 : i / 64 = 0) (j : Nat) (hj : j < 64) (h2 : i % 64 = j) (y : Nat) (hy : x0 = y + 2 ^ j) (hl : y < 18446744073709551616) (w : World)
    (C : Hid (∀ w, Calls Try.prog 31 #[.agg #[.int .u64 x0, .int .u64 x1, .int .u64 x2, .int .u64 x3], .int .i64 i] w fun e w' => e = .returned (.bool true) ∧ Below w.heap.size w w')) :
    Calls Try.prog 33 #[.agg #[.int .u64 x0, .int .u64 x1, .int .u64 x2, .int .u64 x3], .int .i64 i] w fun e w' => e = .returned (.agg #[.int .u64 y, .int .u64 x1, .int .u64 x2, .int .u64 x3]) ∧ Below w.heap.size w w' := by
  have FA := Lib.hid ((Four.new w x0 x1 x2 x3 32).alloc (.cells #[.int .u64 0, .int .u64 0, .int .u64 0, .int .u64 0] 32))
  have FZ := Four.new (w.alloc (.cells #[.int .u64 x0, .int .u64 x1, .int .u64 x2, .int .u64 x3] 32)) 0 0 0 0 32
  rw [World.size_alloc] at FZ
  have FZ := Lib.hid FZ
  have HB := Lib.hid (((Below.refl w.heap.size w).alloc (Nat.le_refl _) (.cells #[.int .u64 x0, .int .u64 x1, .int .u64 x2, .int .u64 x3] 32)).alloc (by simp) (.cells #[.int .u64 0, .int .u64 0, .int .u64 0, .int .u64 0] 32))
  have hs : IntKind.u64.wrap ((x0 : Int) - ((2 ^ j : Nat) : Int)) = (y : Int) := by rw [hy, Int.natCast_add, Int.add_sub_cancel]; exact u64_nat y hl
  have pw := pow_wrap hj
  clear hl hy
  generalize (2 : Nat) ^ j = z at pw hs
  go_enter Try.func33, Try.ntmps33
  go_wp2_with (go_at_call 31; (refine (C.out _).mono ?_); rintro e w1 ⟨rfl, hw1⟩; have FA1 := Lib.hid (FA.out.kept hw1); have FZ1 := Lib.hid (FZ.out.kept hw1); have HB1 := Lib.hid (below_next hw1 HB.out (Nat.le_refl _)); obtain ⟨a0, a1, a2, a3, c0, c1, c2, c3⟩ := FA1.out; obtain ⟨z0, z1, z2, z3, v0, v1, v2, v3⟩ := FZ1.out; clear hw1)
  refine bodyPost_ret (v := .agg #[.int .u64 y, .int .u64 x1, .int .u64 x2, .int .u64 x3]) ?_ rfl ⟨rfl, below_set4 (HB1.out.setCell (p := ⟨w.heap.size, 0, none⟩) (Nat.le_refl _) _) (by simp) y x1 x2 x3⟩
  obtain ⟨s0, s1, s2, s3⟩ := set4_results (FZ1.out.far (p := ⟨w.heap.size, 0, none⟩) (by simp) (.int .u64 y)) y x1 x2 x3
  simp [results, Try.results33, go_sem, s0, s1, s2, s3]

set_option maxHeartbeats 2000000 in
theorem rwithout_1 (x0 x1 x2 x3 : Nat) (i : Int) (_h0 : 0 ≤ i) (_h255 : i ≤ 255) (h1 : i / 64 = 1) (j : Nat) (hj : j < 64) (h2 : i % 64 = j) (y : Nat) (hy : x1 = y + 2 ^ j) (hl : y < 18446744073709551616) (w : World)
    (C : Hid (∀ w, Calls Try.prog 31 #[.agg #[.int .u64 x0, .int .u64 x1, .int .u64 x2, .int .u64 x3], .int .i64 i] w fun e w' => e = .returned (.bool true) ∧ Below w.heap.size w w')) :
    Calls Try.prog 33 #[.agg #[.int .u64 x0, .int .u64 x1, .int .u64 x2, .int .u64 x3], .int .i64 i] w fun e w' => e = .returned (.agg #[.int .u64 x0, .int .u64 y, .int .u64 x2, .int .u64 x3]) ∧ Below w.heap.size w w' := by
  have FA := Lib.hid ((Four.new w x0 x1 x2 x3 32).alloc (.cells #[.int .u64 0, .int .u64 0, .int .u64 0, .int .u64 0] 32))
  have FZ := Four.new (w.alloc (.cells #[.int .u64 x0, .int .u64 x1, .int .u64 x2, .int .u64 x3] 32)) 0 0 0 0 32
  rw [World.size_alloc] at FZ
  have FZ := Lib.hid FZ
  have HB := Lib.hid (((Below.refl w.heap.size w).alloc (Nat.le_refl _) (.cells #[.int .u64 x0, .int .u64 x1, .int .u64 x2, .int .u64 x3] 32)).alloc (by simp) (.cells #[.int .u64 0, .int .u64 0, .int .u64 0, .int .u64 0] 32))
  have hs : IntKind.u64.wrap ((x1 : Int) - ((2 ^ j : Nat) : Int)) = (y : Int) := by rw [hy, Int.natCast_add, Int.add_sub_cancel]; exact u64_nat y hl
  have pw := pow_wrap hj
  clear hl hy
  generalize (2 : Nat) ^ j = z at pw hs
  go_enter Try.func33, Try.ntmps33
  go_wp2_with (go_at_call 31; (refine (C.out _).mono ?_); rintro e w1 ⟨rfl, hw1⟩; have FA1 := Lib.hid (FA.out.kept hw1); have FZ1 := Lib.hid (FZ.out.kept hw1); have HB1 := Lib.hid (below_next hw1 HB.out (Nat.le_refl _)); obtain ⟨a0, a1, a2, a3, c0, c1, c2, c3⟩ := FA1.out; obtain ⟨z0, z1, z2, z3, v0, v1, v2, v3⟩ := FZ1.out; clear hw1)
  refine bodyPost_ret (v := .agg #[.int .u64 x0, .int .u64 y, .int .u64 x2, .int .u64 x3]) ?_ rfl ⟨rfl, below_set4 (HB1.out.setCell (p := ⟨w.heap.size, 1, none⟩) (Nat.le_refl _) _) (by simp) x0 y x2 x3⟩
  obtain ⟨s0, s1, s2, s3⟩ := set4_results (FZ1.out.far (p := ⟨w.heap.size, 1, none⟩) (by simp) (.int .u64 y)) x0 y x2 x3
  simp [results, Try.results33, go_sem, s0, s1, s2, s3]

set_option maxHeartbeats 2000000 in
theorem rwithout_2 (x0 x1 x2 x3 : Nat) (i : Int) (_h0 : 0 ≤ i) (_h255 : i ≤ 255) (h1 : i / 64 = 2) (j : Nat) (hj : j < 64) (h2 : i % 64 = j) (y : Nat) (hy : x2 = y + 2 ^ j) (hl : y < 18446744073709551616) (w : World)
    (C : Hid (∀ w, Calls Try.prog 31 #[.agg #[.int .u64 x0, .int .u64 x1, .int .u64 x2, .int .u64 x3], .int .i64 i] w fun e w' => e = .returned (.bool true) ∧ Below w.heap.size w w')) :
    Calls Try.prog 33 #[.agg #[.int .u64 x0, .int .u64 x1, .int .u64 x2, .int .u64 x3], .int .i64 i] w fun e w' => e = .returned (.agg #[.int .u64 x0, .int .u64 x1, .int .u64 y, .int .u64 x3]) ∧ Below w.heap.size w w' := by
  have FA := Lib.hid ((Four.new w x0 x1 x2 x3 32).alloc (.cells #[.int .u64 0, .int .u64 0, .int .u64 0, .int .u64 0] 32))
  have FZ := Four.new (w.alloc (.cells #[.int .u64 x0, .int .u64 x1, .int .u64 x2, .int .u64 x3] 32)) 0 0 0 0 32
  rw [World.size_alloc] at FZ
  have FZ := Lib.hid FZ
  have HB := Lib.hid (((Below.refl w.heap.size w).alloc (Nat.le_refl _) (.cells #[.int .u64 x0, .int .u64 x1, .int .u64 x2, .int .u64 x3] 32)).alloc (by simp) (.cells #[.int .u64 0, .int .u64 0, .int .u64 0, .int .u64 0] 32))
  have hs : IntKind.u64.wrap ((x2 : Int) - ((2 ^ j : Nat) : Int)) = (y : Int) := by rw [hy, Int.natCast_add, Int.add_sub_cancel]; exact u64_nat y hl
  have pw := pow_wrap hj
  clear hl hy
  generalize (2 : Nat) ^ j = z at pw hs
  go_enter Try.func33, Try.ntmps33
  go_wp2_with (go_at_call 31; (refine (C.out _).mono ?_); rintro e w1 ⟨rfl, hw1⟩; have FA1 := Lib.hid (FA.out.kept hw1); have FZ1 := Lib.hid (FZ.out.kept hw1); have HB1 := Lib.hid (below_next hw1 HB.out (Nat.le_refl _)); obtain ⟨a0, a1, a2, a3, c0, c1, c2, c3⟩ := FA1.out; obtain ⟨z0, z1, z2, z3, v0, v1, v2, v3⟩ := FZ1.out; clear hw1)
  refine bodyPost_ret (v := .agg #[.int .u64 x0, .int .u64 x1, .int .u64 y, .int .u64 x3]) ?_ rfl ⟨rfl, below_set4 (HB1.out.setCell (p := ⟨w.heap.size, 2, none⟩) (Nat.le_refl _) _) (by simp) x0 x1 y x3⟩
  obtain ⟨s0, s1, s2, s3⟩ := set4_results (FZ1.out.far (p := ⟨w.heap.size, 2, none⟩) (by simp) (.int .u64 y)) x0 x1 y x3
  simp [results, Try.results33, go_sem, s0, s1, s2, s3]

set_option maxHeartbeats 2000000 in
theorem rwithout_3 (x0 x1 x2 x3 : Nat) (i : Int) (_h0 : 0 ≤ i) (_h255 : i ≤ 255) (h1 : i / 64 = 3) (j : Nat) (hj : j < 64) (h2 : i % 64 = j) (y : Nat) (hy : x3 = y + 2 ^ j) (hl : y < 18446744073709551616) (w : World)
    (C : Hid (∀ w, Calls Try.prog 31 #[.agg #[.int .u64 x0, .int .u64 x1, .int .u64 x2, .int .u64 x3], .int .i64 i] w fun e w' => e = .returned (.bool true) ∧ Below w.heap.size w w')) :
    Calls Try.prog 33 #[.agg #[.int .u64 x0, .int .u64 x1, .int .u64 x2, .int .u64 x3], .int .i64 i] w fun e w' => e = .returned (.agg #[.int .u64 x0, .int .u64 x1, .int .u64 x2, .int .u64 y]) ∧ Below w.heap.size w w' := by
  have FA := Lib.hid ((Four.new w x0 x1 x2 x3 32).alloc (.cells #[.int .u64 0, .int .u64 0, .int .u64 0, .int .u64 0] 32))
  have FZ := Four.new (w.alloc (.cells #[.int .u64 x0, .int .u64 x1, .int .u64 x2, .int .u64 x3] 32)) 0 0 0 0 32
  rw [World.size_alloc] at FZ
  have FZ := Lib.hid FZ
  have HB := Lib.hid (((Below.refl w.heap.size w).alloc (Nat.le_refl _) (.cells #[.int .u64 x0, .int .u64 x1, .int .u64 x2, .int .u64 x3] 32)).alloc (by simp) (.cells #[.int .u64 0, .int .u64 0, .int .u64 0, .int .u64 0] 32))
  have hs : IntKind.u64.wrap ((x3 : Int) - ((2 ^ j : Nat) : Int)) = (y : Int) := by rw [hy, Int.natCast_add, Int.add_sub_cancel]; exact u64_nat y hl
  have pw := pow_wrap hj
  clear hl hy
  generalize (2 : Nat) ^ j = z at pw hs
  go_enter Try.func33, Try.ntmps33
  go_wp2_with (go_at_call 31; (refine (C.out _).mono ?_); rintro e w1 ⟨rfl, hw1⟩; have FA1 := Lib.hid (FA.out.kept hw1); have FZ1 := Lib.hid (FZ.out.kept hw1); have HB1 := Lib.hid (below_next hw1 HB.out (Nat.le_refl _)); obtain ⟨a0, a1, a2, a3, c0, c1, c2, c3⟩ := FA1.out; obtain ⟨z0, z1, z2, z3, v0, v1, v2, v3⟩ := FZ1.out; clear hw1)
  refine bodyPost_ret (v := .agg #[.int .u64 x0, .int .u64 x1, .int .u64 x2, .int .u64 y]) ?_ rfl ⟨rfl, below_set4 (HB1.out.setCell (p := ⟨w.heap.size, 3, none⟩) (Nat.le_refl _) _) (by simp) x0 x1 x2 y⟩
  obtain ⟨s0, s1, s2, s3⟩ := set4_results (FZ1.out.far (p := ⟨w.heap.size, 3, none⟩) (by simp) (.int .u64 y)) x0 x1 x2 y
  simp [results, Try.results33, go_sem, s0, s1, s2, s3]

theorem with_no {p : Nat → Bool} {i : Int} (h : hasP p i = true ∨ i < 0 ∨ 255 < i) {k : Nat} (hk : k < 4) : wd (orP p (oneP i)) k = wd p k :=
  wd_congr (fun x hx => by
    unfold orP oneP
    by_cases e : (x : Int) = i
    · subst e
      rcases h with h | h | h
      · have : p x = true := by simpa [hasP, show (x : Int) ≤ 255 by omega] using h
        simp [this]
      · omega
      · omega
    · simp [e]) hk
theorem with_yes {p : Nat → Bool} {i : Int} {k j : Nat} (hi : i = ((64 * k + j : Nat) : Int)) (hj : j < 64) (hk : k < 4) (h : hasP p i = false) :
    wd p k + 2 ^ j = wd (orP p (oneP i)) k ∧ ∀ k', k' ≠ k → wd (orP p (oneP i)) k' = wd p k' := by
  refine ⟨?_, fun k' hk' => wd_or_far fun j' hj' => by omega⟩
  have h3 : p (64 * k + j) = false := by
    have := h
    unfold hasP at this
    rw [decide_eq_true (⟨by omega, by omega⟩ : 0 ≤ i ∧ i ≤ 255), Bool.true_and] at this
    rw [show 64 * k + j = i.toNat by omega]; exact this
  rw [hi]; exact wd_put hj h3

theorem rwith_any (p : Nat → Bool) (i : Int) (w : World) :
    Calls Try.prog 32 #[.agg #[.int .u64 (wd p 0), .int .u64 (wd p 1), .int .u64 (wd p 2), .int .u64 (wd p 3)], .int .i64 i] w fun e w' => e = .returned (.agg #[.int .u64 (wd (orP p (oneP i)) 0), .int .u64 (wd (orP p (oneP i)) 1), .int .u64 (wd (orP p (oneP i)) 2), .int .u64 (wd (orP p (oneP i)) 3)]) ∧ Below w.heap.size w w' := by
  have C := Lib.hid (fun w => rhas_any p i w)
  rcases (show i < 0 ∨ (0 ≤ i ∧ 255 < i) ∨ (0 ≤ i ∧ i ≤ 255) by omega) with h | ⟨h0, h⟩ | ⟨h0, h1⟩
  · rw [hasP_out (.inl h)] at C
    rw [with_no (.inr (.inl h)) (k := 0) (by omega), with_no (.inr (.inl h)) (k := 1) (by omega), with_no (.inr (.inl h)) (k := 2) (by omega), with_no (.inr (.inl h)) (k := 3) (by omega)]
    exact rwith_low _ _ _ _ i h w C
  · rw [hasP_out (.inr h)] at C
    rw [with_no (.inr (.inr h)) (k := 0) (by omega), with_no (.inr (.inr h)) (k := 1) (by omega), with_no (.inr (.inr h)) (k := 2) (by omega), with_no (.inr (.inr h)) (k := 3) (by omega)]
    exact rwith_high _ _ _ _ i h0 h w C
  · cases hp : hasP p i with
    | true =>
      rw [hp] at C
      rw [with_no (.inl hp) (k := 0) (by omega), with_no (.inl hp) (k := 1) (by omega), with_no (.inl hp) (k := 2) (by omega), with_no (.inl hp) (k := 3) (by omega)]
      exact rwith_same _ _ _ _ i h0 h1 w C
    | false =>
      rw [hp] at C
      obtain ⟨j, hj⟩ : ∃ j : Nat, i % 64 = j := ⟨(i % 64).toNat, by omega⟩
      have hj' : j < 64 := by omega
      rcases (show i / 64 = 0 ∨ i / 64 = 1 ∨ i / 64 = 2 ∨ i / 64 = 3 by omega) with g | g | g | g
      · obtain ⟨e, f⟩ := with_yes (k := 0) (j := j) (by omega) hj' (by omega) hp
        rw [f 1 (by omega), f 2 (by omega), f 3 (by omega)]
        exact rwith_0 _ _ _ _ i h0 h1 g j hj' hj _ e (wd_lt _ _) w C
      · obtain ⟨e, f⟩ := with_yes (k := 1) (j := j) (by omega) hj' (by omega) hp
        rw [f 0 (by omega), f 2 (by omega), f 3 (by omega)]
        exact rwith_1 _ _ _ _ i h0 h1 g j hj' hj _ e (wd_lt _ _) w C
      · obtain ⟨e, f⟩ := with_yes (k := 2) (j := j) (by omega) hj' (by omega) hp
        rw [f 0 (by omega), f 1 (by omega), f 3 (by omega)]
        exact rwith_2 _ _ _ _ i h0 h1 g j hj' hj _ e (wd_lt _ _) w C
      · obtain ⟨e, f⟩ := with_yes (k := 3) (j := j) (by omega) hj' (by omega) hp
        rw [f 0 (by omega), f 1 (by omega), f 2 (by omega)]
        exact rwith_3 _ _ _ _ i h0 h1 g j hj' hj _ e (wd_lt _ _) w C

theorem rwithout_any (p : Nat → Bool) (i : Int) (w : World) :
    Calls Try.prog 33 #[.agg #[.int .u64 (wd p 0), .int .u64 (wd p 1), .int .u64 (wd p 2), .int .u64 (wd p 3)], .int .i64 i] w fun e w' => e = .returned (.agg #[.int .u64 (wd (minusP p (oneP i)) 0), .int .u64 (wd (minusP p (oneP i)) 1), .int .u64 (wd (minusP p (oneP i)) 2), .int .u64 (wd (minusP p (oneP i)) 3)]) ∧ Below w.heap.size w w' := by
  have C := Lib.hid (fun w => rhas_any p i w)
  cases hp : hasP p i with
  | false =>
    rw [hp] at C
    rw [has_no hp (k := 0) (by omega), has_no hp (k := 1) (by omega), has_no hp (k := 2) (by omega), has_no hp (k := 3) (by omega)]
    exact rwithout_same _ _ _ _ i w C
  | true =>
    rw [hp] at C
    obtain ⟨k, j, hk, hj, hi, e, f⟩ := has_yes hp
    rcases (show k = 0 ∨ k = 1 ∨ k = 2 ∨ k = 3 by omega) with rfl | rfl | rfl | rfl
    · rw [f 1 (by omega), f 2 (by omega), f 3 (by omega)]
      exact rwithout_0 _ _ _ _ i (by omega) (by omega) (by omega) j hj (by omega) _ e (wd_lt _ _) w C
    · rw [f 0 (by omega), f 2 (by omega), f 3 (by omega)]
      exact rwithout_1 _ _ _ _ i (by omega) (by omega) (by omega) j hj (by omega) _ e (wd_lt _ _) w C
    · rw [f 0 (by omega), f 1 (by omega), f 3 (by omega)]
      exact rwithout_2 _ _ _ _ i (by omega) (by omega) (by omega) j hj (by omega) _ e (wd_lt _ _) w C
    · rw [f 0 (by omega), f 1 (by omega), f 2 (by omega)]
      exact rwithout_3 _ _ _ _ i (by omega) (by omega) (by omega) j hj (by omega) _ e (wd_lt _ _) w C

end Go.Proofs.Ytcanbjgbpkofaaa

/-
  The walks over the document's own answers: what is in both sets, in the first one alone; the set of a row.
-/
namespace Go.Proofs.Ytcanbjgbpkofaaa
open Go.RowKit

/-- What is left when the first n have been looked at. -/
def andC (p q : Nat → Bool) (n : Nat) (x : Nat) : Bool := p x && (decide (n ≤ x) || q x)
def minusC (p q : Nat → Bool) (n : Nat) (x : Nat) : Bool := p x && !(decide (x < n) && q x)

theorem hasP_nat {p : Nat → Bool} {n : Nat} (h : n < 256) : hasP p (n : Int) = p n := by
  unfold hasP; rw [decide_eq_true (⟨by omega, by omega⟩ : (0 : Int) ≤ n ∧ (n : Int) ≤ 255)]; simp

theorem andC_start (p q : Nat → Bool) (k : Nat) : wd (andC p q 0) k = wd p k := natOf_congr fun j _ => by simp [andC]
theorem minusC_start (p q : Nat → Bool) (k : Nat) : wd (minusC p q 0) k = wd p k := natOf_congr fun j _ => by simp [minusC]
theorem andC_end (p q : Nat → Bool) {k : Nat} (hk : k < 4) : wd (andC p q 256) k = wd (andP p q) k := wd_congr (fun x hx => by simp [andC, andP, show ¬ 256 ≤ x by omega]) hk
theorem minusC_end (p q : Nat → Bool) {k : Nat} (hk : k < 4) : wd (minusC p q 256) k = wd (minusP p q) k := wd_congr (fun x hx => by simp [minusC, minusP, hx]) hk
theorem andC_drop (p q : Nat → Bool) {n : Nat} (h : q n = false) (k : Nat) : wd (minusP (andC p q n) (oneP n)) k = wd (andC p q (n + 1)) k := natOf_congr fun j _ => by
  unfold andC minusP oneP
  rcases Nat.lt_trichotomy (64 * k + j) n with g | g | g
  · rw [decide_eq_false (show ¬ ((64 * k + j : Nat) : Int) = (n : Int) by omega)]; simp [show ¬ n ≤ 64 * k + j by omega, show ¬ n + 1 ≤ 64 * k + j by omega]
  · rw [g]; simp [h]
  · rw [decide_eq_false (show ¬ ((64 * k + j : Nat) : Int) = (n : Int) by omega)]; simp [show n ≤ 64 * k + j by omega, show n + 1 ≤ 64 * k + j by omega]
theorem andC_keep (p q : Nat → Bool) {n : Nat} (h : q n = true) (k : Nat) : wd (andC p q n) k = wd (andC p q (n + 1)) k := natOf_congr fun j _ => by
  unfold andC
  rcases Nat.lt_trichotomy (64 * k + j) n with g | g | g
  · simp [show ¬ n ≤ 64 * k + j by omega, show ¬ n + 1 ≤ 64 * k + j by omega]
  · rw [g]; simp [h]
  · simp [show n ≤ 64 * k + j by omega, show n + 1 ≤ 64 * k + j by omega]
theorem minusC_drop (p q : Nat → Bool) {n : Nat} (h : q n = true) (k : Nat) : wd (minusP (minusC p q n) (oneP n)) k = wd (minusC p q (n + 1)) k := natOf_congr fun j _ => by
  unfold minusC minusP oneP
  rcases Nat.lt_trichotomy (64 * k + j) n with g | g | g
  · rw [decide_eq_false (show ¬ ((64 * k + j : Nat) : Int) = (n : Int) by omega)]; simp [show 64 * k + j < n by omega, show 64 * k + j < n + 1 by omega]
  · rw [g]; simp [h]
  · rw [decide_eq_false (show ¬ ((64 * k + j : Nat) : Int) = (n : Int) by omega)]; simp [show ¬ 64 * k + j < n by omega, show ¬ 64 * k + j < n + 1 by omega]
theorem minusC_keep (p q : Nat → Bool) {n : Nat} (h : q n = false) (k : Nat) : wd (minusC p q n) k = wd (minusC p q (n + 1)) k := natOf_congr fun j _ => by
  unfold minusC
  rcases Nat.lt_trichotomy (64 * k + j) n with g | g | g
  · simp [show 64 * k + j < n by omega, show 64 * k + j < n + 1 by omega]
  · rw [g]; simp [h]
  · simp [show ¬ 64 * k + j < n by omega, show ¬ 64 * k + j < n + 1 by omega]

structure Loop3 (w wr : World) (x b : Nat → Nat) : Prop where
  x : Four wr w.heap.size (x 0) (x 1) (x 2) (x 3)
  y : Four wr (w.heap.size + 1) (b 0) (b 1) (b 2) (b 3)
  z : Four wr (w.heap.size + 1 + 1) 0 0 0 0
  below : Below w.heap.size w wr

set_option maxRecDepth 100000 in
set_option maxHeartbeats 2000000 in
theorem rand_any (p q : Nat → Bool) (w : World) :
    Calls Try.prog 15 #[.agg #[.int .u64 (wd p 0), .int .u64 (wd p 1), .int .u64 (wd p 2), .int .u64 (wd p 3)], .agg #[.int .u64 (wd q 0), .int .u64 (wd q 1), .int .u64 (wd q 2), .int .u64 (wd q 3)]] w fun e w' => e = .returned (.agg #[.int .u64 (wd (andP p q) 0), .int .u64 (wd (andP p q) 1), .int .u64 (wd (andP p q) 2), .int .u64 (wd (andP p q) 3)]) ∧ Below w.heap.size w w' := by
  have LAST := Lib.hid (And.intro (@andC_end p q 0 (by omega)) (And.intro (@andC_end p q 1 (by omega)) (And.intro (@andC_end p q 2 (by omega)) (@andC_end p q 3 (by omega)))))
  have FIRST := Lib.hid (andC_start p q)
  have H := Lib.hid (fun (n : Nat) (h : n < 256) w => (show Calls Try.prog 31 #[.agg #[.int .u64 (wd q 0), .int .u64 (wd q 1), .int .u64 (wd q 2), .int .u64 (wd q 3)], .int .i64 n] w fun e w' => e = .returned (.bool (q n)) ∧ Below w.heap.size w w' by have := rhas_any q n w; rw [hasP_nat h] at this; exact this))
  have WO := Lib.hid (fun (n : Nat) w => rwithout_any (andC p q n) n w)
  have KEEP := Lib.hid (fun (n : Nat) => @andC_keep p q n)
  have DROP := Lib.hid (fun (n : Nat) => @andC_drop p q n)
  generalize hr : wd (andP p q) = r at LAST ⊢
  clear hr
  generalize wd q = b at H ⊢
  generalize hp : wd p = a at FIRST ⊢
  clear hp
  generalize hc : (fun n => wd (andC p q n)) = c
  have hc' : ∀ n, wd (andC p q n) = c n := fun n => congrFun hc n
  clear hc
  simp only [hc'] at LAST FIRST WO KEEP DROP
  clear hc'
  go_enter Try.func15, Try.ntmps15
  go_wp2
  go_loopw [5] (fun i wr => ∃ k : Nat, k ≤ 256 ∧ i = .int .i64 k ∧ Hid (Loop3 w wr (c k) b)) (fun i _ => (256 - intOf i).toNat)
  case atStart =>
    refine ⟨0, by omega, rfl, ⟨?_, ?_, ?_, ?_⟩⟩
    · rw [FIRST.out, FIRST.out, FIRST.out, FIRST.out]; exact ((Four.new w _ _ _ _ _).alloc _).alloc _
    · simpa using (Four.new (w.alloc _) (b 0) (b 1) (b 2) (b 3) _).alloc _
    · simpa using Four.new ((w.alloc _).alloc _) 0 0 0 0 _
    · exact (((Below.refl _ _).alloc (Nat.le_refl _) _).alloc (by simp) _).alloc (by simp; omega) _
  case round =>
    obtain ⟨k, hk, rfl, HL⟩ := hrel
    have FX := Lib.hid HL.out.x
    have FY := Lib.hid HL.out.y
    have FZ := Lib.hid HL.out.z
    have HB := Lib.hid HL.out.below
    obtain ⟨y0, y1, y2, y3, _, _, _, _⟩ := FY.out
    clear FIRST HL
    by_cases hlt : k < 256
    · have C := Lib.hid (H.out k hlt)
      have D := Lib.hid (WO.out k)
      have KP := Lib.hid (KEEP.out k)
      have DR := Lib.hid (DROP.out k)
      clear H WO KEEP DROP LAST
      cases hq : q k with
      | true =>
        rw [hq] at C
        have e := Lib.hid (KP.out hq)
        clear hq KP DR D
        go_wp2_with (go_at_call 31; (refine (C.out _).mono ?_); rintro e w1 ⟨rfl, hw1⟩; have FX1 := Lib.hid (Four.next hw1 FX.out); have FY1 := Lib.hid (Four.next hw1 FY.out); have FZ1 := Lib.hid (Four.next hw1 FZ.out); have HB1 := Lib.hid (below_next hw1 HB.out (Nat.le_refl _)); clear hw1)
        go_roundw
        case rel => exact ⟨k + 1, by omega, by go_num, ⟨by rw [← e.out, ← e.out, ← e.out, ← e.out]; exact FX1.out, FY1.out, FZ1.out, HB1.out⟩⟩
        case measure => simp [intOf]; omega
      | false =>
        rw [hq] at C
        have e := Lib.hid (DR.out hq)
        clear hq KP DR
        generalize wd (minusP (andC p q k) (oneP k)) = v at D e
        go_wp2_with (first | (go_at_call 31; (refine (C.out _).mono ?_); rintro e w1 ⟨rfl, hw1⟩; have FX1 := Lib.hid (Four.next hw1 FX.out); have FY1 := Lib.hid (Four.next hw1 FY.out); have FZ1 := Lib.hid (Four.next hw1 FZ.out); have HB1 := Lib.hid (below_next hw1 HB.out (Nat.le_refl _)); obtain ⟨x0, x1, x2, x3, _, _, _, _⟩ := FX1.out; clear hw1) | (go_at_call 33; (refine (D.out _).mono ?_); rintro e w2 ⟨rfl, hw2⟩; have FX2 := Lib.hid (Four.next hw2 FX1.out); have FY2 := Lib.hid (Four.next hw2 FY1.out); have FZ2 := Lib.hid (Four.next hw2 FZ1.out); have HB2 := Lib.hid (below_next hw2 HB1.out (Nat.le_refl _)); obtain ⟨s0, s1, s2, s3, t0, t1, t2, t3⟩ := FX2.out; clear hw2))
        go_roundw
        case rel =>
          refine ⟨k + 1, by omega, by go_num, ⟨?_, FY2.out.far4 (by simp) (v 0) (v 1) (v 2) (v 3), FZ2.out.far4 (by omega) (v 0) (v 1) (v 2) (v 3), below_set4 HB2.out (by simp) (v 0) (v 1) (v 2) (v 3)⟩⟩
          rw [← e.out, ← e.out, ← e.out, ← e.out]
          exact FX2.out.set4 (v 0) (v 1) (v 2) (v 3)
        case measure => simp [intOf]; omega
    · obtain rfl : k = 256 := by omega
      obtain ⟨x0, x1, x2, x3, _, _, _, _⟩ := FX.out
      obtain ⟨z0, z1, z2, z3, v0, v1, v2, v3⟩ := FZ.out
      rw [LAST.out.1] at x0
      rw [LAST.out.2.1] at x1
      rw [LAST.out.2.2.1] at x2
      rw [LAST.out.2.2.2] at x3
      go_wp2
      refine bodyPost_ret (v := .agg #[.int .u64 (r 0), .int .u64 (r 1), .int .u64 (r 2), .int .u64 (r 3)]) ?_ rfl ⟨rfl, below_set4 HB.out (by omega) (r 0) (r 1) (r 2) (r 3)⟩
      obtain ⟨s0, s1, s2, s3⟩ := set4_results FZ.out (r 0) (r 1) (r 2) (r 3)
      simp [results, Try.results15, go_sem, s0, s1, s2, s3]
end Go.Proofs.Ytcanbjgbpkofaaa

/-
  The walks over the document's own answers: the set of a row, what is in one of two.
-/
namespace Go.Proofs.Ytcanbjgbpkofaaa
open Go.RowKit

/-- What has been put in when the first n have been looked at. -/
def orC (p q : Nat → Bool) (n : Nat) (x : Nat) : Bool := p x || (decide (x < n) && q x)
theorem orC_start (p q : Nat → Bool) (k : Nat) : wd (orC p q 0) k = wd p k := natOf_congr fun j _ => by simp [orC]
theorem orC_end (p q : Nat → Bool) {k : Nat} (hk : k < 4) : wd (orC p q 256) k = wd (orP p q) k := wd_congr (fun x hx => by simp [orC, orP, hx]) hk
theorem orC_put (p q : Nat → Bool) {n : Nat} (h : q n = true) (k : Nat) : wd (orP (orC p q n) (oneP n)) k = wd (orC p q (n + 1)) k := natOf_congr fun j _ => by
  unfold orC orP oneP
  rcases Nat.lt_trichotomy (64 * k + j) n with g | g | g
  · rw [decide_eq_false (show ¬ ((64 * k + j : Nat) : Int) = (n : Int) by omega)]; simp [show 64 * k + j < n by omega, show 64 * k + j < n + 1 by omega]
  · rw [g]; simp [h]
  · rw [decide_eq_false (show ¬ ((64 * k + j : Nat) : Int) = (n : Int) by omega)]; simp [show ¬ 64 * k + j < n by omega, show ¬ 64 * k + j < n + 1 by omega]
theorem orC_keep (p q : Nat → Bool) {n : Nat} (h : q n = false) (k : Nat) : wd (orC p q n) k = wd (orC p q (n + 1)) k := natOf_congr fun j _ => by
  unfold orC
  rcases Nat.lt_trichotomy (64 * k + j) n with g | g | g
  · simp [show 64 * k + j < n by omega, show 64 * k + j < n + 1 by omega]
  · rw [g]; simp [h]
  · simp [show ¬ 64 * k + j < n by omega, show ¬ 64 * k + j < n + 1 by omega]

structure Loop2 (w wr : World) (x : Nat → Nat) : Prop where
  x : Four wr (w.heap.size + 1) (x 0) (x 1) (x 2) (x 3)
  z : Four wr w.heap.size 0 0 0 0
  below : Below w.heap.size w wr

set_option maxRecDepth 100000 in
set_option maxHeartbeats 2000000 in
theorem ror_any (l : List (Nat → Bool)) (hl : (l.length : Int) ≤ 1000000) (cap : Nat) (ao : Option Addr) (w : World) (hs : Sets w w.heap.size ao l) :
    Calls Try.prog 13 #[.slice ao l.length cap] w fun e w' => e = .returned (.agg #[.int .u64 (wd (orN l l.length) 0), .int .u64 (wd (orN l l.length) 1), .int .u64 (wd (orN l l.length) 2), .int .u64 (wd (orN l l.length) 3)]) ∧ Below w.heap.size w w' := by
  have HS := Lib.hid hs
  clear hs
  go_enter Try.func13, Try.ntmps13
  go_wp2
  go_loopw [4] (fun i wr => ∃ k : Nat, k ≤ l.length ∧ i = .int .i64 k ∧ Hid (Loop2 w wr (wd (orN l k)))) (fun i _ => (l.length - intOf i).toNat)
  case atStart =>
    refine ⟨0, by omega, rfl, ⟨?_, ?_, ((Below.refl _ _).alloc (Nat.le_refl _) _).alloc (by simp) _⟩⟩
    · have := Four.new (w.alloc (.cells #[.int .u64 0, .int .u64 0, .int .u64 0, .int .u64 0] 32)) 0 0 0 0 32
      simpa [orN, wd_none] using this
    · exact (Four.new w 0 0 0 0 _).alloc _
  case round =>
    obtain ⟨k, hk, rfl, HL⟩ := hrel
    by_cases hlt : k < l.length
    · have NX : Hid (∀ j, j < 4 → wd (orC (orN l k) (l.getD k noneP) 256) j = wd (orN l (k + 1)) j) := fun j hj => orC_end _ _ hj
      have ST : Hid (wd (orN l k) = wd (orC (orN l k) (l.getD k noneP) 0)) := by show _ = _; funext j; rw [orC_start]
      go_wp2
      go_loopw [5] (fun i wi => ∃ n : Nat, n ≤ 256 ∧ i = .int .i64 n ∧ Hid (Loop2 w wi (wd (orC (orN l k) (l.getD k noneP) n)))) (fun i _ => (256 - intOf i).toNat)
      case atStart => exact ⟨0, by omega, rfl, by rw [← ST.out]; exact HL⟩
      case round =>
        clear HL ST
        obtain ⟨n, hn, rfl, HL⟩ := hrel
        by_cases hlt2 : n < 256
        · obtain ⟨b, off, rfl, hbb, hc⟩ : ∃ b off, ao = some ⟨b, off, none⟩ ∧ b < w.heap.size ∧ ∀ k, k < l.length → wr.cell? ⟨b, off + k * 4, none⟩ = some (.int .u64 (wd (l.getD k noneP) 0)) ∧ wr.cell? ⟨b, off + k * 4 + 1, none⟩ = some (.int .u64 (wd (l.getD k noneP) 1)) ∧ wr.cell? ⟨b, off + k * 4 + 2, none⟩ = some (.int .u64 (wd (l.getD k noneP) 2)) ∧ wr.cell? ⟨b, off + k * 4 + 3, none⟩ = some (.int .u64 (wd (l.getD k noneP) 3)) := by
            rcases HS.out.below HL.out.below with h | h
            · rw [h] at hlt; exact absurd hlt (Nat.not_lt_zero _)
            · exact h
          obtain ⟨c0, c1, c2, c3⟩ := hc k hlt
          have HX := Lib.hid HL.out.x
          have HZ := Lib.hid HL.out.z
          have HB := Lib.hid HL.out.below
          clear hc HL NX
          have C := Lib.hid (fun w => (show Calls Try.prog 31 #[.agg #[.int .u64 (wd (l.getD k noneP) 0), .int .u64 (wd (l.getD k noneP) 1), .int .u64 (wd (l.getD k noneP) 2), .int .u64 (wd (l.getD k noneP) 3)], .int .i64 n] w fun e w' => e = .returned (.bool (l.getD k noneP n)) ∧ Below w.heap.size w w' by have := rhas_any (l.getD k noneP) n w; rw [hasP_nat hlt2] at this; exact this))
          have D := Lib.hid (fun w => rwith_any (orC (orN l k) (l.getD k noneP) n) n w)
          have KP := Lib.hid (fun h => @orC_keep (orN l k) (l.getD k noneP) n h)
          have PT := Lib.hid (fun h => @orC_put (orN l k) (l.getD k noneP) n h)
          generalize wd (orP (orC (orN l k) (l.getD k noneP) n) (oneP n)) = v at D PT
          generalize hc : (fun n => wd (orC (orN l k) (l.getD k noneP) n)) = c
          have hc' : ∀ n, wd (orC (orN l k) (l.getD k noneP) n) = c n := fun n => congrFun hc n
          rw [hc'] at HX
          simp only [hc'] at D KP PT
          have HC := Lib.hid hc'
          clear hc hc'
          cases hq : l.getD k noneP n with
          | false =>
            have e := Lib.hid (KP.out hq)
            rw [hq] at C
            clear hq KP PT D
            generalize wd (l.getD k noneP) = q at c0 c1 c2 c3 C
            go_wp2_with (go_at_call 31; (refine (C.out _).mono ?_); rintro e w1 ⟨rfl, hw1⟩; have HX1 := Lib.hid (Four.next hw1 HX.out); have HZ1 := Lib.hid (Four.next hw1 HZ.out); have HB1 := Lib.hid (below_next hw1 HB.out (Nat.le_refl _)); clear hw1)
            go_roundw
            case rel => exact ⟨n + 1, by omega, by go_num, by rw [HC.out]; exact ⟨by rw [← e.out, ← e.out, ← e.out, ← e.out]; exact HX1.out, HZ1.out, HB1.out⟩⟩
            case measure => simp [intOf]; omega
          | true =>
            have e := Lib.hid (PT.out hq)
            rw [hq] at C
            clear hq KP PT
            generalize wd (l.getD k noneP) = q at c0 c1 c2 c3 C
            go_wp2_with (first | (go_at_call 31; (refine (C.out _).mono ?_); rintro e w1 ⟨rfl, hw1⟩; have HX1 := Lib.hid (Four.next hw1 HX.out); have HZ1 := Lib.hid (Four.next hw1 HZ.out); have HB1 := Lib.hid (below_next hw1 HB.out (Nat.le_refl _)); obtain ⟨x0, x1, x2, x3, _, _, _, _⟩ := HX1.out; clear hw1) | (go_at_call 32; (refine (D.out _).mono ?_); rintro e w2 ⟨rfl, hw2⟩; have HX2 := Lib.hid (Four.next hw2 HX1.out); have HZ2 := Lib.hid (Four.next hw2 HZ1.out); have HB2 := Lib.hid (below_next hw2 HB1.out (Nat.le_refl _)); obtain ⟨s0, s1, s2, s3, t0, t1, t2, t3⟩ := HX2.out; clear hw2))
            go_roundw
            case rel =>
              refine ⟨n + 1, by omega, by go_num, ?_⟩
              rw [HC.out]
              refine ⟨?_, HZ2.out.far4 (by omega) (v 0) (v 1) (v 2) (v 3), below_set4 HB2.out (by omega) (v 0) (v 1) (v 2) (v 3)⟩
              rw [← e.out, ← e.out, ← e.out, ← e.out]
              exact HX2.out.set4 (v 0) (v 1) (v 2) (v 3)
            case measure => simp [intOf]; omega
        · obtain rfl : n = 256 := by omega
          have HN : Hid (Loop2 w wr (wd (orN l (k + 1)))) := ⟨by rw [← NX.out 0 (by omega), ← NX.out 1 (by omega), ← NX.out 2 (by omega), ← NX.out 3 (by omega)]; exact HL.out.x, HL.out.z, HL.out.below⟩
          clear HL NX
          go_wp2
          go_roundw
          case rel => exact ⟨k + 1, by omega, by go_num, HN⟩
          case measure => simp [intOf]; omega
    · obtain rfl : k = l.length := by omega
      have HX := Lib.hid HL.out.x
      have HZ := Lib.hid HL.out.z
      have HB := Lib.hid HL.out.below
      obtain ⟨x0, x1, x2, x3, _, _, _, _⟩ := HX.out
      obtain ⟨z0, z1, z2, z3, v0, v1, v2, v3⟩ := HZ.out
      clear HL
      go_wp2
      refine bodyPost_ret (v := .agg #[.int .u64 (wd (orN l l.length) 0), .int .u64 (wd (orN l l.length) 1), .int .u64 (wd (orN l l.length) 2), .int .u64 (wd (orN l l.length) 3)]) ?_ rfl ⟨rfl, below_set4 HB.out (by omega) (wd (orN l l.length) 0) (wd (orN l l.length) 1) (wd (orN l l.length) 2) (wd (orN l l.length) 3)⟩
      obtain ⟨s0, s1, s2, s3⟩ := set4_results HZ.out (wd (orN l l.length) 0) (wd (orN l l.length) 1) (wd (orN l l.length) 2) (wd (orN l l.length) 3)
      simp [results, Try.results13, go_sem, s0, s1, s2, s3]

end Go.Proofs.Ytcanbjgbpkofaaa

/-
  The numbers of a set, one by one, rising: plain numbers, no program in this text.
-/
namespace Go.Proofs.Ytcanbjgbpkofaaa

/-- The bits of a word that are 1, rising. -/
def ones (v : Nat) : List Nat := (List.range 64).filter v.testBit
/-- The numbers below n of a set, rising. -/
def below (p : Nat → Bool) (n : Nat) : List Nat := (List.range n).filter p

theorem filter_first {q q' : Nat → Bool} {j : Nat} (hj : q j = true) (hlo : ∀ i, i < j → q i = false) (hq : ∀ i, q' i = (q i && decide (i ≠ j))) :
    ∀ n, j < n → (List.range n).filter q = j :: (List.range n).filter q'
  | 0, h => absurd h (Nat.not_lt_zero _)
  | n + 1, h => by
    rw [List.range_succ, List.filter_append, List.filter_append]
    by_cases e : j = n
    · subst e
      have h1 : (List.range j).filter q = [] := List.filter_eq_nil_iff.2 fun i hi => by rw [hlo i (List.mem_range.1 hi)]; simp
      have h2 : (List.range j).filter q' = [] := List.filter_eq_nil_iff.2 fun i hi => by rw [hq, hlo i (List.mem_range.1 hi)]; simp
      rw [h1, h2]; simp [hj, hq]
    · rw [filter_first hj hlo hq n (by omega)]
      simp only [List.cons_append, List.cons.injEq, true_and]
      congr 1
      simp only [List.filter_cons, List.filter_nil, hq n]
      simp [show n ≠ j by omega]

theorem ones_zero : ones 0 = [] := List.filter_eq_nil_iff.2 fun i _ => by simp

theorem ones_next {v : Nat} (h0 : v ≠ 0) (h : v < 18446744073709551616) :
    Lib.ctz 64 v < 64 ∧ ones v = Lib.ctz 64 v :: ones (v &&& (v - 1)) := by
  obtain ⟨m, hm, hk⟩ := Lib.ctzFrom_spec 64 v (by omega) h
  have hc : Lib.ctz 64 v = Lib.ctzFrom 64 v := by unfold Lib.ctz; rw [if_neg h0]
  rw [hc]
  generalize Lib.ctzFrom 64 v = j at hm hk
  have hp : 0 < 2 ^ j := Nat.two_pow_pos j
  have hb : ∀ i, v.testBit i = (decide (j ≤ i) && (2 * m + 1).testBit (i - j)) := fun i => by rw [hm, Nat.testBit_two_pow_mul]
  have hv1 : v - 1 = 2 ^ j * (2 * m) + (2 ^ j - 1) := by rw [hm, Nat.mul_add]; omega
  have hb1 : ∀ i, (v - 1).testBit i = if i < j then (2 ^ j - 1).testBit i else (2 * m).testBit (i - j) := fun i => by rw [hv1, Nat.testBit_two_pow_mul_add _ (by omega)]
  refine ⟨hk, filter_first (j := j) ?_ ?_ ?_ 64 hk⟩
  · rw [hb]; simp
  · intro i hi; rw [hb]; simp; omega
  · intro i
    rw [Nat.testBit_and, hb, hb1]
    rcases Nat.lt_trichotomy i j with g | g | g
    · simp [show ¬ j ≤ i by omega]
    · subst g; simp
    · obtain ⟨d, rfl⟩ : ∃ d, i = j + 1 + d := ⟨i - j - 1, by omega⟩
      have e : j + 1 + d - j = d + 1 := by omega
      rw [e, Nat.testBit_succ, Nat.testBit_succ, show (2 * m + 1) / 2 = m by omega, show 2 * m / 2 = m by omega]
      simp [show ¬ j + 1 + d < j by omega, show j + 1 + d ≠ j by omega]

theorem ones_wd (p : Nat → Bool) (k : Nat) : below p (64 * (k + 1)) = below p (64 * k) ++ (ones (wd p k)).map (64 * k + ·) := by
  unfold below ones
  rw [show 64 * (k + 1) = 64 * k + 64 by omega, List.range_add, List.filter_append]
  congr 1
  rw [List.filter_map]
  congr 1
  refine List.filter_congr fun j hj => ?_
  rw [wd_bit p k (List.mem_range.1 hj)]; rfl

theorem below_length (p : Nat → Bool) : ∀ n, (below p n).length = cntN p n
  | 0 => rfl
  | n + 1 => by
    have := below_length p n
    unfold below at this ⊢
    rw [List.range_succ, List.filter_append, List.length_append, this]
    simp only [cntN, List.filter_cons, List.filter_nil]
    split <;> rfl

theorem mem_below {p : Nat → Bool} {n x : Nat} : x ∈ below p n ↔ x < n ∧ p x = true := by unfold below; simp
theorem below_pairwise (p : Nat → Bool) (n : Nat) : (below p n).Pairwise (· < ·) := List.Pairwise.filter _ List.pairwise_lt_range

/-- A set's numbers. -/
def els (p : Nat → Bool) : List Int := (below p 256).map fun x : Nat => (x : Int)

end Go.Proofs.Ytcanbjgbpkofaaa

/-
  The walk over what tells a set's numbers one by one.
-/
namespace Go.Proofs.Ytcanbjgbpkofaaa
open Go.RowKit Go.Shelf
attribute [local go_sem] Oper.semAt_some

def elsN (p : Nat → Bool) (k : Nat) : List Int := (below p (64 * k)).map fun x : Nat => (x : Int)
def onesAt (k x : Nat) : List Int := (ones x).map fun j : Nat => (k : Int) * 64 + (j : Int)

theorem elsN_next (p : Nat → Bool) (k : Nat) : elsN p (k + 1) = elsN p k ++ onesAt k (wd p k) := by
  unfold elsN onesAt
  rw [ones_wd, List.map_append, List.map_map]
  congr 1
  exact List.map_congr_left fun j _ => by simp; omega
theorem onesAt_zero (k : Nat) : onesAt k 0 = [] := by unfold onesAt; rw [ones_zero]; rfl
theorem onesAt_next (k : Nat) {x : Nat} (h0 : x ≠ 0) (h : x < 18446744073709551616) : onesAt k x = ((k : Int) * 64 + (Lib.ctz 64 x : Int)) :: onesAt k (x &&& (x - 1)) := by
  unfold onesAt; rw [(ones_next h0 h).2]; rfl
theorem elsN_pre (p : Nat → Bool) : ∀ {k}, k ≤ 4 → ∃ t, els p = elsN p k ++ t := by
  have h : ∀ d k, k + d = 4 → ∃ t, els p = elsN p k ++ t := by
    intro d
    induction d with
    | zero => intro k hk; obtain rfl : k = 4 := by omega
              exact ⟨[], by simp [els, elsN]⟩
    | succ d ih =>
      intro k hk
      obtain ⟨t, ht⟩ := ih (k + 1) (by omega)
      exact ⟨onesAt k (wd p k) ++ t, by rw [ht, elsN_next, List.append_assoc]⟩
  exact fun {k} hk => h (4 - k) k (by omega)

theorem index_any (a : Nat → Nat) {k : Nat} (hk : k < 4) (w : World) : (Instr.index 32 (.agg #[.int .u64 (a 0), .int .u64 (a 1), .int .u64 (a 2), .int .u64 (a 3)]) (.int .i64 (k : Int))).run Try.prog w = .ok (.int .u64 (a k)) w := by
  rcases (show k = 0 ∨ k = 1 ∨ k = 2 ∨ k = 3 by omega) with rfl | rfl | rfl | rfl
  · exact index_0 ..
  · exact index_1 ..
  · exact index_2 ..
  · exact index_3 ..

end Go.Proofs.Ytcanbjgbpkofaaa

/-
  The walk over the list of a set.
-/
namespace Go.Proofs.Ytcanbjgbpkofaaa
open Go.RowKit Go.Shelf
attribute [local go_sem] Oper.semAt_some

theorem infoInt : (Try.prog.info? 3).map (fun i => (i.zero, i.size, i.bytes)) = some (some (.int .i64 0), 1, 8) := by kernel_rfl

theorem make_run (c : Nat) (hc : c ≤ 256) (w : World) : (Instr.makeSlice 34 (.int .i64 0) (.int .i64 (c : Int))).run Try.prog w = .ok (.slice (some ⟨w.heap.size, 0, none⟩) 0 c) (w.alloc (.cells (madeCells #[.int .i64 0] c) 3)) := by
  obtain ⟨i0, hi, hz0, hz1, hz2⟩ := info_parts infoInt
  have h := run_make w 34 3 i0 (.int .i64 0) Try.underlying34 hi hz0 .i64 .i64 0 c (by omega) (by omega) (by rw [hz2]; omega) (by omega)
  rw [hz1] at h
  simpa [Value.cells] using h

/-- What the list of a set is: a row of its own. -/
def ListPost (p : Nat → Bool) (w : World) (e : Ending) (w' : World) : Prop :=
  ∃ v, e = .returned v ∧ w'.ownsRow w.heap.size 3 1 v (els p).length ((els p).map (Value.int .i64)) ∧ Below w.heap.size w w'

end Go.Proofs.Ytcanbjgbpkofaaa

/-
  The walks over the document's own list and count; two rows held against each other; the first numbers of a row; the chapter's example.
-/
namespace Go.Proofs.Ytcanbjgbpkofaaa
open Go.RowKit

theorem owns_below {w w' : World} {B base : Nat} {e : TypeId} {size n : Nat} {v : Value} {xs : List Value} (h : w.ownsRow base e size v n xs) (hb : Below B w w') (hB : w.heap.size ≤ B) : w'.ownsRow base e size v n xs := by
  refine ⟨h.1, ?_⟩
  rcases h.2 with h | ⟨g, cap, cur, h1, h2, h3, h4⟩
  · exact .inl h
  · have hg : g < w.heap.size := (Array.getElem?_eq_some_iff.1 h3).1
    exact .inr ⟨g, cap, cur, h1, h2, (hb.block g (by omega)).trans h3, h4⟩
theorem owns_base {w : World} {base base' : Nat} {e : TypeId} {size n : Nat} {v : Value} {xs : List Value} (h : w.ownsRow base e size v n xs) (hB : base' ≤ base) : w.ownsRow base' e size v n xs := by
  refine ⟨h.1, ?_⟩
  rcases h.2 with h | ⟨g, cap, cur, h1, h2, h3⟩
  · exact .inl h
  · exact .inr ⟨g, cap, cur, h1, by omega, h3⟩

/-- A row of one's own, read. -/
theorem owns_reads {w : World} {base : Nat} {v : Value} {E : List Int} (h : w.ownsRow base 3 1 v E.length (E.map (Value.int .i64))) :
    ∃ ao cap, v = .slice ao E.length cap ∧ Reads w w.heap.size ao E ∧ (cap : Int) ≤ 9223372036854775807 ∧ E.length ≤ cap := by
  rcases h.2 with ⟨rfl, h0⟩ | ⟨g, cap, cur, rfl, h2, h3, h4, h5, _⟩
  · exact ⟨none, 0, by rw [h0], .inl (List.eq_nil_of_length_eq_zero h0), by omega, by omega⟩
  · refine ⟨some ⟨g, 0, none⟩, cap, rfl, ?_, by unfold maxLen at h5; omega, h4⟩
    right
    refine ⟨g, 0, rfl, (Array.getElem?_eq_some_iff.1 h3).1, fun k hk => ?_⟩
    have := h.cells (g := g) (by simp [Value.ownBlock]) k (.int .i64 (E.getD k 0)) (by rw [List.getElem?_map, List.getElem?_eq_getElem hk, List.getD_eq_getElem?_getD, List.getElem?_eq_getElem hk]; rfl)
    have e : (⟨g, 0, none⟩ : Addr).add k = ⟨g, 0 + k, none⟩ := by unfold Addr.add; split <;> simp_all
    rw [e] at this
    exact this

def Blk4 (w : World) (b x0 x1 x2 x3 : Nat) : Prop := w.heap[b]? = some (.cells #[.int .u64 x0, .int .u64 x1, .int .u64 x2, .int .u64 x3] 32 (0, 0))
theorem Blk4.lt {w : World} {b x0 x1 x2 x3 : Nat} (h : Blk4 w b x0 x1 x2 x3) : b < w.heap.size := (Array.getElem?_eq_some_iff.1 h).1
theorem Blk4.cells {w : World} {b x0 x1 x2 x3 : Nat} (h : Blk4 w b x0 x1 x2 x3) : w.cell? ⟨b, 0, none⟩ = some (.int .u64 x0) ∧ w.cell? ⟨b, 1, none⟩ = some (.int .u64 x1) ∧ w.cell? ⟨b, 2, none⟩ = some (.int .u64 x2) ∧ w.cell? ⟨b, 3, none⟩ = some (.int .u64 x3) := by
  unfold Blk4 at h; simp [World.cell?, h]

structure LoopL (p : Nat → Bool) (w wr : World) (n : Nat) (v : Value) : Prop where
  x : Blk4 wr w.heap.size (wd p 0) (wd p 1) (wd p 2) (wd p 3)
  row : wr.ownsRow (w.heap.size + 1) 3 1 v (below p n).length (((below p n).map fun x : Nat => (x : Int)).map (Value.int .i64))
  low : Below w.heap.size w wr

theorem below_yes {p : Nat → Bool} {n : Nat} (h : p n = true) : below p (n + 1) = below p n ++ [n] := by unfold below; rw [List.range_succ, List.filter_append]; simp [h]
theorem below_no {p : Nat → Bool} {n : Nat} (h : p n = false) : below p (n + 1) = below p n := by unfold below; rw [List.range_succ, List.filter_append]; simp [h]

theorem LoopL.next {p : Nat → Bool} {w wr w1 w3 : World} {n : Nat} {v v' : Value} {o : Obj} (h : LoopL p w wr n v) (hw : Below wr.heap.size wr w1) (hp : p n = true)
    (hown : w3.ownsRow (w.heap.size + 1) 3 1 v' ((below p n).length + 1) (((below p n).map fun x : Nat => (x : Int)).map (Value.int .i64) ++ [.int .i64 (n : Int)])) (hg : (w1.alloc o).grownBy w3 v.ownBlock) : LoopL p w w3 (n + 1) v' := by
  have hlt := h.x.lt
  have hsz := hw.size
  have hne : ∀ k, v.ownBlock = some k → w.heap.size + 1 ≤ k := fun k hk => (h.row.lt k hk).1
  refine ⟨?_, ?_, ?_⟩
  · have h1 : Blk4 w1 w.heap.size (wd p 0) (wd p 1) (wd p 2) (wd p 3) := (hw.block _ hlt).trans h.x
    have h2 : Blk4 (w1.alloc o) w.heap.size (wd p 0) (wd p 1) (wd p 2) (wd p 3) := (Below.heap_alloc w1 o _ h1.lt).trans h1
    exact (hg.block _ h2.lt (fun e => by have := hne _ e.symm; omega)).trans h2
  · rw [below_yes hp]
    simpa using hown
  · exact ((h.low.trans (hw.mono h.low.size)).alloc (Nat.le_trans h.low.size hsz) o).grown hg (Nat.le_trans h.low.size (by simp; omega)) fun k hk => by have := hne k hk; omega
theorem LoopL.stay {p : Nat → Bool} {w wr w1 : World} {n : Nat} {v : Value} (h : LoopL p w wr n v) (hw : Below wr.heap.size wr w1) (hp : p n = false) : LoopL p w w1 (n + 1) v :=
  ⟨(hw.block _ h.x.lt).trans h.x, by rw [below_no hp]; exact owns_below h.row hw (Nat.le_refl _), h.low.trans (hw.mono h.low.size)⟩

set_option maxRecDepth 100000 in
set_option maxHeartbeats 4000000 in
theorem rlist_any (p : Nat → Bool) (w : World) : Calls Try.prog 37 #[.agg #[.int .u64 (wd p 0), .int .u64 (wd p 1), .int .u64 (wd p 2), .int .u64 (wd p 3)]] w (ListPost p w) := by
  obtain ⟨i0, hi, hz0, hz1, hz2⟩ := info_parts infoInt
  have H := Lib.hid (fun (n : Nat) (h : n < 256) w => (show Calls Try.prog 31 #[.agg #[.int .u64 (wd p 0), .int .u64 (wd p 1), .int .u64 (wd p 2), .int .u64 (wd p 3)], .int .i64 n] w fun e w' => e = .returned (.bool (p n)) ∧ Below w.heap.size w w' by have := rhas_any p n w; rw [hasP_nat h] at this; exact this))
  go_enter Try.func37, Try.ntmps37
  go_wp2
  go_loopw [3, 4] (fun v i wr => ∃ n : Nat, n ≤ 256 ∧ i = .int .i64 n ∧ Hid (LoopL p w wr n v)) (fun _ i _ => (256 - intOf i).toNat)
  case atStart =>
    exact ⟨0, by omega, rfl, ⟨World.alloc_heap_new w _, World.ownsRow_nil _ _ _ _, (Below.refl _ _).alloc (Nat.le_refl _) _⟩⟩
  case round =>
    obtain ⟨n, hn, rfl, HL⟩ := hrel
    by_cases hlt : n < 256
    · obtain ⟨x0, x1, x2, x3⟩ := HL.out.x.cells
      have C := Lib.hid (H.out n hlt)
      have hlen : (below p n).length ≤ 256 := by rw [below_length]; have := cntN_le p n; omega
      clear H
      cases hq : p n with
      | false =>
        have HN := Lib.hid (fun w1 hw => HL.out.stay (w1 := w1) hw hq)
        rw [hq] at C
        clear HL hq hlen
        generalize wd p = a at x0 x1 x2 x3 C
        go_wp2_with (go_at_call 31; (refine (C.out _).mono ?_); rintro e w1 ⟨rfl, hw1⟩; have HM := Lib.hid (HN.out _ hw1); clear hw1)
        go_roundw
        case rel => exact ⟨n + 1, by omega, by go_num, HM⟩
        case measure => simp [intOf]; omega
      | true =>
        have HQ := Lib.hid hq
        rw [hq] at C
        clear hq
        generalize wd p = a at x0 x1 x2 x3 C
        go_wp2_with (first
          | (go_at_call 31; (refine (C.out _).mono ?_); rintro e w1 ⟨rfl, hw1⟩; have HR := Lib.hid (owns_below HL.out.row hw1 (Nat.le_refl _)); have HZ := Lib.hid (Nat.le_trans (HL.out.x.lt : w.heap.size + 1 ≤ wr.heap.size) hw1.size); have HW := Lib.hid hw1; clear hw1)
          | (at_builtin; refine wpList_append_own _ rfl _ _ 34 rfl (w.heap.size + 1) 3 i0 (.int .i64 0) 1 8 Try.underlying34 hi hz0 hz1 hz2 rfl (by decide) _ _ _ rfl (HR.out.alloc _) ⟨w1.heap.size, 0, none⟩ 1 1 [.int .i64 n] rfl rfl (cell_one_new _ _ _) (fun x hx => by simp at hx; subst hx; rfl) (by unfold maxLen; omega) (by omega) (by have := HZ.out; simp; omega) ?_; intro v' w3 hown' hgrow _; have HM := Lib.hid (HL.out.next HW.out HQ.out hown' hgrow); clear hown' hgrow))
        go_roundw
        case rel => exact ⟨n + 1, by omega, by go_num, HM⟩
        case measure => simp [intOf]; omega
    · obtain rfl : n = 256 := by omega
      clear H
      go_wp2
      go_ret
      exact ⟨_, rfl, by
        have := owns_base HL.out.row (base' := w.heap.size) (by omega)
        unfold els; rw [List.length_map]; exact this, HL.out.low⟩

end Go.Proofs.Ytcanbjgbpkofaaa

/-
  The walks over the document's own count; two rows held against each other; the first numbers of a row; the chapter's example.
-/
namespace Go.Proofs.Ytcanbjgbpkofaaa
open Go.RowKit

theorem els_length (p : Nat → Bool) : (els p).length = cntN p 256 := by unfold els; rw [List.length_map, below_length]

set_option maxHeartbeats 1000000 in
theorem rlen_any (p : Nat → Bool) (w : World) :
    Calls Try.prog 17 #[.agg #[.int .u64 (wd p 0), .int .u64 (wd p 1), .int .u64 (wd p 2), .int .u64 (wd p 3)]] w fun e w' => e = .returned (.int .i64 (cntN p 256)) ∧ Below w.heap.size w w' := by
  have C := Lib.hid (fun w => rlist_any p w)
  have HE := Lib.hid (els_length p)
  have HB := Lib.hid ((Below.refl w.heap.size w).alloc (Nat.le_refl _) (.cells #[.int .u64 (wd p 0), .int .u64 (wd p 1), .int .u64 (wd p 2), .int .u64 (wd p 3)] 32))
  go_enter Try.func17, Try.ntmps17
  go_wp2_with (go_at_call 37; (refine (C.out _).mono ?_); rintro e w1 ⟨v, rfl, hown, hw1⟩; obtain ⟨ao, cap, rfl, _, _, _⟩ := owns_reads hown; have HB1 := Lib.hid (below_next hw1 HB.out (Nat.le_refl _)); clear hw1 hown)
  go_ret
  exact ⟨by rw [HE.out]; rfl, HB1.out⟩

theorem l_i64_of_wf {x : Int} (h : (Lit.int .i64 x).wf = true) : -9223372036854775808 ≤ x ∧ x ≤ 9223372036854775807 := by
  simp [Lit.wf, IntKind.min, IntKind.max, IntKind.signed, IntKind.bits] at h
  omega

theorem els_sample : els (ofN [5, 3, 300, 3] 4) = [3, 5] := by decide +kernel
theorem has_sample : hasP (ofN [3] 1) 3 = true := by decide +kernel

theorem reads_two (a b : Int) (g : Nat) (w : World) (hg : g < w.heap.size) (h0 : w.cell? ⟨g, 0, none⟩ = some (.int .i64 a)) (h1 : w.cell? ⟨g, 1, none⟩ = some (.int .i64 b)) : Reads w w.heap.size (some ⟨g, 0, none⟩) [a, b] :=
  .inr ⟨g, 0, rfl, hg, fun k hk => by
    rcases (show k = 0 ∨ k = 1 by simp at hk; omega) with rfl | rfl
    · exact h0
    · exact h1⟩

theorem reads_next {w w1 w2 : World} {B : Nat} {ao : Option Addr} {L : List Int} (hb : Below w1.heap.size w1 w2) (h : Reads w B ao L) (hB : B ≤ w.heap.size) (e : w1.heap = w.heap := by rfl) : Reads w2 w2.heap.size ao L := by
  rcases h with h | ⟨b, off, h1, h2, h3⟩
  · exact .inl h
  · refine .inr ⟨b, off, h1, ?_, fun k hk => ?_⟩
    · have := hb.size; rw [e] at this; omega
    · rw [hb.cell (p := ⟨b, off + k, none⟩) (by show b < _; rw [e]; omega), cell_same e]; exact h3 k hk

end Go.Proofs.Ytcanbjgbpkofaaa

/-
  The walk over all sets that belong to one.
-/
namespace Go.Proofs.Ytcanbjgbpkofaaa
open Go.RowKit Go.Maps Go.Shelf
attribute [local go_sem] Oper.semAt_some

/-- The set of a row of numbers. -/
def setP (l : List Int) (i : Nat) : Bool := decide ((i : Int) ∈ l)
theorem setP_nil (k : Nat) : wd (setP []) k = 0 := by
  have : wd (setP []) k = wd noneP k := natOf_congr fun j _ => by simp [setP, noneP]
  rw [this, wd_none]
theorem setP_put (l : List Int) (x : Int) (k : Nat) : wd (orP (setP l) (oneP x)) k = wd (setP (l ++ [x])) k := natOf_congr fun j _ => by
  simp only [setP, orP, oneP, List.mem_append, List.mem_singleton, Bool.decide_or]
theorem setP_all {n : Nat} {L : Nat → Int} {o : Int} (ho : okOwn o) (hn : n ≤ 256) (k : Nat) : wd (setP (ofsN L o n)) k = wd (ofP n L o) k := natOf_congr fun j _ => by
  unfold setP ofP
  rw [decide_eq_true ho, Bool.true_and, ← Bool.decide_and, decide_eq_decide]
  unfold ofsN
  simp only [List.mem_map, List.mem_filter, List.mem_range, decide_eq_true_eq]
  constructor
  · rintro ⟨i, ⟨h1, h2⟩, h3⟩
    obtain rfl : i = 64 * k + j := by omega
    exact ⟨h1, h2⟩
  · rintro ⟨h1, h2⟩
    exact ⟨_, ⟨h1, h2⟩, rfl⟩
theorem of_none {n : Nat} {L : Nat → Int} {o : Int} (ho : ¬ okOwn o) (k : Nat) : wd (ofP n L o) k = 0 := by
  have : wd (ofP n L o) k = wd noneP k := natOf_congr fun j _ => by simp [ofP, noneP, ho]
  rw [this, wd_none]
theorem ofs_bound (L : Nat → Int) (o : Int) (n : Nat) (x : Int) (h : x ∈ ofsN L o n) : x < n := by
  simp only [ofsN, List.mem_map, List.mem_filter, List.mem_range] at h
  obtain ⟨i, ⟨h1, _⟩, rfl⟩ := h
  omega
theorem Blk4.four {w : World} {b x0 x1 x2 x3 : Nat} (h : Blk4 w b x0 x1 x2 x3) : Four w b x0 x1 x2 x3 := by
  obtain ⟨h0, h1, h2, h3⟩ := h.cells
  exact ⟨h0, h1, h2, h3, blk_free h 0, blk_free h 1, blk_free h 2, blk_free h 3⟩
theorem Blk4.below {w w' : World} {b x0 x1 x2 x3 : Nat} (h : Blk4 w b x0 x1 x2 x3) (hb : Below w.heap.size w w') : Blk4 w' b x0 x1 x2 x3 := kept_obj hb h
theorem Blk4.set {w : World} {b x0 x1 x2 x3 : Nat} (h : Blk4 w b x0 x1 x2 x3) (y0 y1 y2 y3 : Nat) : Blk4 ((((w.setCell ⟨b, 0, none⟩ (.int .u64 y0)).setCell ⟨b, 1, none⟩ (.int .u64 y1)).setCell ⟨b, 2, none⟩ (.int .u64 y2)).setCell ⟨b, 3, none⟩ (.int .u64 y3)) b y0 y1 y2 y3 := by
  have h1 : (w.setCell ⟨b, 0, none⟩ (.int .u64 y0)).heap[b]? = some (.cells #[.int .u64 y0, .int .u64 x1, .int .u64 x2, .int .u64 x3] 32 (0, 0)) := (blk_set h _).trans rfl
  have h2 : ((w.setCell ⟨b, 0, none⟩ (.int .u64 y0)).setCell ⟨b, 1, none⟩ (.int .u64 y1)).heap[b]? = some (.cells #[.int .u64 y0, .int .u64 y1, .int .u64 x2, .int .u64 x3] 32 (0, 0)) := (blk_set h1 _).trans rfl
  have h3 : (((w.setCell ⟨b, 0, none⟩ (.int .u64 y0)).setCell ⟨b, 1, none⟩ (.int .u64 y1)).setCell ⟨b, 2, none⟩ (.int .u64 y2)).heap[b]? = some (.cells #[.int .u64 y0, .int .u64 y1, .int .u64 y2, .int .u64 x3] 32 (0, 0)) := (blk_set h2 _).trans rfl
  exact (blk_set h3 _).trans rfl
theorem set4_far {w : World} {b k : Nat} (hne : k ≠ b) (y0 y1 y2 y3 : Value) : ((((w.setCell ⟨b, 0, none⟩ y0).setCell ⟨b, 1, none⟩ y1).setCell ⟨b, 2, none⟩ y2).setCell ⟨b, 3, none⟩ y3).heap[k]? = w.heap[k]? := by
  rw [blk_far (a := ⟨b, 3, none⟩) hne, blk_far (a := ⟨b, 2, none⟩) hne, blk_far (a := ⟨b, 1, none⟩) hne, blk_far (a := ⟨b, 0, none⟩) hne]
/-- The two boxes of a set that grows: the one that comes back, the set itself. -/
structure TwoSets (w : World) (p : List Int → Nat → Nat) (pre : List Int) (W : World) : Prop where
  res : Blk4 W w.heap.size 0 0 0 0
  all : Blk4 W (w.heap.size + 1) (p pre 0) (p pre 1) (p pre 2) (p pre 3)
  low : Below w.heap.size w W
theorem TwoSets.own {w : World} {p : List Int → Nat → Nat} {B : Nat} (hB : w.heap.size ≤ B) : OwnFrom B (TwoSets w p) := fun s X Y row hs hg hrow => by
  have e : ∀ b x0 x1 x2 x3, Blk4 X b x0 x1 x2 x3 → Blk4 Y b x0 x1 x2 x3 := fun b x0 x1 x2 x3 hb => by
    refine (hg.block b hb.lt (fun e => ?_)).trans hb
    obtain ⟨_, o, ho, hc⟩ := hrow b e.symm
    rw [show X.heap[b]? = _ from hb] at ho
    cases ho
    cases hc
  exact ⟨e _ _ _ _ _ hs.res, e _ _ _ _ _ hs.all, hs.low.grown hg hs.low.size (fun k hk => Nat.le_trans hB (hrow k hk).1)⟩
theorem TwoSets.alloc {w W : World} {p : List Int → Nat → Nat} {pre : List Int} (h : TwoSets w p pre W) (o : Obj) : TwoSets w p pre (W.alloc o) :=
  ⟨h.res.below ((Below.refl _ _).alloc (Nat.le_refl _) o), h.all.below ((Below.refl _ _).alloc (Nat.le_refl _) o), h.low.alloc h.low.size o⟩
theorem two_boxes (W : World) {N : Nat} (hN : W.heap.size = N) (c1 c2 : Obj) : ((W.alloc c1).alloc c2).heap[N]? = some c1 ∧ ((W.alloc c1).alloc c2).heap[N + 1]? = some c2 := by
  subst hN
  refine ⟨kept_obj ((Below.refl _ _).alloc (Nat.le_refl _) _) (heap_alloc_new W _), ?_⟩
  have := heap_alloc_new (W.alloc c1) c2
  rwa [World.size_alloc] at this
/-- A round of it. -/
theorem TwoSets.put {w W w3 : World} {p : List Int → Nat → Nat} {pre : List Int} {x : Int} (h : TwoSets w p pre W) (hb : Below W.heap.size W w3) {S : Nat → Prop} (hS : ∀ k, S k → k ≠ w.heap.size + 1) {y : Nat → Nat} (hy : ∀ k, y k = p (pre ++ [x]) k) {B : Nat} :
    KeepsFrom B W ((((w3.setCell ⟨w.heap.size + 1, 0, none⟩ (.int .u64 (y 0))).setCell ⟨w.heap.size + 1, 1, none⟩ (.int .u64 (y 1))).setCell ⟨w.heap.size + 1, 2, none⟩ (.int .u64 (y 2))).setCell ⟨w.heap.size + 1, 3, none⟩ (.int .u64 (y 3))) ∧
    KpS S W ((((w3.setCell ⟨w.heap.size + 1, 0, none⟩ (.int .u64 (y 0))).setCell ⟨w.heap.size + 1, 1, none⟩ (.int .u64 (y 1))).setCell ⟨w.heap.size + 1, 2, none⟩ (.int .u64 (y 2))).setCell ⟨w.heap.size + 1, 3, none⟩ (.int .u64 (y 3))) ∧
    TwoSets w p (pre ++ [x]) ((((w3.setCell ⟨w.heap.size + 1, 0, none⟩ (.int .u64 (y 0))).setCell ⟨w.heap.size + 1, 1, none⟩ (.int .u64 (y 1))).setCell ⟨w.heap.size + 1, 2, none⟩ (.int .u64 (y 2))).setCell ⟨w.heap.size + 1, 3, none⟩ (.int .u64 (y 3))) := by
  have hsz : ∀ y0 y1 y2 y3 : Value, ((((w3.setCell ⟨w.heap.size + 1, 0, none⟩ y0).setCell ⟨w.heap.size + 1, 1, none⟩ y1).setCell ⟨w.heap.size + 1, 2, none⟩ y2).setCell ⟨w.heap.size + 1, 3, none⟩ y3).heap.size = w3.heap.size := fun _ _ _ _ => by simp
  have hk : ∀ (k : Nat) (o : Obj), W.heap[k]? = some o → k ≠ w.heap.size + 1 → ((((w3.setCell ⟨w.heap.size + 1, 0, none⟩ (.int .u64 (y 0))).setCell ⟨w.heap.size + 1, 1, none⟩ (.int .u64 (y 1))).setCell ⟨w.heap.size + 1, 2, none⟩ (.int .u64 (y 2))).setCell ⟨w.heap.size + 1, 3, none⟩ (.int .u64 (y 3))).heap[k]? = some o := fun k o ho hne => by
    rw [set4_far hne]; exact kept_obj hb ho
  have hne : ∀ (k : Nat) (o : Obj), W.heap[k]? = some o → o.isCells = false → k ≠ w.heap.size + 1 := by
    rintro k o ho hc rfl
    rw [show W.heap[w.heap.size + 1]? = _ from h.all] at ho
    cases ho
    cases hc
  refine ⟨⟨by rw [hsz]; exact hb.size, fun k o _ ho hc => hk k o ho (hne k o ho hc)⟩, ⟨⟨by rw [hsz]; exact hb.size, fun k o ho hw => hk k o ho (hne k o ho (Obj.not_cells_of_walk hw))⟩, fun k cs T fr hs hc => hk k _ hc (hS k hs)⟩, ⟨?_, ?_, ?_⟩⟩
  · exact hk _ _ h.res (by omega)
  · have := (h.all.below hb).set (y 0) (y 1) (y 2) (y 3)
    rw [← hy 0, ← hy 1, ← hy 2, ← hy 3]
    exact this
  · have hs := h.low.size
    exact ((((below_up h.low hb).setCell (p := ⟨w.heap.size + 1, 0, none⟩) (Nat.le_succ _) _).setCell (p := ⟨w.heap.size + 1, 1, none⟩) (Nat.le_succ _) _).setCell (p := ⟨w.heap.size + 1, 2, none⟩) (Nat.le_succ _) _).setCell (p := ⟨w.heap.size + 1, 3, none⟩) (Nat.le_succ _) _

/-- What is told of one. -/
def OfBack (p : Nat → Bool) (w : World) (e : Ending) (w' : World) : Prop := e = .returned (.agg #[.int .u64 (wd p 0), .int .u64 (wd p 1), .int .u64 (wd p 2), .int .u64 (wd p 3)]) ∧ Below w.heap.size w w'

set_option maxRecDepth 100000 in
set_option maxHeartbeats 4000000 in
theorem of_no (v : Value) (n : Nat) (L : Nat → Int) (o : Int) (ho : ¬ okOwn o) (w : World) : Calls Try.prog 20 #[v, .int .i64 o] w (OfBack (ofP n L o) w) := by
  unfold OfBack
  rw [of_none ho, of_none ho, of_none ho, of_none ho]
  have M := Lib.hid (may_any o)
  rw [decide_eq_false ho] at M
  have FA := Lib.hid ((Four.new w 0 0 0 0 32).alloc (.cells #[.int .u64 0, .int .u64 0, .int .u64 0, .int .u64 0] 32))
  have HB := Lib.hid (((Below.refl w.heap.size w).alloc (Nat.le_refl _) (.cells #[.int .u64 0, .int .u64 0, .int .u64 0, .int .u64 0] 32)).alloc (by simp) (.cells #[.int .u64 0, .int .u64 0, .int .u64 0, .int .u64 0] 32))
  obtain ⟨a0, a1, a2, a3, c0, c1, c2, c3⟩ := FA.out
  go_enter Try.func20, Try.ntmps20
  go_wp2_with (go_at_call 40; refine (M.out _).mono ?_; rintro e w1 ⟨rfl, rfl⟩)
  refine bodyPost_ret (v := .agg #[.int .u64 0, .int .u64 0, .int .u64 0, .int .u64 0]) ?_ rfl ⟨rfl, ?_⟩
  · have e0 := World.cell?_alloc_new w #[.int .u64 0, .int .u64 0, .int .u64 0, .int .u64 0] 32
    have hl : w.heap.size < (w.alloc (.cells #[.int .u64 0, .int .u64 0, .int .u64 0, .int .u64 0] 32)).heap.size := by simp
    have s0 := World.cell?_alloc_lt (w.alloc (.cells #[.int .u64 0, .int .u64 0, .int .u64 0, .int .u64 0] 32)) (.cells #[.int .u64 0, .int .u64 0, .int .u64 0, .int .u64 0] 32) ⟨w.heap.size, 0, none⟩ hl
    have s1 := World.cell?_alloc_lt (w.alloc (.cells #[.int .u64 0, .int .u64 0, .int .u64 0, .int .u64 0] 32)) (.cells #[.int .u64 0, .int .u64 0, .int .u64 0, .int .u64 0] 32) ⟨w.heap.size, 1, none⟩ hl
    have s2 := World.cell?_alloc_lt (w.alloc (.cells #[.int .u64 0, .int .u64 0, .int .u64 0, .int .u64 0] 32)) (.cells #[.int .u64 0, .int .u64 0, .int .u64 0, .int .u64 0] 32) ⟨w.heap.size, 2, none⟩ hl
    have s3 := World.cell?_alloc_lt (w.alloc (.cells #[.int .u64 0, .int .u64 0, .int .u64 0, .int .u64 0] 32)) (.cells #[.int .u64 0, .int .u64 0, .int .u64 0, .int .u64 0] 32) ⟨w.heap.size, 3, none⟩ hl
    rw [e0] at s0 s1 s2 s3
    clear hl e0 a0 a1 a2 a3 c0 c1 c2 c3
    simp [results, Try.results20, go_sem, s0, s1, s2, s3]
  · exact HB.out

set_option maxRecDepth 100000 in
set_option maxHeartbeats 8000000 in
theorem of_core (ad : Option Addr) (n : Nat) (hn : n ≤ 256) (L : Nat → Int) (o : Int) (ho : okOwn o) (w : World) (T : Nat → Prop) (hT : ∀ k, T k → k < w.heap.size)
    (NU : Hid (∀ (n : Nat) (w : World), CallsIn Fence.wide n Try.prog 41 #[.pointer ad, .int .i64 o] w fun e w' => e = .returned (.func (.func 54) #[] #[.pointer (some ⟨w.heap.size, 0, none⟩), .pointer (some ⟨w.heap.size + 1, 0, none⟩)]) ∧ w' = (w.alloc (.cells #[.pointer ad] 47)).alloc (.cells #[.int .i64 o] 3)))
    (IT : Hid (∀ m, 1 ≤ m → ∀ (Bc Bo : Nat) W, Below w.heap.size w W → W.heap[Bc]? = some (.cells #[.pointer ad] 47 (0, 0)) → W.heap[Bo]? = some (.cells #[.int .i64 o] 3 (0, 0)) → SeqStopsK Fence.wide m Try.prog 54 #[.pointer (some ⟨Bc, 0, none⟩), .pointer (some ⟨Bo, 0, none⟩)] (fun x : SetNo => #[.int .i64 x.1]) (KpS (fun k => k = Bc ∨ k = Bo ∨ T k)) (fun ys => ys.map Subtype.val = ofsN L o n) (fun _ => True) 257 W)) :
    Calls Try.prog 20 #[.pointer ad, .int .i64 o] w (OfBack (ofP n L o) w) := by
  have M := Lib.hid (may_any o)
  rw [decide_eq_true ho] at M
  have HP := Lib.hid (fun k => @setP_all n L o ho hn k)
  have H0 := Lib.hid setP_nil
  have HN := Lib.hid setP_put
  have W1 := Lib.hid (fun (l : List Int) (x : Int) (hx : x ≤ 9223372036854775807) w => with_any (setP l) x hx w)
  obtain ⟨p, hp⟩ : ∃ p : List Int → Nat → Nat, ∀ l k, wd (setP l) k = p l k := ⟨_, fun _ _ => rfl⟩
  have hp2 : ∀ l x k, wd (orP (setP l) (oneP x)) k = p (l ++ [x]) k := fun l x k => by rw [setP_put, hp]
  simp only [hp, hp2] at HP H0 W1
  clear HN hp hp2
  have R0 : Blk4 ((w.alloc (.cells #[.int .u64 0, .int .u64 0, .int .u64 0, .int .u64 0] 32)).alloc (.cells #[.int .u64 0, .int .u64 0, .int .u64 0, .int .u64 0] 32)) w.heap.size 0 0 0 0 :=
    kept_obj ((Below.refl _ _).alloc (Nat.le_refl _) _) (heap_alloc_new w _)
  have R1 : Blk4 ((w.alloc (.cells #[.int .u64 0, .int .u64 0, .int .u64 0, .int .u64 0] 32)).alloc (.cells #[.int .u64 0, .int .u64 0, .int .u64 0, .int .u64 0] 32)) (w.heap.size + 1) 0 0 0 0 := by
    have := heap_alloc_new (w.alloc (.cells #[.int .u64 0, .int .u64 0, .int .u64 0, .int .u64 0] 32)) (.cells #[.int .u64 0, .int .u64 0, .int .u64 0, .int .u64 0] 32)
    rwa [World.size_alloc] at this
  have HT : Hid (TwoSets w p [] ((w.alloc (.cells #[.int .u64 0, .int .u64 0, .int .u64 0, .int .u64 0] 32)).alloc (.cells #[.int .u64 0, .int .u64 0, .int .u64 0, .int .u64 0] 32))) :=
    ⟨R0, by rw [H0.out, H0.out, H0.out, H0.out]; exact R1, (by repeat (first | exact Below.refl _ _ | (with_reducible assumption) | refine bw_alloc ?_ _ | refine bw_drew ?_))⟩
  have BX := Lib.hid (two_boxes ((w.alloc (.cells #[.int .u64 0, .int .u64 0, .int .u64 0, .int .u64 0] 32)).alloc (.cells #[.int .u64 0, .int .u64 0, .int .u64 0, .int .u64 0] 32)) (by rw [World.size_alloc, World.size_alloc] : _ = w.heap.size + 1 + 1) (.cells #[.pointer ad] 47) (.cells #[.int .i64 o] 3))
  clear R0 R1
  refine (callsIn_wide (n := 3)).1 ?_
  refine callsIn_of_wp_marks Try.func20 rfl trivial ?_ rfl
  simp only [Try.ntmps20, List.size_toArray, List.length_cons, List.length_nil, Nat.reduceAdd, Nat.reduceSub, Array.replicate_succ, Array.replicate_zero, List.push_toArray, List.append_toArray, List.nil_append, List.cons_append]
  gi_wp2_with (first
    | (refine ⟨trivial, ?_⟩; gi_at_call 40; (refine (callsIn_wide.2 (M.out _)).mono ?_); rintro e w1 ⟨rfl, rfl⟩)
    | (refine ⟨trivial, ?_⟩; gi_at_call 41; (refine (NU.out _ _).mono ?_); rintro e w' ⟨rfl, rfl⟩))
  refine wpIn_rangeFunc_ownG rfl (by omega) (gf := 54) (lb := #[.pointer (some ⟨w.heap.size + 1 + 1, 0, none⟩), .pointer (some ⟨w.heap.size + 1 + 1 + 1, 0, none⟩)]) rfl trivial (enters_of Try.func54 (by kernel_rfl) rfl)
    (IT.out _ (by omega) (w.heap.size + 1 + 1) (w.heap.size + 1 + 1 + 1) _ ((HT.out.alloc _).alloc _).low BX.out.1 BX.out.2) kpS_t kpS_b (Below.refl _ _) (fun _ => rfl)
    (fun (pre : List SetNo) W => TwoSets w p (pre.map Subtype.val) W) (fun _ _ _ => False) (fun s X Y row hs hg hr => TwoSets.own (by simp; omega) (s.map Subtype.val) X Y row hs hg hr) (fun _ _ _ _ _ hs _ _ => hs) ((HT.out.alloc _).alloc _)
    (fun x => { tmps := #[.pointer ad, .int .i64 o, undef, undef, .pointer (some ⟨w.heap.size, 0, none⟩), .pointer (some ⟨w.heap.size + 1, 0, none⟩), .int .i64 x.1, .int .i64 o, .bool true, .bool false, undef, .pointer ad, .int .i64 o, .func (.func 54) #[] #[.pointer (some ⟨w.heap.size + 1 + 1, 0, none⟩), .pointer (some ⟨w.heap.size + 1 + 1 + 1, 0, none⟩)], .int .i64 x.1, undef, undef, undef, undef], defers := [] }) ?assign ?body ?done ?stop
  case assign =>
    intro l x W K hK
    gi_wp2
    exact hK
  case body =>
    rintro l pre x W hI hlt
    obtain ⟨x, hx⟩ := x
    have C := Lib.hid (W1.out (pre.map Subtype.val) x (by omega))
    have HM : Hid ((pre ++ [(⟨x, hx⟩ : SetNo)]).map Subtype.val = pre.map Subtype.val ++ [x]) := by show _ = _; simp
    dsimp only at hI ⊢
    have HI := Lib.hid hI
    obtain ⟨a0, a1, a2, a3, _, _, _, _⟩ := hI.all.four
    clear hI HT NU IT M
    gi_wp2_with (refine ⟨trivial, ?_⟩; gi_at_call 42; (refine (CallsIn.inRound l (callsIn_wide.2 (C.out _))).mono ?_); rintro e w3 ⟨rfl, b3⟩; have HB3 := Lib.hid b3; obtain ⟨d0, d1, d2, d3, g0, g1, g2, g3⟩ := (HI.out.all.below b3).four; clear b3)
    obtain ⟨q1, q2, q3⟩ := HI.out.put HB3.out (S := fun k => k = w.heap.size + 1 + 1 ∨ k = w.heap.size + 1 + 1 + 1 ∨ T k) (fun k hk => by
      rcases hk with rfl | rfl | hk
      · omega
      · omega
      · have := hT k hk; omega) (B := ((((w.alloc (.cells #[.int .u64 0, .int .u64 0, .int .u64 0, .int .u64 0] 32)).alloc (.cells #[.int .u64 0, .int .u64 0, .int .u64 0, .int .u64 0] 32)).alloc (.cells #[.pointer ad] 47)).alloc (.cells #[.int .i64 o] 3)).heap.size) (fun _ => rfl)
    exact ⟨q1, q2, by show TwoSets w p ((pre ++ [(⟨x, hx⟩ : SetNo)]).map Subtype.val) _; rw [HM.out]; exact q3⟩
  case done =>
    rintro D ys W hD hys hI hK
    rw [hys] at hI
    have HI := Lib.hid hI
    obtain ⟨z0, z1, z2, z3, v0, v1, v2, v3⟩ := hI.res.four
    obtain ⟨a0, a1, a2, a3, _, _, _, _⟩ := hI.all.four
    clear hI hys NU IT M
    gi_wp2
    have hS := HI.out.res.set (p (ofsN L o n) 0) (p (ofsN L o n) 1) (p (ofsN L o n) 2) (p (ofsN L o n) 3)
    have hne : D ≠ w.heap.size := by simp at hD; omega
    have hK4 := hK
    rw [← set4_far hne (.int .u64 (p (ofsN L o n) 0)) (.int .u64 (p (ofsN L o n) 1)) (.int .u64 (p (ofsN L o n) 2)) (.int .u64 (p (ofsN L o n) 3))] at hK4
    have hBl := below_set4 (d := w.heap.size) HI.out.low (Nat.le_refl _) (p (ofsN L o n) 0) (p (ofsN L o n) 1) (p (ofsN L o n) 2) (p (ofsN L o n) 3)
    refine ⟨by simp, .inl ⟨_, _, rfl, run_takeDeferred hK4, ?_⟩⟩
    have hS2 := fun ob => (show Blk4 (World.putObj _ D ob) w.heap.size _ _ _ _ from (World.putObj_heap_other (Ne.symm hne)).trans hS)
    have s0 := fun ob => (hS2 ob).cells.1
    have s1 := fun ob => (hS2 ob).cells.2.1
    have s2 := fun ob => (hS2 ob).cells.2.2.1
    have s3 := fun ob => (hS2 ob).cells.2.2.2
    refine ⟨.agg #[.int .u64 (p (ofsN L o n) 0), .int .u64 (p (ofsN L o n) 1), .int .u64 (p (ofsN L o n) 2), .int .u64 (p (ofsN L o n) 3)], ?_, ?_⟩
    · simp [results, Try.results20, go_sem, s0, s1, s2, s3]
    · unfold OfBack
      rw [← HP.out, ← HP.out, ← HP.out, ← HP.out]
      exact ⟨rfl, hBl.trans (belowK_b (w := w) (Nat.le_refl _) _ D _ _ (by simp at hD; omega) hK4 rfl rfl)⟩
  case stop =>
    rintro D c pre W _ _ h _
    exact h.elim
theorem cof_any {w : World} {b r n : Nat} {L : Nat → Int} (h : Ch CT w b r n L) (o : Int) : Calls Try.prog 20 #[.pointer (some ⟨b, 0, none⟩), .int .i64 o] w (OfBack (ofP n L o) w) := by
  by_cases ho : okOwn o
  · refine of_core (some ⟨b, 0, none⟩) n h.few L o ho w (fun k => k = b ∨ k = r) (fun k q => by have := h.lt; omega) (Lib.hid fun m W => owned_val _ o m W) (Lib.hid fun m hm Bc Bo W hW h1 h2 => ?_)
    exact owned1_stops m hm Bc Bo b r n L o W ⟨h1, h2, h.below hW⟩
  · exact of_no _ n L o ho w
theorem cof_nil (o : Int) (w : World) : Calls Try.prog 20 #[.pointer none, .int .i64 o] w (OfBack noneP w) := by
  have key : Calls Try.prog 20 #[.pointer none, .int .i64 o] w (OfBack (ofP 0 (fun _ => 0) o) w) := by
    by_cases ho : okOwn o
    · exact of_core none 0 (by omega) (fun _ => 0) o ho w (fun _ => False) (fun k q => q.elim) (Lib.hid fun m W => owned_val _ o m W) (Lib.hid fun m hm Bc Bo W hW h1 h2 => owned1_nil m hm Bc Bo o W h1)
    · exact of_no _ 0 _ o ho w
  have e : ofP 0 (fun _ => 0) o = noneP := by funext i; simp [ofP, noneP]
  rwa [e] at key
end Go.Proofs.Ytcanbjgbpkofaaa

/-
  The walk over the closure that puts a tick's set to the row that grows.
-/
namespace Go.Proofs.Ytcanbjgbpkofaaa
open Go.RowKit Go.Maps

abbrev RB4 : TypeId := 39
/-- The boxes of a row that grows: the task, the row, the closure. -/
structure GrowAt (w0 : World) (bt br bf : Nat) (T : TV) (l : List Nat) (a : Option Addr) (c : Nat) (W : World) : Prop where
  low : Below w0.heap.size w0 W
  tb : W.heap[bt]? = some (.cells #[.int .i64 T.id, .int .i64 T.c, .int .i64 T.d, .int .i64 T.t, .int .i64 T.p, .slice T.a1 T.ch.length T.c1, .slice T.a2 T.us.length T.c2] TT (0, 0))
  fb : W.heap[bf]? = some (.cells #[.func (.func 46) #[] #[.pointer (some ⟨br, 0, none⟩), .pointer (some ⟨bt, 0, none⟩)]] 88 (0, 0))
  rb : W.heap[br]? = some (.cells #[.slice a (l.length + 1) c] RB4 (0, 0))
  row : OwnS W w0.heap.size (.slice a (l.length + 1) c) (rowsOf T.us l)
  tr : bt ≠ br
  fr : bf ≠ br
  lr : w0.heap.size ≤ br
theorem GrowAt.below {w0 : World} {bt br bf : Nat} {T : TV} {l : List Nat} {a : Option Addr} {c : Nat} {W W' : World} (h : GrowAt w0 bt br bf T l a c W) (hb : Below W.heap.size W W') : GrowAt w0 bt br bf T l a c W' :=
  ⟨below_up h.low hb, kept_obj hb h.tb, kept_obj hb h.fb, kept_obj hb h.rb, h.row.below hb, h.tr, h.fr, h.lr⟩
theorem GrowAt.view {w0 : World} {bt br bf : Nat} {T : TV} {l : List Nat} {a : Option Addr} {c : Nat} {W : World} (h : GrowAt w0 bt br bf T l a c W) : SView W a (rowsOf T.us l) := by
  obtain ⟨a', c', e, hv, _⟩ := h.row.slice
  simp only [Value.slice.injEq] at e
  obtain ⟨rfl, _, rfl⟩ := e
  exact hv
/-- What is no row lies in no row's block. -/
theorem OwnS.far {w : World} {B : Nat} {v : Value} {q : List (Nat → Bool)} (h : OwnS w B v q) {b : Nat} {cs : Array Value} {U : TypeId} {fr : Nat × Nat} (hb : w.heap[b]? = some (.cells cs U fr)) (hU : U ≠ ST4) : v.ownBlock ≠ some b := by
  intro e
  rcases h.2 with ⟨rfl, _⟩ | ⟨g, cap, cur, rfl, _, h3, _⟩
  · cases e
  · obtain rfl : g = b := by simpa [Value.ownBlock] using e
    rw [hb] at h3
    simp at h3
    exact hU h3.2.1
theorem sat_new (w : World) (q : Nat → Bool) : SAt (w.alloc (.cells #[.int .u64 (wd q 0), .int .u64 (wd q 1), .int .u64 (wd q 2), .int .u64 (wd q 3)] ST4)) w.heap.size 0 q :=
  ⟨by rw [World.cell?_alloc_new]; rfl, by rw [World.cell?_alloc_new]; rfl, by rw [World.cell?_alloc_new]; rfl, by rw [World.cell?_alloc_new]; rfl⟩
/-- What is left behind a set put to the row. -/
def AddBack (w0 : World) (bt br bf : Nat) (T : TV) (l : List Nat) (W : World) (e : Ending) (W' : World) : Prop :=
  e = .returned (.tuple #[]) ∧ (∃ a c, GrowAt w0 bt br bf T l a c W') ∧ ∃ S : Nat → Prop, (∀ i, S i → w0.heap.size ≤ i ∧ ∀ o, W.heap[i]? = some o → o.isCells = true) ∧ Turn S W W'
/-- The set's own box beside. -/
structure AddAt (w0 : World) (bt br bf : Nat) (T : TV) (l : List Nat) (a : Option Addr) (c : Nat) (W : World) (g : Nat) (p : Nat → Nat) (V : World) : Prop where
  at_ : GrowAt w0 bt br bf T l a c V
  up : Below W.heap.size W V
  box : V.heap[g]? = some (.cells #[.int .u64 (p 0), .int .u64 (p 1), .int .u64 (p 2), .int .u64 (p 3)] ST4 (0, 0))
  new : W.heap.size ≤ g
theorem AddAt.below {w0 : World} {bt br bf : Nat} {T : TV} {l : List Nat} {a : Option Addr} {c : Nat} {W : World} {g : Nat} {p : Nat → Nat} {V V' : World} (h : AddAt w0 bt br bf T l a c W g p V) (hb : Below V.heap.size V V') : AddAt w0 bt br bf T l a c W g p V' :=
  ⟨h.at_.below hb, below_up h.up hb, kept_obj hb h.box, h.new⟩
theorem AddAt.put {w0 : World} {bt br bf : Nat} {T : TV} {l : List Nat} {a : Option Addr} {c : Nat} {W : World} {g : Nat} {p : Nat → Nat} {V : World} (h : AddAt w0 bt br bf T l a c W g p V) (hw : GrowAt w0 bt br bf T l a c W) (y : Nat → Nat) :
    AddAt w0 bt br bf T l a c W g y ((((V.setCell ⟨g, 0, none⟩ (.int .u64 (y 0))).setCell ⟨g, 1, none⟩ (.int .u64 (y 1))).setCell ⟨g, 2, none⟩ (.int .u64 (y 2))).setCell ⟨g, 3, none⟩ (.int .u64 (y 3))) := by
  have hb : Below W.heap.size W ((((V.setCell ⟨g, 0, none⟩ (.int .u64 (y 0))).setCell ⟨g, 1, none⟩ (.int .u64 (y 1))).setCell ⟨g, 2, none⟩ (.int .u64 (y 2))).setCell ⟨g, 3, none⟩ (.int .u64 (y 3))) :=
    (((h.up.setCell (p := ⟨g, 0, none⟩) h.new _).setCell (p := ⟨g, 1, none⟩) h.new _).setCell (p := ⟨g, 2, none⟩) h.new _).setCell (p := ⟨g, 3, none⟩) h.new _
  exact ⟨hw.below hb, hb, (Blk4.set (show Blk4 V g _ _ _ _ from h.box) (y 0) (y 1) (y 2) (y 3)), h.new⟩
theorem add_done {w0 : World} {bt br bf : Nat} {T : TV} {l : List Nat} {a : Option Addr} {c : Nat} {W : World} {g : Nat} {p : Nat → Nat} {V : World} (h : AddAt w0 bt br bf T l a c W g p V) (hw : GrowAt w0 bt br bf T l a c W) (o : Obj) {w5 : World} {k : Nat} {a' : Option Addr} {c' : Nat}
    (hg : (V.alloc o).grownBy w5 (Value.slice a (l.length + 1) c).ownBlock) (ho : OwnS w5 w0.heap.size (.slice a' (l.length + 2) c') (rowsOf T.us l ++ [tkP T.us (l ++ [k])])) :
    AddBack w0 bt br bf T (l ++ [k]) W (.returned (.tuple #[])) (w5.setCell ⟨br, 0, none⟩ (.slice a' (l.length + 2) c')) ∧ w5.cell? ⟨br, 0, none⟩ = some (.slice a (l.length + 1) c) ∧ w5.frozen? ⟨br, 0, none⟩ = false := by
  have hv : Below V.heap.size V (V.alloc o) := (Below.refl _ _).alloc (Nat.le_refl _) o
  have t1 : Turn (fun i => (Value.slice a (l.length + 1) c).ownBlock = some i) W w5 := by
    have hWo : Below W.heap.size W (V.alloc o) := below_up h.up hv
    exact (Turn.of_below (S := fun i => (Value.slice a (l.length + 1) c).ownBlock = some i) hWo).grown hg (fun i hi _ => hi)
  have hr5 := t1.obj hw.rb (hw.row.far hw.rb (by decide))
  have ht5 := t1.obj hw.tb (hw.row.far hw.tb (by decide))
  have hf5 := t1.obj hw.fb (hw.row.far hw.fb (by decide))
  refine ⟨⟨rfl, ⟨a', c', ?_⟩, fun i => i = br ∨ (Value.slice a (l.length + 1) c).ownBlock = some i, ?_, ?_⟩, by rw [blk_cell hr5]; rfl, blk_free hr5 0⟩
  · have hlen : (l ++ [k]).length + 1 = l.length + 2 := by simp
    have hb5 : Below w0.heap.size w0 w5 := hw.low.trans (t1.below hw.low.size (fun i hi => (hw.row.new hi).1))
    refine ⟨hb5.setCell (p := ⟨br, 0, none⟩) hw.lr _, ?_, ?_, ?_, ?_, hw.tr, hw.fr, hw.lr⟩
    · exact (blk_far (a := ⟨br, 0, none⟩) hw.tr _).trans ht5
    · exact (blk_far (a := ⟨br, 0, none⟩) hw.fr _).trans hf5
    · rw [hlen]; exact (blk_set hr5 _).trans rfl
    · rw [hlen, rows_snoc]
      have hne := ho.far hr5 (by decide)
      rcases ho with ⟨h0, h | ⟨g', cap, cur, e, hB, h3, r⟩⟩
      · exact ⟨h0, .inl h⟩
      · refine ⟨h0, .inr ⟨g', cap, cur, e, hB, ?_, r⟩⟩
        refine (blk_far (a := ⟨br, 0, none⟩) (fun q => hne ?_) _).trans h3
        rw [e]
        simpa [Value.ownBlock] using q
  · rintro i (rfl | hi)
    · exact ⟨hw.lr, fun o' ho' => by rw [hw.rb] at ho'; cases ho'; rfl⟩
    · refine ⟨(hw.row.new hi).1, fun o' ho' => ?_⟩
      rcases hw.row.2 with ⟨e, _⟩ | ⟨g', cap, cur, e, _, h3, _⟩
      · cases e
      · simp only [Value.slice.injEq] at e
        obtain ⟨rfl, _, rfl⟩ := e
        obtain rfl : g' = i := by simpa [Value.ownBlock] using hi
        rw [h3] at ho'; cases ho'; rfl
  · exact (t1.mono (fun i _ q => .inr q)).setCell (p := ⟨br, 0, none⟩) (fun _ => .inl rfl) _

set_option maxRecDepth 100000 in
set_option maxHeartbeats 8000000 in
theorem add_any {w0 : World} {bt br bf : Nat} {T : TV} {l : List Nat} {a : Option Addr} {c : Nat} {W : World} (hT : Told T) (hok : T.ok W) (hu : T.us ≠ []) (h : GrowAt w0 bt br bf T l a c W) (k : Nat) (hlen : l.length < 1000) :
    Calls Try.prog 46 #[.int .i64 (k : Int), .pointer (some ⟨br, 0, none⟩), .pointer (some ⟨bt, 0, none⟩)] W (AddBack w0 bt br bf T (l ++ [k]) W) := by
  have H := Lib.hid h
  have s0 : W.cell? ⟨br, 0, none⟩ = some (.slice a (l.length + 1) c) := by rw [blk_cell h.rb]; rfl
  have LC := Lib.hid (last_any (rowsOf T.us l) (tkP T.us l) l.length (rows_len _ _) (by rw [rows_at _ _ (Nat.le_refl _), List.take_length]) (by omega) a c W h.view)
  have AC := Lib.hid (fun (w : World) (hw : Below W.heap.size W w) => acc_any T k w (hok.below hw))
  rw [access_use T k hu] at AC
  have hub : useI T.us k ≤ 9223372036854775807 := by
    unfold useI
    have h0 : 0 < T.us.length := List.length_pos_iff.2 hu
    have hl := Nat.mod_lt k h0
    rw [List.getD_eq_getElem?_getD, List.getElem?_eq_getElem hl]
    have := (hT.us _ (List.getElem_mem hl)).2
    simp only [Option.getD_some]
    omega
  have WC := Lib.hid (fun (w : World) => with_any (tkP T.us l) (useI T.us k) hub w)
  rw [← tkP_snoc] at WC
  have HSM : Hid ((rowsOf T.us l).length + 1 ≤ 1000000) := by show _ ≤ _; rw [rows_len]; omega
  have HNN : Hid ((rowsOf T.us l).length + 1 = l.length + 2) := by show _ = _; rw [rows_len]
  clear h hT hok hu hub
  obtain ⟨q1, hq1⟩ : ∃ q1, tkP T.us (l ++ [k]) = q1 := ⟨_, rfl⟩
  have HQ1 := Lib.hid hq1
  rw [hq1] at WC
  clear hq1
  go_enter Try.func46, Try.ntmps46
  go_upto_region 1 with (go_at_call 25; (with_reducible refine (LC.out).mono ?_); rintro e w1 ⟨rfl, b1⟩; have HB1 := Lib.hid b1; clear b1)
  have HG : Hid (AddAt w0 bt br bf T l a c W w1.heap.size (wd (tkP T.us l)) (w1.alloc (.cells #[.int .u64 (wd (tkP T.us l) 0), .int .u64 (wd (tkP T.us l) 1), .int .u64 (wd (tkP T.us l) 2), .int .u64 (wd (tkP T.us l) 3)] ST4))) :=
    ⟨H.out.below (bw_alloc HB1.out _), bw_alloc HB1.out _, heap_alloc_new w1 _, HB1.out.size⟩
  generalize w1.heap.size = g at *
  refine gen_world (AddAt w0 bt br bf T l a c W g (wd (tkP T.us l))) HG.out ?_
  intro W2 hw2
  have H2 := Lib.hid hw2
  clear HG HB1 LC s0
  have t0 : W2.cell? ⟨bt, 0, none⟩ = some (.int .i64 T.id) := by rw [blk_cell hw2.at_.tb]; rfl
  have t1 : W2.cell? ⟨bt, 1, none⟩ = some (.int .i64 T.c) := by rw [blk_cell hw2.at_.tb]; rfl
  have t2 : W2.cell? ⟨bt, 2, none⟩ = some (.int .i64 T.d) := by rw [blk_cell hw2.at_.tb]; rfl
  have t3 : W2.cell? ⟨bt, 3, none⟩ = some (.int .i64 T.t) := by rw [blk_cell hw2.at_.tb]; rfl
  have t4 : W2.cell? ⟨bt, 4, none⟩ = some (.int .i64 T.p) := by rw [blk_cell hw2.at_.tb]; rfl
  have t5 : W2.cell? ⟨bt, 5, none⟩ = some (.slice T.a1 T.ch.length T.c1) := by rw [blk_cell hw2.at_.tb]; rfl
  have t6 : W2.cell? ⟨bt, 6, none⟩ = some (.slice T.a2 T.us.length T.c2) := by rw [blk_cell hw2.at_.tb]; rfl
  have HA2 := Lib.hid (AC.out W2 hw2.up)
  clear AC hw2
  generalize wd (tkP T.us l) = P0 at *
  obtain ⟨P1, hP1⟩ : ∃ P1 : Nat → Nat, wd q1 = P1 := ⟨_, rfl⟩
  have HP1 := Lib.hid hP1
  rw [hP1] at WC
  clear hP1
  go_upto_region 2 with (go_at_call 47; (with_reducible refine (HA2.out).mono ?_); rintro e w3 ⟨rfl, b3⟩; have H3 := Lib.hid (H2.out.below b3); clear b3)
  clear HA2 t0 t1 t2 t3 t4 t5 t6 H2
  have g0 : w3.cell? ⟨g, 0, none⟩ = some (.int .u64 (P0 0)) := by rw [blk_cell H3.out.box]; rfl
  have g1 : w3.cell? ⟨g, 1, none⟩ = some (.int .u64 (P0 1)) := by rw [blk_cell H3.out.box]; rfl
  have g2 : w3.cell? ⟨g, 2, none⟩ = some (.int .u64 (P0 2)) := by rw [blk_cell H3.out.box]; rfl
  have g3 : w3.cell? ⟨g, 3, none⟩ = some (.int .u64 (P0 3)) := by rw [blk_cell H3.out.box]; rfl
  go_upto_region 4 with (go_at_call 42; (with_reducible refine (WC.out _).mono ?_); rintro e w4 ⟨rfl, b4⟩; have HB4 := Lib.hid (H3.out.below b4); have g0 : w4.cell? ⟨g, 0, none⟩ = some (.int .u64 (P0 0)) := (by rw [blk_cell HB4.out.box]; rfl); have g1 : w4.cell? ⟨g, 1, none⟩ = some (.int .u64 (P0 1)) := (by rw [blk_cell HB4.out.box]; rfl); have g2 : w4.cell? ⟨g, 2, none⟩ = some (.int .u64 (P0 2)) := (by rw [blk_cell HB4.out.box]; rfl); have g3 : w4.cell? ⟨g, 3, none⟩ = some (.int .u64 (P0 3)) := (by rw [blk_cell HB4.out.box]; rfl); have f0 := blk_free HB4.out.box 0; have f1 := blk_free HB4.out.box 1; have f2 := blk_free HB4.out.box 2; have f3 := blk_free HB4.out.box 3; clear b4)
  refine gen_world (AddAt w0 bt br bf T l a c W g P1) (HB4.out.put H.out P1) ?_
  intro W6 hw6
  have H6 := Lib.hid hw6
  clear HB4 H3 WC
  have r0 : W6.cell? ⟨br, 0, none⟩ = some (.slice a (l.length + 1) c) := by rw [blk_cell hw6.at_.rb]; rfl
  have g0 : W6.cell? ⟨g, 0, none⟩ = some (.int .u64 (P1 0)) := by rw [blk_cell hw6.box]; rfl
  have g1 : W6.cell? ⟨g, 1, none⟩ = some (.int .u64 (P1 1)) := by rw [blk_cell hw6.box]; rfl
  have g2 : W6.cell? ⟨g, 2, none⟩ = some (.int .u64 (P1 2)) := by rw [blk_cell hw6.box]; rfl
  have g3 : W6.cell? ⟨g, 3, none⟩ = some (.int .u64 (P1 3)) := by rw [blk_cell hw6.box]; rfl
  have HV := Lib.hid (sat_new W6 q1)
  rw [HP1.out] at HV
  clear hw6
  go_wp2_with (at_builtin; refine wp_sappend (m := 1) (l := [q1]) rfl _ _ rfl rfl rfl ((H6.out.at_.below ((by repeat (first | exact Below.refl _ _ | (with_reducible assumption) | refine bw_alloc ?_ _ | refine bw_drew ?_)))).row) (Nat.le_trans H6.out.at_.low.size ((by repeat (first | exact Below.refl _ _ | (with_reducible assumption) | refine bw_alloc ?_ _ | refine bw_drew ?_)) : Below W6.heap.size W6 _).size) (SView.of_at HV.out) rfl HSM.out (fun z => by cases z) (l.length + 2) HNN.out ?_; intro a5 c5 w5 o5 n5 l5; rw [← HQ1.out] at o5; obtain ⟨z1, z2, z3⟩ := add_done H6.out H.out _ n5 o5; have HZ := Lib.hid z1; clear o5 n5 l5 z1)
  go_end0
  exact HZ.out
end Go.Proofs.Ytcanbjgbpkofaaa
