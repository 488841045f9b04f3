/- Texts of this claim, put together: YSay, YNamed, YRef1, YRef2, YRef3, YRst, YText, YPrint, LW7, LWd1, LWd2, LDig, LJoin, YStr. -/
import Derived.Test.YtlpffgmfgkleiaaDoorMT3
import Derived.Laws.StructEq
import Derived.Lib.OthersKept
import Derived.RangeFuncNested
import Derived.RangeFuncBound
import Derived.RangeFuncCalls
import Derived.RangeFuncLeaves
import Derived.RangeFuncBox
import Derived.Shelf.Abstract
import Derived.Shelf.RegionOpen
import Derived.OwnWalkIn
import Derived.TacticsInMore
import Derived.LoopNIn
import Derived.LoopIn
import Derived.Maps.AppendAt
import Derived.Lib.ItoaNum
import Derived.Lib.AppendIntMem
set_option linter.unusedVariables false
set_option linter.unusedSimpArgs false

/-
  The walks over the closures that take a number, numbers, or what has a name.
-/
namespace Go.Proofs.YtlpffgmfgkleiaaDoor
open Go.RowKit Go.Maps

def putN (cs : Array Value) (k : Nat) : Option Nat → Array Value
  | some n => cs.setIfInBounds k (.int .i64 n)
  | none => cs
/-- A row that lies in a block that is not below B. -/
def FreshI (B : Nat) (a : Option Addr) (l : List Int) : Prop := l = [] ∨ ∀ g o, a = some ⟨g, o, none⟩ → B ≤ g
theorem FreshI.low {B B' : Nat} {a : Option Addr} {l : List Int} (h : FreshI B a l) (hB : B' ≤ B) : FreshI B' a l := h.imp id (fun q g o e => Nat.le_trans hB (q g o e))
/-- Numbers laid down in a field. -/
def PutL (w : World) (B : Nat) (T : Nat) (TY : TypeId) (cs : Array Value) (k : Nat) : Option (List Int) → Prop
  | some l => ∃ a c, Box w T TY (cs.setIfInBounds k (.slice a l.length c)) ∧ (IsI w a l ∧ FreshI B a l) ∧ Ints w a l ∧ l.length ≤ c ∧ (c : Int) ≤ 9223372036854775807
  | none => Box w T TY cs
theorem nsrun_len (s : ByteArray) (most : Int) : ∀ i l g, nsrun s most i = some (l, g) → l.length ≤ i
  | 0, l, g, h => by simp [nsrun] at h; simp [← h.1]
  | i + 1, l, g, h => by
    rw [nsrun] at h
    cases hq : nsrun s most i with
    | none => rw [hq] at h; cases h
    | some p =>
      obtain ⟨l0, g0⟩ := p
      have ih := nsrun_len s most i l0 g0 hq
      rw [hq] at h
      simp only [] at h
      split at h
      · cases h; omega
      · split at h
        · cases h
        · cases h
          rw [List.length_append]; simp; omega
theorem numsOf_len {s : ByteArray} {most : Int} {l : List Int} (h : numsOf s most = some l) : l.length ≤ s.size + 1 := by
  unfold numsOf at h
  obtain ⟨⟨l0, g⟩, h1, h2⟩ := Option.map_eq_some_iff.1 h
  have := nsrun_len s most _ _ _ h1
  simp only at h2
  rw [← h2]; exact this
theorem nums_none {w w' : World} {e : Ending} (h : NumsB none w e w') : e = .returned (.tuple #[.slice none 0 0, .bool false]) ∧ Below w.heap.size w w' := by
  obtain ⟨b1, ⟨-, rfl⟩ | ⟨l, a, c, hl, -⟩⟩ := h
  · exact ⟨rfl, b1⟩
  · cases hl
theorem nums_some {l : List Int} {n : Nat} (hn : l.length = n) {w w' : World} {e : Ending} (h : NumsB (some l) w e w') : ∃ a c, e = .returned (.tuple #[.slice a n c, .bool true]) ∧ Ints w' a l ∧ Below w.heap.size w w' := by
  obtain ⟨b1, ⟨h0, -⟩ | ⟨l, a, c, hl, rfl, hi, -⟩⟩ := h
  · cases h0
  · cases hl
    subst hn
    exact ⟨a, c, rfl, hi, b1⟩
theorem own_put {w : World} {t : TypeId} {B n c : Nat} {a : Option Addr} {l : List Int} (ht : t = 2 ∨ t = 3) (hn : l.length = n) (ho : OwnI w t B (.slice a n c) l) {T k : Nat} {TY : TypeId} {cs : Array Value} (hT : Box w T TY cs) (hty : TY ≠ 2 ∧ TY ≠ 3) :
    PutL (w.setCell ⟨T, k, none⟩ (.slice a n c)) B T TY cs k (some l) := by
  subst hn
  have hx := ho.isI ht
  obtain ⟨a', c', e', hi', hl', hm'⟩ := ho.slice
  cases e'
  have h2 := ints_two (((Two.refl T T w)).setT (o := k) (.slice a l.length c)) hT hT hty hty hx hi'
  refine ⟨a, c, (blk_set hT _).trans rfl, ⟨h2.1, ?_⟩, h2.2, hl', hm'⟩
  cases l with
  | nil => exact .inl rfl
  | cons x l => exact .inr fun g o e => by subst e; exact (ho.new rfl).1
theorem box_cell {w : World} {T k : Nat} {TY : TypeId} {cs : Array Value} (h : Box w T TY cs) {u : Value} (hu : cs[k]? = some u) : w.cell? ⟨T, k, none⟩ = some u ∧ w.frozen? ⟨T, k, none⟩ = false :=
  ⟨(blk_cell h k).trans hu, blk_free h k⟩

set_option maxRecDepth 100000 in
set_option maxHeartbeats 2000000 in
theorem numI1_any (s : ByteArray) (hs : (s.size : Int) ≤ 9223372036854775807) (most : Int) (hm : I64 most) (mb tb T k : Nat) (TY : TypeId) (cs : Array Value) (u : Value) (w : World) (h1 : w.cell? ⟨mb, 0, none⟩ = some (.int .i64 most)) (h2 : w.cell? ⟨tb, 0, none⟩ = some (.pointer (some ⟨T, k, none⟩))) (h3 : Box w T TY cs) (hu : cs[k]? = some u) :
    Calls Tryd.prog 80 #[.string s, .pointer (some ⟨mb, 0, none⟩), .pointer (some ⟨tb, 0, none⟩)] w fun e w' => e = .returned (.bool (numOf s most).isSome) ∧ Two T T w w' ∧ Box w' T TY (putN cs k (numOf s most)) := by
  have CN := Lib.hid (number_any s hs most hm w)
  have H2 := Lib.hid h2
  have H3 := Lib.hid h3
  cases hn : numOf s most with
  | none =>
    rw [hn] at CN
    go_enter Tryd.func80, Tryd.ntmps80
    go_wp2_with (go_at_call 81; (with_reducible refine CN.out.mono ?_); rintro e w1 ⟨rfl, b1⟩; have B1 := Lib.hid b1; clear b1)
    go_ret
    exact ⟨rfl, Two.of_below B1.out, kept_obj B1.out H3.out⟩
  | some n =>
    rw [hn] at CN
    go_enter Tryd.func80, Tryd.ntmps80
    go_upto_region 3 with (go_at_call 81; (with_reducible refine CN.out.mono ?_); rintro e w1 ⟨rfl, b1⟩; have B1 := Lib.hid b1; clear b1)
    have c2 := kept_cell B1.out H2.out
    have bx := kept_obj B1.out H3.out
    obtain ⟨c3, f3⟩ := box_cell bx hu
    have HX := Lib.hid bx
    clear bx
    go_wp2_with fail
    go_ret
    exact ⟨rfl, (Two.of_below B1.out).setT _, (blk_set HX.out _).trans rfl⟩

set_option maxRecDepth 100000 in
set_option maxHeartbeats 2000000 in
theorem numQ1_any (s : ByteArray) (hs : (s.size : Int) ≤ 9223372036854775807) (most : Int) (hm : I64 most) (mb tb T k : Nat) (TY : TypeId) (cs : Array Value) (u : Value) (w : World) (h1 : w.cell? ⟨mb, 0, none⟩ = some (.int .i64 most)) (h2 : w.cell? ⟨tb, 0, none⟩ = some (.pointer (some ⟨T, k, none⟩))) (h3 : Box w T TY cs) (hu : cs[k]? = some u) :
    Calls Tryd.prog 82 #[.string s, .pointer (some ⟨mb, 0, none⟩), .pointer (some ⟨tb, 0, none⟩)] w fun e w' => e = .returned (.bool (numOf s most).isSome) ∧ Two T T w w' ∧ Box w' T TY (putN cs k (numOf s most)) := by
  have CN := Lib.hid (number_any s hs most hm w)
  have H2 := Lib.hid h2
  have H3 := Lib.hid h3
  cases hn : numOf s most with
  | none =>
    rw [hn] at CN
    go_enter Tryd.func82, Tryd.ntmps82
    go_wp2_with (go_at_call 81; (with_reducible refine CN.out.mono ?_); rintro e w1 ⟨rfl, b1⟩; have B1 := Lib.hid b1; clear b1)
    go_ret
    exact ⟨rfl, Two.of_below B1.out, kept_obj B1.out H3.out⟩
  | some n =>
    rw [hn] at CN
    go_enter Tryd.func82, Tryd.ntmps82
    go_upto_region 3 with (go_at_call 81; (with_reducible refine CN.out.mono ?_); rintro e w1 ⟨rfl, b1⟩; have B1 := Lib.hid b1; clear b1)
    have c2 := kept_cell B1.out H2.out
    have bx := kept_obj B1.out H3.out
    obtain ⟨c3, f3⟩ := box_cell bx hu
    have HX := Lib.hid bx
    clear bx
    go_wp2_with fail
    go_ret
    exact ⟨rfl, (Two.of_below B1.out).setT _, (blk_set HX.out _).trans rfl⟩

set_option maxRecDepth 100000 in
set_option maxHeartbeats 2000000 in
theorem numsQ1_any (s : ByteArray) (hs : s.size ≤ 900000) (most : Int) (hm : I64 most) (mb tb T k : Nat) (TY : TypeId) (cs : Array Value) (u : Value) (w : World) (h1 : w.cell? ⟨mb, 0, none⟩ = some (.int .i64 most)) (h2 : w.cell? ⟨tb, 0, none⟩ = some (.pointer (some ⟨T, k, none⟩))) (h3 : Box w T TY cs) (hu : cs[k]? = some u) (ht : TY ≠ 2 ∧ TY ≠ 3) :
    Calls Tryd.prog 85 #[.string s, .pointer (some ⟨mb, 0, none⟩), .pointer (some ⟨tb, 0, none⟩)] w fun e w' => e = .returned (.bool (numsOf s most).isSome) ∧ Two T T w w' ∧ PutL w' w.heap.size T TY cs k (numsOf s most) := by
  have CN := Lib.hid (numbers_any s hs most hm w)
  have H2 := Lib.hid h2
  have H3 := Lib.hid h3
  have HLN : Hid (∀ l, numsOf s most = some l → l.length ≤ 1100000) := fun l e => by have := numsOf_len e; omega
  cases hn : numsOf s most with
  | none =>
    rw [hn] at CN
    have CN2 := Lib.hid (CN.out.mono fun _ _ h => nums_none h)
    clear CN
    go_enter Tryd.func85, Tryd.ntmps85
    go_wp2_with (go_at_call 86; (with_reducible refine CN2.out.mono ?_); rintro e w1 ⟨rfl, b1⟩; have B1 := Lib.hid b1; clear b1)
    go_ret
    exact ⟨rfl, Two.of_below B1.out, kept_obj B1.out H3.out⟩
  | some l0 =>
    have hll := HLN.out l0 hn
    obtain ⟨n, hnl⟩ : ∃ n, l0.length = n := ⟨_, rfl⟩
    rw [hnl] at hll
    rw [hn] at CN
    have CN2 := Lib.hid (CN.out.mono fun _ _ h => nums_some hnl h)
    go_enter Tryd.func85, Tryd.ntmps85
    go_upto_region 3 with (go_at_call 86; (with_reducible refine CN2.out.mono ?_); rintro e w1 ⟨a, c, rfl, hi, b1⟩; have B1 := Lib.hid b1; have HI := Lib.hid hi; clear b1 hi)
    have c2 := kept_cell B1.out H2.out
    have BX := Lib.hid (kept_obj B1.out H3.out)
    have HNL := Lib.hid hnl
    have CA : Hid (∀ v, Below w1.heap.size w1 v → Calls Tryd.prog 87 #[.slice a n c] v (AsBack 2 l0 n v)) := fun v hb => as_qq a n c l0 HNL.out (by omega) v (HI.out.below hb)
    clear hnl hn CN CN2
    go_region_law (go_simp; (with_reducible refine (CA.out _ (by repeat (first | exact Below.refl _ _ | (with_reducible assumption) | refine bw_alloc ?_ _ | refine bw_drew ?_))).mono ?_); rintro e w5 ⟨a5, k5, rfl, o5, b5⟩; have B5 := Lib.hid (below_up ((by repeat (first | exact Below.refl _ _ | (with_reducible assumption) | refine bw_alloc ?_ _ | refine bw_drew ?_)) : Below w1.heap.size w1 _) b5); have O5 := Lib.hid (o5.low (Nat.le_trans B1.out.size (((by repeat (first | exact Below.refl _ _ | (with_reducible assumption) | refine bw_alloc ?_ _ | refine bw_drew ?_)) : Below w1.heap.size w1 _).size))); have c5 := kept_cell B5.out c2; have BX5 := Lib.hid (kept_obj B5.out BX.out); obtain ⟨c3, f3⟩ := box_cell BX5.out hu; clear b5 o5)
    all_goals
      go_wp2_with fail
      go_ret
      exact ⟨rfl, ((Two.of_below B1.out).then B5.out).setT _, own_put (by first | exact .inl rfl | exact .inr rfl) HNL.out O5.out BX5.out ht⟩

set_option maxRecDepth 100000 in
set_option maxHeartbeats 2000000 in
theorem numsI1_any (s : ByteArray) (hs : s.size ≤ 900000) (most : Int) (hm : I64 most) (mb tb T k : Nat) (TY : TypeId) (cs : Array Value) (u : Value) (w : World) (h1 : w.cell? ⟨mb, 0, none⟩ = some (.int .i64 most)) (h2 : w.cell? ⟨tb, 0, none⟩ = some (.pointer (some ⟨T, k, none⟩))) (h3 : Box w T TY cs) (hu : cs[k]? = some u) (ht : TY ≠ 2 ∧ TY ≠ 3) :
    Calls Tryd.prog 88 #[.string s, .pointer (some ⟨mb, 0, none⟩), .pointer (some ⟨tb, 0, none⟩)] w fun e w' => e = .returned (.bool (numsOf s most).isSome) ∧ Two T T w w' ∧ PutL w' w.heap.size T TY cs k (numsOf s most) := by
  have CN := Lib.hid (numbers_any s hs most hm w)
  have H2 := Lib.hid h2
  have H3 := Lib.hid h3
  have HLN : Hid (∀ l, numsOf s most = some l → l.length ≤ 1100000) := fun l e => by have := numsOf_len e; omega
  cases hn : numsOf s most with
  | none =>
    rw [hn] at CN
    have CN2 := Lib.hid (CN.out.mono fun _ _ h => nums_none h)
    clear CN
    go_enter Tryd.func88, Tryd.ntmps88
    go_wp2_with (go_at_call 86; (with_reducible refine CN2.out.mono ?_); rintro e w1 ⟨rfl, b1⟩; have B1 := Lib.hid b1; clear b1)
    go_ret
    exact ⟨rfl, Two.of_below B1.out, kept_obj B1.out H3.out⟩
  | some l0 =>
    have hll := HLN.out l0 hn
    obtain ⟨n, hnl⟩ : ∃ n, l0.length = n := ⟨_, rfl⟩
    rw [hnl] at hll
    rw [hn] at CN
    have CN2 := Lib.hid (CN.out.mono fun _ _ h => nums_some hnl h)
    go_enter Tryd.func88, Tryd.ntmps88
    go_upto_region 3 with (go_at_call 86; (with_reducible refine CN2.out.mono ?_); rintro e w1 ⟨a, c, rfl, hi, b1⟩; have B1 := Lib.hid b1; have HI := Lib.hid hi; clear b1 hi)
    have c2 := kept_cell B1.out H2.out
    have BX := Lib.hid (kept_obj B1.out H3.out)
    have HNL := Lib.hid hnl
    have CA : Hid (∀ v, Below w1.heap.size w1 v → Calls Tryd.prog 89 #[.slice a n c] v (AsBack 3 l0 n v)) := fun v hb => as_iq a n c l0 HNL.out (by omega) v (HI.out.below hb)
    clear hnl hn CN CN2
    go_region_law (go_simp; (with_reducible refine (CA.out _ (by repeat (first | exact Below.refl _ _ | (with_reducible assumption) | refine bw_alloc ?_ _ | refine bw_drew ?_))).mono ?_); rintro e w5 ⟨a5, k5, rfl, o5, b5⟩; have B5 := Lib.hid (below_up ((by repeat (first | exact Below.refl _ _ | (with_reducible assumption) | refine bw_alloc ?_ _ | refine bw_drew ?_)) : Below w1.heap.size w1 _) b5); have O5 := Lib.hid (o5.low (Nat.le_trans B1.out.size (((by repeat (first | exact Below.refl _ _ | (with_reducible assumption) | refine bw_alloc ?_ _ | refine bw_drew ?_)) : Below w1.heap.size w1 _).size))); have c5 := kept_cell B5.out c2; have BX5 := Lib.hid (kept_obj B5.out BX.out); obtain ⟨c3, f3⟩ := box_cell BX5.out hu; clear b5 o5)
    all_goals
      go_wp2_with fail
      go_ret
      exact ⟨rfl, ((Two.of_below B1.out).then B5.out).setT _, own_put (by first | exact .inl rfl | exact .inr rfl) HNL.out O5.out BX5.out ht⟩
end Go.Proofs.YtlpffgmfgkleiaaDoor

/-
  The walks over what takes a word of a name.
-/
namespace Go.Proofs.YtlpffgmfgkleiaaDoor
open Go.RowKit Go.Maps

set_option maxRecDepth 100000 in
theorem named_any (name : ByteArray) (say : Value) (w : World) (hsay : ∃ f a b, say = .func f a b) : Calls Tryd.prog 63 #[.string name, say] w fun e w' => ∃ nb sb, e = .returned (.func (.func 83) #[] #[.pointer (some ⟨nb, 0, none⟩), .pointer (some ⟨sb, 0, none⟩)]) ∧ w'.cell? ⟨nb, 0, none⟩ = some (.string name) ∧ w'.cell? ⟨sb, 0, none⟩ = some say ∧ Below w.heap.size w w' := by
  have hmf : ∀ (fn : Fn) (first cap : Array Value) (w : World), (Instr.makeFunc fn first cap).run Tryd.prog w = .ok (.func fn first cap) w := fun _ _ _ _ => rfl
  obtain ⟨f, a, b, rfl⟩ := hsay
  go_enter Tryd.func63, Tryd.ntmps63
  go_wp2
  go_ret
  exact ⟨w.heap.size, w.heap.size + 1, rfl, (new_first w _ _ _ 0).trans rfl, (new_second w _ _ _ 0).trans rfl, bw_alloc (bw_alloc (Below.refl _ _) _) _⟩
theorem enters_named1 (args : Array Value) (w : World) : (callFunc 83 args).run Tryd.prog w = .ok (.enter 83 args) w := by
  go_simp
theorem named_of_pair {s x y name : ByteArray} {b : Bool} (h : PairIs s x y b) : namedV s name = if b = true ∧ x = name then some y else none := by
  rcases pairOf_is h with ⟨rfl, rfl, rfl, hp⟩ | ⟨rfl, hp⟩
  · unfold namedV; rw [hp, if_neg (fun q => by cases q.1)]
  · unfold namedV; rw [hp]
    by_cases e : x = name
    · rw [if_pos ⟨rfl, e⟩]; simp only []; rw [if_pos e]
    · rw [if_neg (fun q => e q.2)]; simp only []; rw [if_neg e]
set_option maxRecDepth 100000 in
set_option maxHeartbeats 2000000 in
theorem named1_none (s name : ByteArray) (hs : (s.size : Int) ≤ 9223372036854775807) (say : Value) (nb sb : Nat) (w : World) (h1 : w.cell? ⟨nb, 0, none⟩ = some (.string name)) (h2 : w.cell? ⟨sb, 0, none⟩ = some say) (hn : namedV s name = none) :
    Calls Tryd.prog 83 #[.string s, .pointer (some ⟨nb, 0, none⟩), .pointer (some ⟨sb, 0, none⟩)] w fun e w' => e = .returned (.bool false) ∧ Below w.heap.size w w' := by
  have CP := Lib.hid (pair_any s hs w)
  have H1 := Lib.hid h1
  have HN := Lib.hid hn
  clear h1 h2 hn
  go_enter Tryd.func83, Tryd.ntmps83
  go_upto_region 2 with (go_at_call 84; (with_reducible refine CP.out.mono ?_); rintro e w1 ⟨x, y, b, rfl, hp, b1⟩; have HP := Lib.hid hp; have B1 := Lib.hid b1; clear hp b1)
  have c1 := kept_cell B1.out H1.out
  have hq := HN.out
  rw [named_of_pair HP.out] at hq
  cases b with
  | false =>
    clear hq
    go_wp2_with fail
    go_ret
    exact ⟨rfl, B1.out⟩
  | true =>
    have hne : ¬ x = name := fun q => by rw [if_pos ⟨rfl, q⟩] at hq; cases hq
    have d1 : (x.toList == name.toList) = false := by rw [beq_bytes, decide_eq_false hne]
    clear hq hne
    go_wp2_with fail
    go_ret
    exact ⟨rfl, B1.out⟩
set_option maxRecDepth 100000 in
set_option maxHeartbeats 2000000 in
theorem named1_some (s name : ByteArray) (hs : (s.size : Int) ≤ 9223372036854775807) (say : Value) (nb sb T : Nat) (w : World) (h1 : w.cell? ⟨nb, 0, none⟩ = some (.string name)) (h2 : w.cell? ⟨sb, 0, none⟩ = some say) (z : ByteArray) (hn : namedV s name = some z) (ok : Bool) (C : World → Prop)
    (hsay : ∀ v, Below w.heap.size w v → Says say v T z ok C) :
    Calls Tryd.prog 83 #[.string s, .pointer (some ⟨nb, 0, none⟩), .pointer (some ⟨sb, 0, none⟩)] w fun e w' => e = .returned (.bool ok) ∧ Two T T w w' ∧ C w' := by
  have CP := Lib.hid (pair_any s hs w)
  have H1 := Lib.hid h1
  have H2 := Lib.hid h2
  have HN := Lib.hid hn
  have HS : Hid (∀ v, Below w.heap.size w v → Says say v T z ok C) := hsay
  clear h1 h2 hn hsay
  go_enter Tryd.func83, Tryd.ntmps83
  go_upto_region 2 with (go_at_call 84; (with_reducible refine CP.out.mono ?_); rintro e w1 ⟨x, y, b, rfl, hp, b1⟩; have HP := Lib.hid hp; have B1 := Lib.hid b1; clear hp b1)
  have c1 := kept_cell B1.out H1.out
  have c2 := kept_cell B1.out H2.out
  have hq := HN.out
  rw [named_of_pair HP.out] at hq
  have hb : b = true ∧ x = name := by
    by_cases q : b = true ∧ x = name
    · exact q
    · rw [if_neg q] at hq; cases hq
  rw [if_pos hb] at hq
  obtain ⟨rfl, rfl⟩ := hb
  obtain rfl : y = z := Option.some.inj hq
  have d1 : (x.toList == x.toList) = true := by rw [beq_bytes, decide_eq_true rfl]
  obtain ⟨F, caps, rfl, henter, hcall⟩ := HS.out w1 B1.out
  have HC := Lib.hid hcall
  clear hcall hq HS HN
  go_wp2_with (go_at_fn F; (with_reducible refine HC.out.mono ?_); rintro e w2 ⟨rfl, t2, k2⟩; have T2 := Lib.hid t2; have K2 := Lib.hid k2; clear t2 k2)
  go_ret
  exact ⟨rfl, (Two.of_below B1.out).trans T2.out, K2.out⟩
end Go.Proofs.YtlpffgmfgkleiaaDoor

/-
  The walks over the document's own places and values of a row.
-/
namespace Go.Proofs.YtlpffgmfgkleiaaDoor
open Go.RowKit Go.Maps

theorem zeroGot (w : World) : (zeroValue 73).run Tryd.prog w = .ok (.agg #[.int .i64 0, .int .i64 0, .int .i64 0, .int .i64 0, .int .i64 0, .slice none 0 0, .slice none 0 0, .int .i64 0, .int .i64 0]) w := by kernel_rfl
theorem w64_in {x : Int} (h : I64 x) : wrap64 x = x := by
  exact IntWalk.wrap64_in x h
set_option maxRecDepth 100000 in
set_option maxHeartbeats 2000000 in
theorem rend_any {w : World} {a : Option Addr} {n cap : Nat} {W : List WV} (h : Words w a n cap W) : Calls Tryd.prog 43 #[.slice a n cap] w fun y w' => y = .returned (.int .i64 (endAt W W.length)) ∧ Below w.heap.size w w' := by
  have hl := h.len
  have hn9 : (n : Int) ≤ 9223372036854775807 := by have := h.le; have := h.small; omega
  have hz := zeroWord
  cases n with
  | zero =>
    have hw : W = [] := List.length_eq_zero_iff.1 hl
    subst hw
    go_enter Tryd.func43, Tryd.ntmps43
    go_wp2
    go_ret
    exact ⟨rfl, Below.refl _ _⟩
  | succ m =>
    obtain ⟨x, hx⟩ := nth_of hl (show m < m + 1 by omega)
    obtain ⟨g, o, rfl, z0, z1, z2⟩ := h.view.at_ hx
    have HE : Hid (endAt W W.length = wrap64 (x.at_ + (x.tx.size : Int))) := by show _ = _; rw [hl, endAt_succ hx]; rfl
    have d1 : ¬ ((m + 1 : Nat) : Int) = 0 := by omega
    have d3 : (0 : Int) ≤ (m : Int) := by omega
    have d4 : (m : Int) < ((m + 1 : Nat) : Int) := by omega
    have d6 : wrap64 (m : Int) = (m : Int) := w64_in (by unfold I64; omega)
    clear h hx hl hn9
    go_enter Tryd.func43, Tryd.ntmps43
    go_wp2
    go_ret
    rw [HE.out]
    exact ⟨rfl, bw_alloc (Below.refl _ _) _⟩
/-- A place that is wrong, as it comes back. -/
def WrongIs (p : Int) (w : World) (y : Ending) (w' : World) : Prop :=
  y = .returned (.agg #[.int .i64 0, .int .i64 0, .int .i64 0, .int .i64 0, .int .i64 0, .slice none 0 0, .slice none 0 0, .int .i64 p, .int .i64 10]) ∧ Below w.heap.size w w'
abbrev GotT : TypeId := 73
set_option maxRecDepth 100000 in
set_option maxHeartbeats 4000000 in
theorem wrong_any {w : World} {a : Option Addr} {n cap i : Nat} {W : List WV} (h : Words w a n cap W) (hi : i ≤ 1000) : Calls Tryd.prog 25 #[.slice a n cap, .int .i64 i] w (WrongIs (placeAt W i) w) := by
  have hl := h.len
  have hn9 : (n : Int) ≤ 9223372036854775807 := by have := h.le; have := h.small; omega
  have hz := zeroGot
  have HW := Lib.hid h
  have HL := Lib.hid hl
  unfold WrongIs
  by_cases hlt : i < n
  · obtain ⟨x, hx⟩ := nth_of hl hlt
    obtain ⟨g, o, rfl, z0, z1, z2⟩ := h.view.at_ hx
    rw [placeAt_some hx]
    have d1 : (i : Int) < (n : Int) := by omega
    have d2 : (0 : Int) ≤ (i : Int) := by omega
    have Z0 := Lib.hid z0
    clear h hx hl
    go_enter Tryd.func25, Tryd.ntmps25
    go_upto_region 1 with fail
    refine gen_world (fun v => Below w.heap.size w v ∧ v.heap[w.heap.size]? = some (.cells #[.int .i64 0, .int .i64 0, .int .i64 0, .int .i64 0, .int .i64 0, .slice none 0 0, .slice none 0 0, .int .i64 0, .int .i64 0] GotT (0, 0))) ⟨bw_alloc (Below.refl _ _) _, heap_alloc_new w _⟩ ?_
    intro u0 ⟨hb0, hx0⟩
    have B0 := Lib.hid hb0
    have y0 := kept_cell hb0 Z0.out
    have r0 : u0.cell? ⟨w.heap.size, 0, none⟩ = some (.int .i64 0) := blk_cell hx0 0
    have r1 : u0.cell? ⟨w.heap.size, 1, none⟩ = some (.int .i64 0) := blk_cell hx0 1
    have r2 : u0.cell? ⟨w.heap.size, 2, none⟩ = some (.int .i64 0) := blk_cell hx0 2
    have r3 : u0.cell? ⟨w.heap.size, 3, none⟩ = some (.int .i64 0) := blk_cell hx0 3
    have r4 : u0.cell? ⟨w.heap.size, 4, none⟩ = some (.int .i64 0) := blk_cell hx0 4
    have r5 : u0.cell? ⟨w.heap.size, 5, none⟩ = some (.slice none 0 0) := blk_cell hx0 5
    have r6 : u0.cell? ⟨w.heap.size, 6, none⟩ = some (.slice none 0 0) := blk_cell hx0 6
    have r7 : u0.cell? ⟨w.heap.size, 7, none⟩ = some (.int .i64 0) := blk_cell hx0 7
    have r8 : u0.cell? ⟨w.heap.size, 8, none⟩ = some (.int .i64 0) := blk_cell hx0 8
    have f0 := blk_free hx0 0
    have f1 := blk_free hx0 1
    have f2 := blk_free hx0 2
    have f3 := blk_free hx0 3
    have f4 := blk_free hx0 4
    have f5 := blk_free hx0 5
    have f6 := blk_free hx0 6
    have f7 := blk_free hx0 7
    have f8 := blk_free hx0 8
    have hr := lt_of_block hx0
    clear hb0 hx0 z0 z1 z2
    go_wp2_with fail
    exact bodyPost_ret (v := .agg #[.int .i64 0, .int .i64 0, .int .i64 0, .int .i64 0, .int .i64 0, .slice none 0 0, .slice none 0 0, .int .i64 x.at_, .int .i64 10]) (by simp [results, Tryd.results25, go_sem, hr, r0, r1, r2, r3, r4, r5, r6, r7, r8]) rfl ⟨rfl, (by repeat (first | with_reducible exact B0.out | refine Below.setCell ?_ (by simp) _))⟩
  · rw [placeAt_none (by omega)]
    have d1 : ¬ (i : Int) < (n : Int) := by omega
    have CE : Hid (∀ v, Below w.heap.size w v → Calls Tryd.prog 43 #[.slice a n cap] v fun y w' => y = .returned (.int .i64 (endAt W W.length)) ∧ Below v.heap.size v w') := fun v hb => rend_any (HW.out.below hb)
    clear h hl
    go_enter Tryd.func25, Tryd.ntmps25
    go_upto_region 3 with fail
    refine gen_world (fun v => Below w.heap.size w v ∧ v.heap[w.heap.size]? = some (.cells #[.int .i64 0, .int .i64 0, .int .i64 0, .int .i64 0, .int .i64 0, .slice none 0 0, .slice none 0 0, .int .i64 0, .int .i64 0] GotT (0, 0))) ⟨bw_alloc (Below.refl _ _) _, heap_alloc_new w _⟩ ?_
    intro u0 ⟨hb0, hx0⟩
    have B0 := Lib.hid hb0
    have X0 := Lib.hid hx0
    clear hb0 hx0
    go_wp2_with (go_at_call 43; (with_reducible refine (CE.out _ B0.out).mono ?_); rintro y u1 ⟨rfl, b1⟩; have B1 := Lib.hid (below_up B0.out b1); have hx := kept_obj b1 X0.out; have r0 : u1.cell? ⟨w.heap.size, 0, none⟩ = some (.int .i64 0) := blk_cell hx 0; have r1 : u1.cell? ⟨w.heap.size, 1, none⟩ = some (.int .i64 0) := blk_cell hx 1; have r2 : u1.cell? ⟨w.heap.size, 2, none⟩ = some (.int .i64 0) := blk_cell hx 2; have r3 : u1.cell? ⟨w.heap.size, 3, none⟩ = some (.int .i64 0) := blk_cell hx 3; have r4 : u1.cell? ⟨w.heap.size, 4, none⟩ = some (.int .i64 0) := blk_cell hx 4; have r5 : u1.cell? ⟨w.heap.size, 5, none⟩ = some (.slice none 0 0) := blk_cell hx 5; have r6 : u1.cell? ⟨w.heap.size, 6, none⟩ = some (.slice none 0 0) := blk_cell hx 6; have r7 : u1.cell? ⟨w.heap.size, 7, none⟩ = some (.int .i64 0) := blk_cell hx 7; have r8 : u1.cell? ⟨w.heap.size, 8, none⟩ = some (.int .i64 0) := blk_cell hx 8; have f0 := blk_free hx 0; have f1 := blk_free hx 1; have f2 := blk_free hx 2; have f3 := blk_free hx 3; have f4 := blk_free hx 4; have f5 := blk_free hx 5; have f6 := blk_free hx 6; have f7 := blk_free hx 7; have f8 := blk_free hx 8; have hr := lt_of_block hx; clear b1 hx)
    exact bodyPost_ret (v := .agg #[.int .i64 0, .int .i64 0, .int .i64 0, .int .i64 0, .int .i64 0, .slice none 0 0, .slice none 0 0, .int .i64 (endAt W W.length), .int .i64 10]) (by simp [results, Tryd.results25, go_sem, hr, r0, r1, r2, r3, r4, r5, r6, r7, r8]) rfl ⟨rfl, (by repeat (first | with_reducible exact B1.out | refine Below.setCell ?_ (by simp) _))⟩
end Go.Proofs.YtlpffgmfgkleiaaDoor

/-
  The walk over the document's own value of a word.
-/
namespace Go.Proofs.YtlpffgmfgkleiaaDoor
open Go.RowKit Go.Maps

/-- What stands behind a name, as it comes back. -/
def twoVal (o : Option ByteArray) (name : ByteArray) : Value := match o with
  | some v => .agg #[.string name, .string v, .bool true]
  | none => .agg #[.string ⟨#[]⟩, .string ⟨#[]⟩, .bool false]
def ValIs (o : Option ByteArray) (name : ByteArray) (w : World) (y : Ending) (w' : World) : Prop := y = .returned (twoVal o name) ∧ Below w.heap.size w w'
abbrev TwoT : TypeId := 103
set_option maxRecDepth 100000 in
set_option maxHeartbeats 4000000 in
theorem rvalue_any {w : World} {a : Option Addr} {n cap i : Nat} {W : List WV} (h : Words w a n cap W) (hi : i ≤ 1000) (hW : ∀ x ∈ W, (x.tx.size : Int) ≤ 9223372036854775807) (name : ByteArray) : Calls Tryd.prog 45 #[.slice a n cap, .int .i64 i, .string name] w (ValIs (valAt W i name) name w) := by
  have hl := h.len
  have hn9 : (n : Int) ≤ 9223372036854775807 := by have := h.le; have := h.small; omega
  have hz := zeroTwo
  unfold ValIs
  by_cases hlt : i < n
  · obtain ⟨x, hx⟩ := nth_of hl hlt
    obtain ⟨g, o, rfl, z0, z1, z2⟩ := h.view.at_ hx
    have HV : Hid (valAt W i name = namedV x.tx name) := by show _ = _; unfold valAt; rw [wordAt_some hx]; rfl
    have CP : Hid (∀ v, Calls Tryd.prog 67 #[.string x.tx] v (PairBack x.tx v)) := fun v => rpair_any x.tx (hW x (List.mem_of_getElem? hx)) v
    have Z2 := Lib.hid z2
    have d1 : ¬ (n : Int) ≤ (i : Int) := by omega
    have d2 : (0 : Int) ≤ (i : Int) := by omega
    have d3 : (i : Int) < (n : Int) := by omega
    clear h hx hl
    go_enter Tryd.func45, Tryd.ntmps45
    go_upto_region 3 with fail
    refine gen_world (fun v => Below w.heap.size w v ∧ v.heap[w.heap.size]? = some (.cells #[.string ⟨#[]⟩, .string ⟨#[]⟩, .bool false] TwoT (0, 0))) ⟨bw_alloc (Below.refl _ _) _, heap_alloc_new w _⟩ ?_
    intro u0 ⟨hb0, hx0⟩
    have B0 := Lib.hid hb0
    have X0 := Lib.hid hx0
    have y2 := kept_cell hb0 z2
    clear hb0 hx0 z0 z1 z2
    go_upto_region 4 with (go_at_call 67; (with_reducible refine (CP.out _).mono ?_); rintro y u1 ⟨p, q, b, rfl, hp, b1⟩; have HP := Lib.hid hp; have B1 := Lib.hid (below_up B0.out b1); have X1 := Lib.hid (kept_obj b1 X0.out); clear hp b1)
    refine gen_world (fun v => Below w.heap.size w v ∧ v.heap[w.heap.size]? = some (.cells #[.string ⟨#[]⟩, .string ⟨#[]⟩, .bool false] TwoT (0, 0)) ∧ v.heap[u1.heap.size]? = some (.cells #[.string p, .string q, .bool b] TwoT (0, 0))) ⟨below_up B1.out (bw_alloc (Below.refl _ _) _), kept_obj (bw_alloc (Below.refl _ _) _) X1.out, heap_alloc_new u1 _⟩ ?_
    intro u2 ⟨hb2, hx2, hx3⟩
    have B2 := Lib.hid hb2
    generalize u1.heap.size = k at hx3 ⊢
    have ar0 : u2.cell? ⟨w.heap.size, 0, none⟩ = some (.string ⟨#[]⟩) := blk_cell hx2 0
    have ar1 : u2.cell? ⟨w.heap.size, 1, none⟩ = some (.string ⟨#[]⟩) := blk_cell hx2 1
    have ar2 : u2.cell? ⟨w.heap.size, 2, none⟩ = some (.bool false) := blk_cell hx2 2
    have af0 := blk_free hx2 0
    have af1 := blk_free hx2 1
    have af2 := blk_free hx2 2
    have ahr := lt_of_block hx2
    have br0 : u2.cell? ⟨k, 0, none⟩ = some (.string p) := blk_cell hx3 0
    have br1 : u2.cell? ⟨k, 1, none⟩ = some (.string q) := blk_cell hx3 1
    have br2 : u2.cell? ⟨k, 2, none⟩ = some (.bool b) := blk_cell hx3 2
    have bf0 := blk_free hx3 0
    have bf1 := blk_free hx3 1
    have bf2 := blk_free hx3 2
    have bhr := lt_of_block hx3
    have hq := named_of_pair (name := name) HP.out
    have HPP := Lib.hid HP.out
    clear hb2 hx2 hx3 B0 X0 B1 X1 CP HP Z2 y2
    by_cases hb : b = true ∧ p = name
    · obtain ⟨rfl, rfl⟩ := hb
      rw [if_pos ⟨rfl, rfl⟩] at hq
      have HQ : Hid (valAt W i p = some q) := HV.out.trans hq
      have d4 : (p.toList == p.toList) = true := by rw [beq_bytes, decide_eq_true rfl]
      have d5 : (p.toList != p.toList) = false := by rw [bne, d4]; rfl
      clear HV hq
      go_wp2_with fail
      exact bodyPost_ret (v := .agg #[.string p, .string q, .bool true]) (by simp [results, Tryd.results45, go_sem, ahr, ar0, ar1, ar2]) rfl ⟨by rw [HQ.out]; rfl, (by repeat (first | with_reducible exact B2.out | refine Below.setCell ?_ (by simp) _))⟩
    · rw [if_neg hb] at hq
      have HQ : Hid (valAt W i name = none) := HV.out.trans hq
      by_cases hpn : p = name
      · have hb0 : b = false := by cases b with | true => exact absurd ⟨rfl, hpn⟩ hb | false => rfl
        subst hb0
        subst hpn
        obtain ⟨-, rfl, rfl, -⟩ | ⟨h1, -⟩ := pairOf_is HPP.out
        rotate_left
        · cases h1
        have d4 : ((⟨#[]⟩ : ByteArray).toList == (⟨#[]⟩ : ByteArray).toList) = true := by rw [beq_bytes, decide_eq_true rfl]
        have d5 : ((⟨#[]⟩ : ByteArray).toList != (⟨#[]⟩ : ByteArray).toList) = false := by rw [bne, d4]; rfl
        clear HV hq hb HPP
        go_wp2_with fail
        exact bodyPost_ret (v := .agg #[.string ⟨#[]⟩, .string ⟨#[]⟩, .bool false]) (by simp [results, Tryd.results45, go_sem, ahr, ar0, ar1, ar2]) rfl ⟨by rw [HQ.out]; rfl, (by repeat (first | with_reducible exact B2.out | refine Below.setCell ?_ (by simp) _))⟩
      · have d4 : (p.toList == name.toList) = false := by rw [beq_bytes, decide_eq_false hpn]
        have d5 : (p.toList != name.toList) = true := by rw [bne, d4]; rfl
        clear HV hq hb hpn
        go_wp2_with fail
        exact bodyPost_ret (v := .agg #[.string ⟨#[]⟩, .string ⟨#[]⟩, .bool false]) (by simp [results, Tryd.results45, go_sem, ahr, ar0, ar1, ar2]) rfl ⟨by rw [HQ.out]; rfl, (by repeat (first | with_reducible exact B2.out | refine Below.setCell ?_ (by simp) _))⟩
  · have HV : Hid (valAt W i name = none) := by show _ = _; unfold valAt; rw [wordAt_none (by omega)]; rfl
    have d1 : (n : Int) ≤ (i : Int) := by omega
    clear h hl
    go_enter Tryd.func45, Tryd.ntmps45
    go_wp2
    exact bodyPost_ret (v := .agg #[.string ⟨#[]⟩, .string ⟨#[]⟩, .bool false]) (by simp [results, Tryd.results45, go_sem]) rfl ⟨by rw [HV.out]; rfl, (by repeat (first | (with_reducible exact Below.refl _ _) | (with_reducible assumption) | (with_reducible refine bw_alloc ?_ _) | (with_reducible refine bw_drew ?_) | refine Below.setCell ?_ (by simp) _))⟩
end Go.Proofs.YtlpffgmfgkleiaaDoor

/-
  The walk over the document's own number behind a name.
-/
namespace Go.Proofs.YtlpffgmfgkleiaaDoor
open Go.RowKit Go.Maps

abbrev NumT : TypeId := 70
def RNumIs (o : Option Nat) (w : World) (y : Ending) (w' : World) : Prop := y = .returned (.agg #[.int .i64 ((o.getD 0 : Nat) : Int), .bool o.isSome]) ∧ Below w.heap.size w w'
set_option maxRecDepth 100000 in
set_option maxHeartbeats 4000000 in
theorem rnum_any {w : World} {a : Option Addr} {n cap i : Nat} {W : List WV} (h : Words w a n cap W) (hi : i ≤ 1000) (hW : ∀ x ∈ W, (x.tx.size : Int) ≤ 9223372036854775807) (name : ByteArray) (most : Int) : Calls Tryd.prog 44 #[.slice a n cap, .int .i64 i, .string name, .int .i64 most] w (RNumIs (numAt W i name most) w) := by
  have hz := zeroNumb
  have hz2 := zeroTwo
  have CV : Hid (∀ v, Below w.heap.size w v → Calls Tryd.prog 45 #[.slice a n cap, .int .i64 i, .string name] v (ValIs (valAt W i name) name v)) := fun v hb => rvalue_any (h.below hb) hi hW name
  have HS : Hid (∀ z, valAt W i name = some z → (z.size : Int) ≤ 9223372036854775807) := fun z hz => by
    unfold valAt at hz
    obtain ⟨s, h1, h2⟩ := Option.bind_eq_some_iff.1 hz
    have h3 := namedV_size h2
    unfold wordAt at h1
    obtain ⟨x, hx, rfl⟩ := Option.map_eq_some_iff.1 h1
    have := hW x (List.mem_of_getElem? hx)
    omega
  have HNA : Hid (numAt W i name most = (valAt W i name).bind fun v => numOf v most) := rfl
  unfold RNumIs
  clear h
  unfold ValIs at CV
  go_enter Tryd.func44, Tryd.ntmps44
  go_upto_region 1 with fail
  refine gen_world (fun v => Below w.heap.size w v ∧ v.heap[w.heap.size]? = some (.cells #[.int .i64 0, .bool false] NumT (0, 0))) ⟨bw_alloc (Below.refl _ _) _, heap_alloc_new w _⟩ ?_
  intro u0 ⟨hb0, hx0⟩
  have B0 := Lib.hid hb0
  have X0 := Lib.hid hx0
  clear hb0 hx0
  cases ho : valAt W i name with
  | none =>
    rw [ho] at CV HNA
    have CV2 : Hid (∀ v, Below w.heap.size w v → Calls Tryd.prog 45 #[.slice a n cap, .int .i64 i, .string name] v fun y w' => y = .returned (.agg #[.string ⟨#[]⟩, .string ⟨#[]⟩, .bool false]) ∧ Below v.heap.size v w') := CV
    have HQ : Hid (numAt W i name most = none) := HNA.out
    clear ho HNA HS
    go_upto_region 2 with (go_at_call 45; (with_reducible refine (CV2.out _ B0.out).mono ?_); rintro y u1 ⟨rfl, b1⟩; have B1 := Lib.hid (below_up B0.out b1); have X1 := Lib.hid (kept_obj b1 X0.out); clear b1)
    refine gen_world (fun v => Below w.heap.size w v ∧ v.heap[w.heap.size]? = some (.cells #[.int .i64 0, .bool false] NumT (0, 0)) ∧ v.heap[u1.heap.size]? = some (.cells #[.string ⟨#[]⟩, .string ⟨#[]⟩, .bool false] TwoT (0, 0))) ⟨below_up B1.out (bw_alloc (Below.refl _ _) _), kept_obj (bw_alloc (Below.refl _ _) _) X1.out, heap_alloc_new u1 _⟩ ?_
    intro u2 ⟨hb2, hx2, hx3⟩
    have B2 := Lib.hid hb2
    generalize u1.heap.size = k at hx3 ⊢
    have ar0 : u2.cell? ⟨w.heap.size, 0, none⟩ = some (.int .i64 0) := blk_cell hx2 0
    have ar1 : u2.cell? ⟨w.heap.size, 1, none⟩ = some (.bool false) := blk_cell hx2 1
    have af0 := blk_free hx2 0
    have af1 := blk_free hx2 1
    have ahr := lt_of_block hx2
    have br0 : u2.cell? ⟨k, 0, none⟩ = some (.string ⟨#[]⟩) := blk_cell hx3 0
    have br1 : u2.cell? ⟨k, 1, none⟩ = some (.string ⟨#[]⟩) := blk_cell hx3 1
    have br2 : u2.cell? ⟨k, 2, none⟩ = some (.bool false) := blk_cell hx3 2
    have bf0 := blk_free hx3 0
    have bf1 := blk_free hx3 1
    have bf2 := blk_free hx3 2
    have bhr := lt_of_block hx3
    clear hb2 hx2 hx3 B0 X0 B1 X1 CV CV2
    go_wp2_with fail
    exact bodyPost_ret (v := .agg #[.int .i64 0, .bool false]) (by simp [results, Tryd.results44, go_sem, ahr, ar0, ar1]) rfl ⟨by rw [HQ.out]; rfl, (by repeat (first | with_reducible exact B2.out | refine Below.setCell ?_ (by simp) _))⟩
  | some z =>
    rw [ho] at CV HNA
    have CV2 : Hid (∀ v, Below w.heap.size w v → Calls Tryd.prog 45 #[.slice a n cap, .int .i64 i, .string name] v fun y w' => y = .returned (.agg #[.string name, .string z, .bool true]) ∧ Below v.heap.size v w') := CV
    have HQ : Hid (numAt W i name most = numOf z most) := HNA.out
    have CN : Hid (∀ v, Calls Tryd.prog 24 #[.string z, .int .i64 most] v (NumB (numOf z most) v)) := fun v => rnumber_any z (HS.out z ho) most v
    clear ho HNA HS
    unfold NumB at CN
    go_upto_region 2 with (go_at_call 45; (with_reducible refine (CV2.out _ B0.out).mono ?_); rintro y u1 ⟨rfl, b1⟩; have B1 := Lib.hid (below_up B0.out b1); have X1 := Lib.hid (kept_obj b1 X0.out); clear b1)
    refine gen_world (fun v => Below w.heap.size w v ∧ v.heap[w.heap.size]? = some (.cells #[.int .i64 0, .bool false] NumT (0, 0)) ∧ v.heap[u1.heap.size]? = some (.cells #[.string name, .string z, .bool true] TwoT (0, 0))) ⟨below_up B1.out (bw_alloc (Below.refl _ _) _), kept_obj (bw_alloc (Below.refl _ _) _) X1.out, heap_alloc_new u1 _⟩ ?_
    intro u2 ⟨hb2, hx2, hx3⟩
    have B2 := Lib.hid hb2
    have X2 := Lib.hid hx2
    generalize u1.heap.size = k at hx3 ⊢
    have br0 : u2.cell? ⟨k, 0, none⟩ = some (.string name) := blk_cell hx3 0
    have br1 : u2.cell? ⟨k, 1, none⟩ = some (.string z) := blk_cell hx3 1
    have br2 : u2.cell? ⟨k, 2, none⟩ = some (.bool true) := blk_cell hx3 2
    have bf0 := blk_free hx3 0
    have bf1 := blk_free hx3 1
    have bf2 := blk_free hx3 2
    have bhr := lt_of_block hx3
    clear hb2 hx2 hx3 B0 X0 B1 X1 CV CV2
    go_wp2_with (go_at_call 24; (with_reducible refine (CN.out _).mono ?_); rintro y u3 ⟨rfl, b3⟩; have B3 := Lib.hid (below_up B2.out b3); have hx4 := kept_obj b3 X2.out; have ar0 : u3.cell? ⟨w.heap.size, 0, none⟩ = some (.int .i64 0) := blk_cell hx4 0; have ar1 : u3.cell? ⟨w.heap.size, 1, none⟩ = some (.bool false) := blk_cell hx4 1; have af0 := blk_free hx4 0; have af1 := blk_free hx4 1; have ahr := lt_of_block hx4; clear b3 hx4)
    exact bodyPost_ret (v := .agg #[.int .i64 (((numOf z most).getD 0 : Nat) : Int), .bool (numOf z most).isSome]) (by simp [results, Tryd.results44, go_sem, ahr, ar0, ar1]) rfl ⟨by rw [HQ.out], (by repeat (first | with_reducible exact B3.out | refine Below.setCell ?_ (by simp) _))⟩
end Go.Proofs.YtlpffgmfgkleiaaDoor

/-
  The task that the document reads out of a row: what lies in memory.
-/
namespace Go.Proofs.YtlpffgmfgkleiaaDoor
open Go.RowKit Go.Maps

theorem OwnI.keep {w w' : World} {e : TypeId} {B : Nat} {v : Value} {l : List Int} (h : OwnI w e B v l) (hk : ∀ (b : Nat) (cs : Array Value), w.heap[b]? = some (.cells cs e (0, 0)) → w'.heap[b]? = w.heap[b]?) : OwnI w' e B v l := by
  rcases h with ⟨h0, h | ⟨g, cap, cur, rfl, hB, h3, r⟩⟩
  · exact ⟨h0, .inl h⟩
  · exact ⟨h0, .inr ⟨g, cap, cur, rfl, hB, (hk g cur h3).trans h3, r⟩⟩
theorem OwnI.blk {w : World} {e : TypeId} {B : Nat} {v : Value} {l : List Int} (h : OwnI w e B v l) {k : Nat} (hk : v.ownBlock = some k) : ∃ cs, w.heap[k]? = some (.cells cs e (0, 0)) := by
  rcases h.2 with ⟨rfl, h0⟩ | ⟨g, cap, cur, rfl, _, h3, _⟩
  · simp [Value.ownBlock] at hk
  · simp [Value.ownBlock] at hk; subst hk; exact ⟨cur, h3⟩
theorem OwnI.fresh {w : World} {e : TypeId} {B n c : Nat} {a : Option Addr} {l : List Int} (h : OwnI w e B (.slice a n c) l) : FreshI B a l := .inr fun g o q => by subst q; exact (h.new rfl).1
theorem OwnI.ints {w : World} {e : TypeId} {B n c : Nat} {a : Option Addr} {l : List Int} (h : OwnI w e B (.slice a n c) l) : Ints w a l ∧ l.length = n ∧ n ≤ c ∧ (c : Int) ≤ 9223372036854775807 := by
  obtain ⟨a', c', e', hi, hl, hm⟩ := h.slice
  cases e'
  exact ⟨hi, rfl, hl, hm⟩
abbrev GotT' : TypeId := 73
/-- A task that is being read: its box, its rows; a row of numbers that was read. -/
structure RSt (w : World) (k4 : Nat) (x1 x2 x3 x4 x5 : Int) (v1 : Value) (ch : List Int) (v2 : Value) (us : List Int) (v3 : Value) (q : List Int) (W : World) : Prop where
  low : Below w.heap.size w W
  gl : w.heap.size < k4
  res : Box W w.heap.size GotT #[.int .i64 0, .int .i64 0, .int .i64 0, .int .i64 0, .int .i64 0, .slice none 0 0, .slice none 0 0, .int .i64 0, .int .i64 0]
  box : Box W k4 TT #[.int .i64 x1, .int .i64 x2, .int .i64 x3, .int .i64 x4, .int .i64 x5, v1, v2]
  own1 : OwnI W 2 w.heap.size v1 ch
  own2 : OwnI W 3 (k4 + 1) v2 us
  own3 : OwnI W 2 w.heap.size v3 q
theorem RSt.below {w W W' : World} {k4 : Nat} {x1 x2 x3 x4 x5 : Int} {v1 v2 v3 : Value} {ch us q : List Int} (h : RSt w k4 x1 x2 x3 x4 x5 v1 ch v2 us v3 q W) (hb : Below W.heap.size W W') : RSt w k4 x1 x2 x3 x4 x5 v1 ch v2 us v3 q W' :=
  ⟨below_up h.low hb, h.gl, kept_obj hb h.res, kept_obj hb h.box, h.own1.below hb, h.own2.below hb, h.own3.below hb⟩
theorem typ_ne {w : World} {b k : Nat} {cs cs' : Array Value} {T T' : TypeId} (h : w.heap[b]? = some (.cells cs T (0, 0))) (h' : w.heap[k]? = some (.cells cs' T' (0, 0))) (hne : T ≠ T') : b ≠ k := by
  rintro rfl
  rw [h] at h'
  simp at h'
  exact hne h'.2
/-- Chunks are laid down. -/
theorem RSt.chunks {w W : World} {k4 : Nat} {x1 x2 x3 x4 x5 : Int} {v1 v2 v3 : Value} {ch us q : List Int} (h : RSt w k4 x1 x2 x3 x4 x5 v1 ch v2 us v3 q W) : RSt w k4 x1 x2 x3 x4 x5 v3 q v2 us v3 q (W.setCell ⟨k4, 5, none⟩ v3) := by
  have hk : ∀ (T : TypeId), T ≠ TT → ∀ (b : Nat) (cs : Array Value), W.heap[b]? = some (.cells cs T (0, 0)) → (W.setCell ⟨k4, 5, none⟩ v3).heap[b]? = W.heap[b]? := fun T hT b cs hb => blk_far (a := ⟨k4, 5, none⟩) (typ_ne hb h.box hT) _
  exact ⟨h.low.setCell (p := ⟨k4, 5, none⟩) (by show _ ≤ k4; have := h.gl; omega) _, h.gl, (hk _ (by decide) _ _ h.res).trans h.res, (blk_set h.box _).trans rfl, h.own3.keep (hk _ (by decide)), h.own2.keep (hk _ (by decide)), h.own3.keep (hk _ (by decide))⟩
/-- One more used set. -/
theorem RSt.push {w W w3 : World} {k4 : Nat} {x1 x2 x3 x4 x5 : Int} {v1 v2 v2' v3 : Value} {ch us us' q : List Int} (h : RSt w k4 x1 x2 x3 x4 x5 v1 ch v2 us v3 q W) (hg : W.grownBy w3 v2.ownBlock) (ho : OwnI w3 3 (k4 + 1) v2' us') :
    RSt w k4 x1 x2 x3 x4 x5 v1 ch v2' us' v3 q (w3.setCell ⟨k4, 6, none⟩ v2') ∧ w3.cell? ⟨k4, 6, none⟩ = some v2 ∧ w3.frozen? ⟨k4, 6, none⟩ = false := by
  have hs : k4 + 1 ≤ W.heap.size := lt_of_block h.box
  have hgl := h.gl
  have hb : Below (k4 + 1) W w3 := (Below.refl _ W).grown hg hs (fun k hk => (h.own2.new hk).1)
  have h3 := kept_objB hb (by omega) h.box
  have hr3 := kept_objB hb (by omega) h.res
  have hk3 : ∀ (T : TypeId), T ≠ 3 → T ≠ TT → ∀ (b : Nat) (cs : Array Value), W.heap[b]? = some (.cells cs T (0, 0)) → (w3.setCell ⟨k4, 6, none⟩ v2').heap[b]? = W.heap[b]? := fun T h1 h2 b cs hb => by
    rw [blk_far (a := ⟨k4, 6, none⟩) (typ_ne hb h.box h2)]
    refine hg.block b (lt_of_block hb) ?_
    intro z
    obtain ⟨c2, q2⟩ := h.own2.blk z.symm
    exact typ_ne hb q2 h1 rfl
  have ho2 : OwnI (w3.setCell ⟨k4, 6, none⟩ v2') 3 (k4 + 1) v2' us' := ho.keep fun b cs hb => blk_far (a := ⟨k4, 6, none⟩) (typ_ne hb h3 (by decide)) _
  exact ⟨⟨(h.low.trans (hb.mono (by omega))).setCell (p := ⟨k4, 6, none⟩) (by show _ ≤ k4; omega) _, h.gl, (hk3 _ (by decide) (by decide) _ _ h.res).trans h.res, (blk_set h3 _).trans rfl, h.own1.keep (hk3 _ (by decide) (by decide)), ho2, h.own3.keep (hk3 _ (by decide) (by decide))⟩, (blk_cell h3 6).trans rfl, blk_free h3 6⟩
/-- What the document reads out of a row. -/
def RLineIs (W : List WV) (w : World) (y : Ending) (w' : World) : Prop := match lineOf W with
  | .error p => WrongIs p w y w'
  | .ok t => ∃ x : TV, y = .returned (.agg #[.int .i64 x.id, .int .i64 x.c, .int .i64 x.d, .int .i64 x.t, .int .i64 x.p, .slice x.a1 x.ch.length x.c1, .slice x.a2 x.us.length x.c2, .int .i64 (endAt W W.length), .int .i64 0]) ∧ x.tk = t ∧ x.ok w' ∧ (IsI w' x.a1 x.ch ∧ FreshI w.heap.size x.a1 x.ch) ∧ (IsI w' x.a2 x.us ∧ FreshI w.heap.size x.a2 x.us) ∧ Below w.heap.size w w'
/-- A row of numbers that was read. -/
theorem RSt.src {w W W' : World} {k4 B : Nat} {x1 x2 x3 x4 x5 : Int} {v1 v2 v3 v3' : Value} {ch us q q' : List Int} (h : RSt w k4 x1 x2 x3 x4 x5 v1 ch v2 us v3 q W) (hb : Below W.heap.size W W') (ho : OwnI W' 2 B v3' q') (hB : w.heap.size ≤ B) : RSt w k4 x1 x2 x3 x4 x5 v1 ch v2 us v3' q' W' := by
  have h2 := h.below hb
  exact ⟨h2.low, h2.gl, h2.res, h2.box, h2.own1, h2.own2, ho.low hB⟩
theorem numso_none {w w' : World} {e : Ending} (h : NumsO none w e w') : e = .returned (.tuple #[.slice none 0 0, .bool false]) ∧ Below w.heap.size w w' := by
  obtain ⟨b1, ⟨-, rfl⟩ | ⟨l, a, c, hl, -⟩⟩ := h
  · exact ⟨rfl, b1⟩
  · cases hl
theorem numso_some {l : List Int} {n : Nat} (hn : l.length = n) {w w' : World} {e : Ending} (h : NumsO (some l) w e w') : ∃ a c, e = .returned (.tuple #[.slice a n c, .bool true]) ∧ OwnI w' 2 w.heap.size (.slice a n c) l ∧ Below w.heap.size w w' := by
  obtain ⟨b1, ⟨h0, -⟩ | ⟨l, a, c, hl, rfl, hi, -⟩⟩ := h
  · cases h0
  · cases hl
    subst hn
    exact ⟨a, c, rfl, hi, b1⟩
theorem farR {w : World} {k b o : Nat} (h : k ≠ b) (v : Value) : (w.setCell ⟨b, o, none⟩ v).heap[k]? = w.heap[k]? := blk_far (a := ⟨b, o, none⟩) h v
theorem RSt.done {w W W' : World} {WW : List WV} {k4 : Nat} {x1 x2 x3 x4 x5 : Int} {a1 a2 : Option Addr} {n1 c1 n2 c2 : Nat} {v3 : Value} {ch us q : List Int} (h : RSt w k4 x1 x2 x3 x4 x5 (.slice a1 n1 c1) ch (.slice a2 n2 c2) us v3 q W) (hl : lineOf WW = .ok ⟨x1, x2, x3, x4, x5, ch, us⟩) (hb : ∀ k, w.heap.size ≤ k → k ≠ w.heap.size → k < W.heap.size → W'.heap[k]? = W.heap[k]?) (hw : Below w.heap.size w W') :
    RLineIs WW w (.returned (.agg #[.int .i64 x1, .int .i64 x2, .int .i64 x3, .int .i64 x4, .int .i64 x5, .slice a1 n1 c1, .slice a2 n2 c2, .int .i64 (endAt WW WW.length), .int .i64 0])) W' := by
  have hk : ∀ (e : TypeId), e ≠ GotT → ∀ (v : Value) (l : List Int) (B : Nat), w.heap.size ≤ B → OwnI W e B v l → OwnI W' e B v l := fun e he v l B hB ho => by
    rcases ho with ⟨h0, q | ⟨g, cap, cur, rfl, hB', h3, r⟩⟩
    · exact ⟨h0, .inl q⟩
    · exact ⟨h0, .inr ⟨g, cap, cur, rfl, hB', (hb g (by omega) (fun z => typ_ne h3 h.res he z) (lt_of_block h3)).trans h3, r⟩⟩
  have o1 := hk _ (by decide) _ _ _ (Nat.le_refl _) h.own1
  have o2 := hk _ (by decide) _ _ _ (by have := h.gl; omega) h.own2
  obtain ⟨i1, e1, l1, m1⟩ := o1.ints
  obtain ⟨i2, e2, l2, m2⟩ := o2.ints
  subst e1 e2
  unfold RLineIs
  rw [hl]
  exact ⟨⟨x1, x2, x3, x4, x5, a1, ch, c1, a2, us, c2⟩, rfl, rfl, ⟨i1, i2, l1, m1, l2, m2⟩, ⟨o1.isI (.inl rfl), o1.fresh⟩, ⟨o2.isI (.inr rfl), o2.fresh.low (by have := h.gl; omega)⟩, hw⟩
theorem rline_done {w W : World} {WW : List WV} {k4 : Nat} {x1 x2 x3 x4 x5 : Int} {a1 a2 : Option Addr} {n1 c1 n2 c2 : Nat} {v3 : Value} {ch us q : List Int} (h : RSt w k4 x1 x2 x3 x4 x5 (.slice a1 n1 c1) ch (.slice a2 n2 c2) us v3 q W) (hl : lineOf WW = .ok ⟨x1, x2, x3, x4, x5, ch, us⟩) (y0 y1 y2 y3 y4 y5 y6 y7 y8 : Value) :
    RLineIs WW w (.returned (.agg #[.int .i64 x1, .int .i64 x2, .int .i64 x3, .int .i64 x4, .int .i64 x5, .slice a1 n1 c1, .slice a2 n2 c2, .int .i64 (endAt WW WW.length), .int .i64 0])) (((((((((W.setCell ⟨w.heap.size, 0, none⟩ y0).setCell ⟨w.heap.size, 1, none⟩ y1).setCell ⟨w.heap.size, 2, none⟩ y2).setCell ⟨w.heap.size, 3, none⟩ y3).setCell ⟨w.heap.size, 4, none⟩ y4).setCell ⟨w.heap.size, 5, none⟩ y5).setCell ⟨w.heap.size, 6, none⟩ y6).setCell ⟨w.heap.size, 7, none⟩ y7).setCell ⟨w.heap.size, 8, none⟩ y8) := by
  refine h.done hl (fun k _ h2 _ => ?_) ?_
  · rw [farR h2, farR h2, farR h2, farR h2, farR h2, farR h2, farR h2, farR h2, farR h2]
  · exact (((((((((h.low.setCell (p := ⟨w.heap.size, 0, none⟩) (Nat.le_refl _) _).setCell (p := ⟨w.heap.size, 1, none⟩) (Nat.le_refl _) _).setCell (p := ⟨w.heap.size, 2, none⟩) (Nat.le_refl _) _).setCell (p := ⟨w.heap.size, 3, none⟩) (Nat.le_refl _) _).setCell (p := ⟨w.heap.size, 4, none⟩) (Nat.le_refl _) _).setCell (p := ⟨w.heap.size, 5, none⟩) (Nat.le_refl _) _).setCell (p := ⟨w.heap.size, 6, none⟩) (Nat.le_refl _) _).setCell (p := ⟨w.heap.size, 7, none⟩) (Nat.le_refl _) _).setCell (p := ⟨w.heap.size, 8, none⟩) (Nat.le_refl _) _)
theorem rline_bad {W : List WV} {p : Int} {w w' : World} (h : lineOf W = .error p) (hb : Below w.heap.size w w') : RLineIs W w (.returned (.agg #[.int .i64 0, .int .i64 0, .int .i64 0, .int .i64 0, .int .i64 0, .slice none 0 0, .slice none 0 0, .int .i64 p, .int .i64 10])) w' := by
  unfold RLineIs; rw [h]; exact ⟨rfl, hb⟩
/-- Four numbers. -/
def four (f : Nat → Nat) : Array Value := #[.int .i64 (f 0), .int .i64 (f 1), .int .i64 (f 2), .int .i64 (f 3)]
def upd (f : Nat → Nat) (k n : Nat) : Nat → Nat := fun j => if j = k then n else f j
theorem four_at (f : Nat → Nat) {k : Nat} (h : k < 4) : (four f)[k]? = some (.int .i64 (f k)) := by
  match k, h with
  | 0, _ => rfl
  | 1, _ => rfl
  | 2, _ => rfl
  | 3, _ => rfl
theorem four_set (f : Nat → Nat) {k : Nat} (h : k < 4) (n : Nat) : (four f).setIfInBounds k (.int .i64 (n : Nat)) = four (upd f k n) := by
  match k, h with
  | 0, _ => rfl
  | 1, _ => rfl
  | 2, _ => rfl
  | 3, _ => rfl
theorem name_at {k : Nat} (h : k < 4) : (#[Value.string bC, .string bD, .string bT, .string bP] : Array Value)[k]? = some (.string (nameK k)) := by
  match k, h with
  | 0, _ => rfl
  | 1, _ => rfl
  | 2, _ => rfl
  | 3, _ => rfl
theorem val_apart {W : List WV} {i : Nat} {z : ByteArray} (h : valAt W i bChunks = some z) : valAt W i bUse = none := by
  unfold valAt at h ⊢
  cases hw : wordAt W i with
  | none => rfl
  | some s =>
    rw [hw] at h
    show namedV s bUse = none
    have h' : namedV s bChunks = some z := h
    unfold namedV at h' ⊢
    split at h'
    · rename_i x y he
      split at h'
      · rename_i hx
        rw [if_neg (by rw [hx]; decide)]
      · cases h'
    · cases h'
theorem w_lt {W : List WV} {i : Nat} {t : ByteArray} (h : wordAt W i = some t) : i < W.length := by
  rcases Nat.lt_or_ge i W.length with q | q
  · exact q
  · rw [wordAt_none q] at h; cases h
theorem val_lt {W : List WV} {i : Nat} {name z : ByteArray} (h : valAt W i name = some z) : i < W.length := by
  rcases Nat.lt_or_ge i W.length with q | q
  · exact q
  · unfold valAt at h; rw [wordAt_none q] at h; cases h
end Go.Proofs.YtlpffgmfgkleiaaDoor

/-
  A task as a text, in plain words; the walk over the document's own.
-/
namespace Go.Proofs.YtlpffgmfgkleiaaDoor
open Go.RowKit Go.Maps

abbrev sTask : ByteArray := ⟨#[116, 97, 115, 107, 32]⟩
abbrev sC : ByteArray := ⟨#[32, 99, 61]⟩
abbrev sD : ByteArray := ⟨#[32, 100, 61]⟩
abbrev sT : ByteArray := ⟨#[32, 116, 61]⟩
abbrev sP : ByteArray := ⟨#[32, 112, 61]⟩
abbrev sChunks : ByteArray := ⟨#[32, 99, 104, 117, 110, 107, 115, 61]⟩
abbrev sUse : ByteArray := ⟨#[32, 117, 115, 101, 61]⟩
/-- A task's words without its rows. -/
def headOf (t : Tk) : ByteArray := sTask ++ digOf t.id ++ sC ++ digOf t.c ++ sD ++ digOf t.d ++ sT ++ digOf t.t ++ sP ++ digOf t.p
def midOf (t : Tk) : ByteArray := if t.ch = [] then headOf t else headOf t ++ sChunks ++ joinOf t.ch
def wholeOf (t : Tk) : ByteArray := if t.us = [] then midOf t else midOf t ++ sUse ++ joinOf t.us
/-- A task as a text; of one that is wrong none. -/
def lineText (t : Tk) : ByteArray := if rightOf t.tv 256 = 0 then wholeOf t else ⟨#[]⟩
theorem right_tk (x : TV) (s : Int) : rightOf x s = rightOf x.tk.tv s := rfl
theorem fill_mem : ∀ (l : List Int) (c : Int), fillB l c = true → ∀ x ∈ l, 1 ≤ x ∧ x ≤ c
  | [], c, _, x, hx => by cases hx
  | y :: l, c, h, x, hx => by
    rw [fillB] at h
    by_cases q : 1 ≤ y ∧ y ≤ c
    · rw [if_pos q] at h
      rcases List.mem_cons.1 hx with rfl | hx
      · exact q
      · have := fill_mem l (c - y) h x hx
        omega
    · rw [if_neg q] at h; cases h
/-- What is right has small numbers. -/
structure Small (x : TV) : Prop where
  id : 1 ≤ x.id ∧ x.id ≤ 99
  p : 1 ≤ x.p ∧ x.p ≤ 99
  c : 1 ≤ x.c ∧ x.c ≤ x.d
  d : x.d ≤ x.t ∧ x.t ≤ 1073741824
  chl : x.ch.length ≤ 64
  ch : ∀ y ∈ x.ch, 1 ≤ y ∧ y ≤ x.c
  usl : x.us.length ≤ 64
  us : ∀ y ∈ x.us, 0 ≤ y ∧ y < 256
theorem small_of {x : TV} {s : Int} (h : rightOf x s = 0) (hs : s ≤ 256) : Small x := by
  unfold rightOf at h
  split at h
  · cases h
  · rename_i a1
    split at h
    · cases h
    · rename_i a2
      split at h
      · cases h
      · rename_i a3
        split at h
        · cases h
        · rename_i a4
          unfold idBad at a1
          unfold cdBad at a2
          unfold chBad at a3
          unfold usBad at a4
          simp only [not_or, Nat.not_lt] at a3 a4
          refine ⟨by omega, by omega, by omega, by omega, a3.1, fun y hy => ?_, a4.1, fun y hy => ?_⟩
          · have hne : x.ch ≠ [] := fun q => by rw [q] at hy; cases hy
            cases hf : fillB x.ch x.c with
            | false => exact absurd ⟨hne, hf⟩ a3.2
            | true => exact fill_mem _ _ hf y hy
          · have : badB s y = false := by
              cases hb : badB s y with
              | false => rfl
              | true => exact absurd (List.any_eq_true.2 ⟨y, hy, hb⟩) a4.2
            unfold badB at this
            simp only [decide_eq_false_iff_not] at this
            omega
theorem size_join {l : List Int} (hl : ∀ x ∈ l, I64 x) (h : l.length ≤ 64) : (joinOf l).size ≤ 1472 := by
  have := jrun_size l hl l.length
  unfold joinOf
  omega

set_option maxRecDepth 100000 in
set_option maxHeartbeats 4000000 in
theorem rtext_any (x : TV) (w : World) (hx : x.ok w) : Calls Tryd.prog 18 #[x.val] w fun e w' => e = .returned (.string (lineText x.tk)) ∧ Below w.heap.size w w' := by
  have CR : Hid (∀ v, Below w.heap.size w v → Calls Tryd.prog 33 #[x.val, .int .i64 256] v fun e w' => e = .returned (.int .i64 (rightOf x 256)) ∧ Below v.heap.size v w') := fun v hb => rright_any x 256 v (hx.below hb)
  have HX := Lib.hid hx
  have HLT : Hid (lineText x.tk = if rightOf x 256 = 0 then wholeOf x.tk else ⟨#[]⟩) := rfl
  unfold TV.val at CR ⊢
  by_cases hr : rightOf x 256 = 0
  rotate_left
  · obtain ⟨E, hE⟩ : ∃ E, rightOf x 256 = E := ⟨_, rfl⟩
    rw [hE] at CR hr
    have HL : Hid (lineText x.tk = ⟨#[]⟩) := by show _ = _; rw [HLT.out, if_neg (by rw [hE]; exact hr)]
    have d1 : (E == 0) = false := by rw [beq_eq_false_iff_ne]; exact hr
    have d2 : (E != 0) = true := by rw [bne, d1]; rfl
    clear HLT hE hr hx
    go_enter Tryd.func18, Tryd.ntmps18
    go_upto_region 1 with fail
    refine gen_world (fun v => Below w.heap.size w v ∧ AtB v w.heap.size x) ⟨bw_alloc (Below.refl _ _) _, atB_new w x _⟩ ?_
    intro u0 ⟨hb0, ⟨c0, c1, c2, c3, c4, c5, c6⟩⟩
    have B0 := Lib.hid hb0
    clear hb0
    go_wp2_with (go_at_call 33; (with_reducible refine (CR.out _ B0.out).mono ?_); rintro e u1 ⟨rfl, b1⟩; have B1 := Lib.hid (below_up B0.out b1); clear b1)
    go_ret
    exact ⟨by rw [HL.out]; rfl, B1.out⟩
  · have hsm := small_of hr (by omega)
    have HL : Hid (lineText x.tk = wholeOf x.tk) := by show _ = _; rw [HLT.out, if_pos hr]
    rw [hr] at CR
    have hchI : ∀ y ∈ x.ch, I64 y := fun y hy => by have := hsm.ch y hy; have := hsm.c; have := hsm.d; unfold I64; omega
    have husI : ∀ y ∈ x.us, I64 y := fun y hy => by have := hsm.us y hy; unfold I64; omega
    have i1 : I64 x.id := by have := hsm.id; unfold I64; omega
    have i2 : I64 x.c := by have := hsm.c; have := hsm.d; unfold I64; omega
    have i3 : I64 x.d := by have := hsm.c; have := hsm.d; unfold I64; omega
    have i4 : I64 x.t := by have := hsm.c; have := hsm.d; unfold I64; omega
    have i5 : I64 x.p := by have := hsm.p; unfold I64; omega
    obtain ⟨g1, hg1⟩ : ∃ g, digOf x.id = g := ⟨_, rfl⟩
    have z1 : g1.size ≤ 22 := by rw [← hg1]; exact digOf_size _ i1
    have D1 : Hid (∀ v, Calls Tryd.prog 17 #[.int .i64 x.id] v fun e w' => e = .returned (.string g1) ∧ Below v.heap.size v w') := fun v => by have := rdigits_any x.id i1 v; rwa [hg1] at this
    obtain ⟨g2, hg2⟩ : ∃ g, digOf x.c = g := ⟨_, rfl⟩
    have z2 : g2.size ≤ 22 := by rw [← hg2]; exact digOf_size _ i2
    have D2 : Hid (∀ v, Calls Tryd.prog 17 #[.int .i64 x.c] v fun e w' => e = .returned (.string g2) ∧ Below v.heap.size v w') := fun v => by have := rdigits_any x.c i2 v; rwa [hg2] at this
    obtain ⟨g3, hg3⟩ : ∃ g, digOf x.d = g := ⟨_, rfl⟩
    have z3 : g3.size ≤ 22 := by rw [← hg3]; exact digOf_size _ i3
    have D3 : Hid (∀ v, Calls Tryd.prog 17 #[.int .i64 x.d] v fun e w' => e = .returned (.string g3) ∧ Below v.heap.size v w') := fun v => by have := rdigits_any x.d i3 v; rwa [hg3] at this
    obtain ⟨g4, hg4⟩ : ∃ g, digOf x.t = g := ⟨_, rfl⟩
    have z4 : g4.size ≤ 22 := by rw [← hg4]; exact digOf_size _ i4
    have D4 : Hid (∀ v, Calls Tryd.prog 17 #[.int .i64 x.t] v fun e w' => e = .returned (.string g4) ∧ Below v.heap.size v w') := fun v => by have := rdigits_any x.t i4 v; rwa [hg4] at this
    obtain ⟨g5, hg5⟩ : ∃ g, digOf x.p = g := ⟨_, rfl⟩
    have z5 : g5.size ≤ 22 := by rw [← hg5]; exact digOf_size _ i5
    have D5 : Hid (∀ v, Calls Tryd.prog 17 #[.int .i64 x.p] v fun e w' => e = .returned (.string g5) ∧ Below v.heap.size v w') := fun v => by have := rdigits_any x.p i5 v; rwa [hg5] at this
    have ksUse : sUse.size = 5 := rfl
    have ksChunks : sChunks.size = 8 := rfl
    have ksP : sP.size = 3 := rfl
    have ksT : sT.size = 3 := rfl
    have ksD : sD.size = 3 := rfl
    have ksC : sC.size = 3 := rfl
    have ksTask : sTask.size = 5 := rfl
    obtain ⟨s1, hs1⟩ : ∃ s, sTask ++ g1 = s := ⟨_, rfl⟩
    have y1 : s1.size = sTask.size + g1.size := by rw [← hs1, ByteArray.size_append]
    obtain ⟨s2, hs2⟩ : ∃ s, s1 ++ sC = s := ⟨_, rfl⟩
    have y2 : s2.size = s1.size + sC.size := by rw [← hs2, ByteArray.size_append]
    obtain ⟨s3, hs3⟩ : ∃ s, s2 ++ g2 = s := ⟨_, rfl⟩
    have y3 : s3.size = s2.size + g2.size := by rw [← hs3, ByteArray.size_append]
    obtain ⟨s4, hs4⟩ : ∃ s, s3 ++ sD = s := ⟨_, rfl⟩
    have y4 : s4.size = s3.size + sD.size := by rw [← hs4, ByteArray.size_append]
    obtain ⟨s5, hs5⟩ : ∃ s, s4 ++ g3 = s := ⟨_, rfl⟩
    have y5 : s5.size = s4.size + g3.size := by rw [← hs5, ByteArray.size_append]
    obtain ⟨s6, hs6⟩ : ∃ s, s5 ++ sT = s := ⟨_, rfl⟩
    have y6 : s6.size = s5.size + sT.size := by rw [← hs6, ByteArray.size_append]
    obtain ⟨s7, hs7⟩ : ∃ s, s6 ++ g4 = s := ⟨_, rfl⟩
    have y7 : s7.size = s6.size + g4.size := by rw [← hs7, ByteArray.size_append]
    obtain ⟨s8, hs8⟩ : ∃ s, s7 ++ sP = s := ⟨_, rfl⟩
    have y8 : s8.size = s7.size + sP.size := by rw [← hs8, ByteArray.size_append]
    obtain ⟨s9, hs9⟩ : ∃ s, s8 ++ g5 = s := ⟨_, rfl⟩
    have y9 : s9.size = s8.size + g5.size := by rw [← hs9, ByteArray.size_append]
    have A1 := Lib.hid (add_str sTask g1 s1 hs1 (by omega))
    have A2 := Lib.hid (add_str s1 sC s2 hs2 (by omega))
    have A3 := Lib.hid (add_str s2 g2 s3 hs3 (by omega))
    have A4 := Lib.hid (add_str s3 sD s4 hs4 (by omega))
    have A5 := Lib.hid (add_str s4 g3 s5 hs5 (by omega))
    have A6 := Lib.hid (add_str s5 sT s6 hs6 (by omega))
    have A7 := Lib.hid (add_str s6 g4 s7 hs7 (by omega))
    have A8 := Lib.hid (add_str s7 sP s8 hs8 (by omega))
    have A9 := Lib.hid (add_str s8 g5 s9 hs9 (by omega))
    have HHD : Hid (headOf x.tk = s9) := by
      show _ = _
      unfold headOf TV.tk
      simp only []
      rw [hg1, hg2, hg3, hg4, hg5, hs1, hs2, hs3, hs4, hs5, hs6, hs7, hs8, hs9]
    have HS9 : Hid (s9.size ≤ 200) := by show _ ≤ _; omega
    obtain ⟨M, hM⟩ : ∃ M, midOf x.tk = M := ⟨_, rfl⟩
    obtain ⟨Z, hZ⟩ : ∃ Z, wholeOf x.tk = Z := ⟨_, rfl⟩
    have HM := Lib.hid hM
    have HZ := Lib.hid hZ
    have HCH := Lib.hid hchI
    have HUS := Lib.hid husI
    have HSM := Lib.hid hsm
    have HMS : Hid (M.size ≤ 2000) := by
      show _ ≤ _
      rw [← HM.out]
      unfold midOf
      split
      · rw [HHD.out]; have := HS9.out; omega
      · rw [ByteArray.size_append, ByteArray.size_append, HHD.out]
        have := HS9.out
        have e : (joinOf x.tk.ch).size ≤ 1472 := size_join HCH.out HSM.out.chl
        omega
    clear hM hZ hchI husI hsm i1 i2 i3 i4 i5 hg1 z1 hg2 z2 hg3 z3 hg4 z4 hg5 z5 hs1 y1 hs2 y2 hs3 y3 hs4 y4 hs5 y5 hs6 y6 hs7 y7 hs8 y8 hs9 y9 ksTask ksC ksD ksT ksP ksChunks ksUse hr hx HLT
    go_enter Tryd.func18, Tryd.ntmps18
    go_upto_region 1 with fail
    refine gen_world (fun v => Below w.heap.size w v ∧ AtB v w.heap.size x) ⟨bw_alloc (Below.refl _ _) _, atB_new w x _⟩ ?_
    intro u0 ⟨hb0, ht0⟩
    have B0 := Lib.hid hb0
    have T0 := Lib.hid ht0
    obtain ⟨c0, c1, c2, c3, c4, c5, c6⟩ := ht0
    clear hb0
    go_upto_region 3 with (go_at_call 33; (with_reducible refine (CR.out _ B0.out).mono ?_); rintro e u1 ⟨rfl, b1⟩; have B1 := Lib.hid (below_up B0.out b1); have T1 := Lib.hid (T0.out.below b1); clear b1)
    clear CR B0 T0 c0 c1 c2 c3 c4 c5 c6
    have MK : Hid (∀ v, Below u1.heap.size u1 v → (Below u1.heap.size u1 v ∧ v.cell? ⟨w.heap.size, 0, none⟩ = some (.int .i64 x.id) ∧ v.cell? ⟨w.heap.size, 1, none⟩ = some (.int .i64 x.c) ∧ v.cell? ⟨w.heap.size, 2, none⟩ = some (.int .i64 x.d) ∧ v.cell? ⟨w.heap.size, 3, none⟩ = some (.int .i64 x.t) ∧ v.cell? ⟨w.heap.size, 4, none⟩ = some (.int .i64 x.p))) := fun v hb => ⟨hb, kept_cell hb T1.out.c0, kept_cell hb T1.out.c1, kept_cell hb T1.out.c2, kept_cell hb T1.out.c3, kept_cell hb T1.out.c4⟩
    have E1 : Hid (∀ v, Below u1.heap.size u1 v → Calls Tryd.prog 17 #[.int .i64 x.id] v fun e w' => e = .returned (.string g1) ∧ Below u1.heap.size u1 w') := fun v hb => (D1.out v).mono fun _ _ ⟨h1, h2⟩ => ⟨h1, below_up hb h2⟩
    have E2 : Hid (∀ v, Below u1.heap.size u1 v → Calls Tryd.prog 17 #[.int .i64 x.c] v fun e w' => e = .returned (.string g2) ∧ Below u1.heap.size u1 w') := fun v hb => (D2.out v).mono fun _ _ ⟨h1, h2⟩ => ⟨h1, below_up hb h2⟩
    have E3 : Hid (∀ v, Below u1.heap.size u1 v → Calls Tryd.prog 17 #[.int .i64 x.d] v fun e w' => e = .returned (.string g3) ∧ Below u1.heap.size u1 w') := fun v hb => (D3.out v).mono fun _ _ ⟨h1, h2⟩ => ⟨h1, below_up hb h2⟩
    have E4 : Hid (∀ v, Below u1.heap.size u1 v → Calls Tryd.prog 17 #[.int .i64 x.t] v fun e w' => e = .returned (.string g4) ∧ Below u1.heap.size u1 w') := fun v hb => (D4.out v).mono fun _ _ ⟨h1, h2⟩ => ⟨h1, below_up hb h2⟩
    have E5 : Hid (∀ v, Below u1.heap.size u1 v → Calls Tryd.prog 17 #[.int .i64 x.p] v fun e w' => e = .returned (.string g5) ∧ Below u1.heap.size u1 w') := fun v hb => (D5.out v).mono fun _ _ ⟨h1, h2⟩ => ⟨h1, below_up hb h2⟩
    have a1 := A1.out
    have a2 := A2.out
    have a3 := A3.out
    have a4 := A4.out
    have a5 := A5.out
    have a6 := A6.out
    have a7 := A7.out
    have a8 := A8.out
    have a9 := A9.out
    go_cut [3] from 9 to 32 (fun u wx => u = .string s9 ∧ Hid (Below u1.heap.size u1 wx))
    case first =>
      go_region_held3 (fun v => Below u1.heap.size u1 v ∧ v.cell? ⟨w.heap.size, 0, none⟩ = some (.int .i64 x.id) ∧ v.cell? ⟨w.heap.size, 1, none⟩ = some (.int .i64 x.c) ∧ v.cell? ⟨w.heap.size, 2, none⟩ = some (.int .i64 x.d) ∧ v.cell? ⟨w.heap.size, 3, none⟩ = some (.int .i64 x.t) ∧ v.cell? ⟨w.heap.size, 4, none⟩ = some (.int .i64 x.p)) (exact MK.out _ (by repeat (first | exact Below.refl _ _ | (with_reducible assumption) | refine bw_alloc ?_ _ | refine bw_drew ?_))) (first
        | (go_at_call 17; (with_reducible refine (E1.out _ (by repeat (first | exact Below.refl _ _ | (with_reducible assumption) | refine bw_alloc ?_ _ | refine bw_drew ?_))).mono ?_); rintro e wx ⟨rfl, bx⟩)
        | (go_at_call 17; (with_reducible refine (E2.out _ (by repeat (first | exact Below.refl _ _ | (with_reducible assumption) | refine bw_alloc ?_ _ | refine bw_drew ?_))).mono ?_); rintro e wx ⟨rfl, bx⟩)
        | (go_at_call 17; (with_reducible refine (E3.out _ (by repeat (first | exact Below.refl _ _ | (with_reducible assumption) | refine bw_alloc ?_ _ | refine bw_drew ?_))).mono ?_); rintro e wx ⟨rfl, bx⟩)
        | (go_at_call 17; (with_reducible refine (E4.out _ (by repeat (first | exact Below.refl _ _ | (with_reducible assumption) | refine bw_alloc ?_ _ | refine bw_drew ?_))).mono ?_); rintro e wx ⟨rfl, bx⟩)
        | (go_at_call 17; (with_reducible refine (E5.out _ (by repeat (first | exact Below.refl _ _ | (with_reducible assumption) | refine bw_alloc ?_ _ | refine bw_drew ?_))).mono ?_); rintro e wx ⟨rfl, bx⟩))
      all_goals
        go_wp2_with fail
        go_meet
        exact ⟨rfl, Lib.hid (by assumption)⟩
    case rest =>
      obtain ⟨rfl, HB2⟩ := hcut
      have T2 := Lib.hid (T1.out.below HB2.out)
      have B2 := Lib.hid (below_up B1.out HB2.out)
      clear MK E1 E2 E3 E4 E5 D1 D2 D3 D4 D5 A1 A2 A3 A4 A5 A6 A7 A8 A9 a1 a2 a3 a4 a5 a6 a7 a8 a9 T1 B1 HB2
      have c5 := T2.out.c5
      obtain ⟨N, hN⟩ : ∃ N, x.ch.length = N := ⟨_, rfl⟩
      rw [hN] at c5
      go_upto_if 36 with fail
      go_cut [3] from 36 to 42 (fun u wy => u = .string M ∧ Hid (Below w.heap.size w wy) ∧ Hid (AtB wy w.heap.size x))
      case first =>
        by_cases hc : x.ch = []
        · have hM : Hid (M = s9) := by show _ = _; rw [← HM.out, ← HHD.out]; unfold midOf; rw [if_pos (show x.tk.ch = [] from hc)]
          have hl0 : N = 0 := by rw [← hN, hc]; rfl
          have hl1 : ¬ (0 : Int) < (N : Int) := by omega
          clear hl0 hc hN
          go_wp2_with fail
          go_meet
          exact ⟨by rw [hM.out], B2, T2⟩
        · have hlp : 0 < x.ch.length := List.length_pos_iff.2 hc
          obtain ⟨q, hq⟩ : ∃ q, joinOf x.ch = q := ⟨_, rfl⟩
          obtain ⟨m1, hm1⟩ : ∃ m, s9 ++ sChunks = m := ⟨_, rfl⟩
          have hM : m1 ++ q = M := by rw [← HM.out]; unfold midOf; rw [if_neg (show ¬ x.tk.ch = [] from hc), HHD.out, hm1]; show m1 ++ q = m1 ++ joinOf x.ch; rw [hq]
          have hqs : q.size ≤ 1472 := by rw [← hq]; exact size_join HCH.out HSM.out.chl
          have k8 : sChunks.size = 8 := rfl
          have hm1s : m1.size = s9.size + 8 := by rw [← hm1, ByteArray.size_append, k8]
          have CJ : Hid (∀ v, Below w.heap.size w v → Calls Tryd.prog 35 #[.slice x.a1 N x.c1] v fun e w' => e = .returned (.string q) ∧ Below v.heap.size v w') := fun v hb => by
            have := rjoin_any x.a1 N x.c1 x.ch hN (by have := HSM.out.chl; omega) HCH.out v (HX.out.one.below hb)
            rwa [hq] at this
          have b1 := add_str s9 sChunks m1 hm1 (by have := HS9.out; omega)
          have b2 := add_str m1 q M hM (by have := HS9.out; omega)
          rw [hN] at hlp
          have hlp2 : (0 : Int) < (N : Int) := by omega
          clear hN hq hm1 hM hqs k8 hm1s hc
          go_wp2_with (go_at_call 35; (with_reducible refine (CJ.out _ B2.out).mono ?_); rintro e wx ⟨rfl, bx⟩; have B3 := Lib.hid (below_up B2.out bx); have T3 := Lib.hid (T2.out.below bx); clear bx)
          go_meet
          exact ⟨rfl, B3, T3⟩
      case rest =>
        clear B2 T2 c5
        obtain ⟨rfl, B3, T3⟩ := hcut
        have c6 := T3.out.c6
        by_cases hu : x.us = []
        · have hZ : Hid (Z = M) := by show _ = _; rw [← HZ.out, ← HM.out]; unfold wholeOf; rw [if_pos (show x.tk.us = [] from hu)]
          have hl0 : x.us.length = 0 := by rw [hu]; rfl
          rw [hl0] at c6
          clear hl0 hu
          go_wp2_with fail
          go_ret
          exact ⟨by rw [HL.out, HZ.out, hZ.out]; rfl, B3.out⟩
        · have hlp : 0 < x.us.length := List.length_pos_iff.2 hu
          have hl64 := HSM.out.usl
          obtain ⟨K, hK⟩ : ∃ K, x.us.length = K := ⟨_, rfl⟩
          obtain ⟨q, hq⟩ : ∃ q, joinOf x.us = q := ⟨_, rfl⟩
          obtain ⟨m1, hm1⟩ : ∃ m, M ++ sUse = m := ⟨_, rfl⟩
          have hZ : m1 ++ q = Z := by rw [← HZ.out]; unfold wholeOf; rw [if_neg (show ¬ x.tk.us = [] from hu), HM.out, hm1]; show m1 ++ q = m1 ++ joinOf x.us; rw [hq]
          have hqs : q.size ≤ 1472 := by rw [← hq]; exact size_join HUS.out HSM.out.usl
          have k5 : sUse.size = 5 := rfl
          have hm1s : m1.size = M.size + 5 := by rw [← hm1, ByteArray.size_append, k5]
          have a1 := Lib.hid (add_str M sUse m1 hm1 (by have := HMS.out; omega))
          have a2 := Lib.hid (add_str m1 q Z hZ (by have := HMS.out; omega))
          rw [hK] at c6 hlp hl64
          have hlp2 : (0 : Int) < (K : Int) := by omega
          have CJ : Hid (∀ (a : Option Addr) (c : Nat) v, Ints v a x.us → Calls Tryd.prog 35 #[.slice a K c] v fun e w' => e = .returned (.string q) ∧ Below v.heap.size v w') := fun a c v hi => by
            have := rjoin_any a K c x.us hK (by omega) HUS.out v hi
            rwa [hq] at this
          have HK := Lib.hid hK
          have HX2 : Hid (∀ v, Below w.heap.size w v → Ints v x.a2 x.us) := fun v hb => HX.out.two.below hb
          have hdK : decide (0 < K) = true := by rw [decide_eq_true_eq]; exact hlp
          clear hq hm1 hZ hqs k5 hm1s hu hlp hN hK
          go_wp2_with fail
          try rw [hdK]
          try rw [show decide ((0 : Int) < (K : Int)) = true from decide_eq_true hlp2]
          go_loopw [4, 5] (fun v u wr => ∃ (k : Nat) (a' : Option Addr) (cp' : Nat), k ≤ K ∧ u = .int .i64 k ∧ v = .slice a' k cp' ∧ Hid (Below w.heap.size w wr) ∧ Hid (AtB wr w.heap.size x) ∧ Hid (OwnI wr 2 (w.heap.size + 1) (.slice a' k cp') (x.us.take k))) (fun _ u _ => (K - intOf u).toNat)
          case atStart => exact ⟨0, _, _, by omega, rfl, rfl, B3, T3, OwnI.nil _ _ _⟩
          case round =>
            obtain ⟨k, a', cp', hk, rfl, rfl, HB, HT, HP⟩ := hrel
            clear B3 T3 c6
            have c6 := HT.out.c6
            rw [HK.out] at c6
            by_cases hlt : k < K
            · obtain ⟨y, hy⟩ := nth_of HK.out hlt
              obtain ⟨g, o, eq, z0⟩ := (HX2.out wr HB.out).at_ hy
              rw [eq] at c6
              have hk1 : (k : Int) < (K : Int) := by omega
              have hk0 : (0 : Int) ≤ (k : Int) := by omega
              have HTL : Hid ((x.us.take k).length = k) := by show _ = _; rw [List.length_take, HK.out]; omega
              have HT2 : Hid (x.us.take k ++ [y] = x.us.take (k + 1)) := by show _ = _; rw [List.take_add_one, hy]; rfl
              have HSM2 : Hid ((((x.us.take k).length : Int) + ((1 : Nat) : Int)) ≤ 17592186044416) := by show _ ≤ _; rw [HTL.out]; omega
              have HNN : Hid ((x.us.take k).length + 1 = k + 1) := by show _ = _; rw [HTL.out]
              have hwr : w.heap.size < wr.heap.size := block_of_cell HT.out.c0
              have HSZ : Hid (w.heap.size + 1 ≤ (wr.alloc (.cells #[.int .i64 y] 2)).heap.size) := by show _ ≤ _; rw [World.size_alloc]; omega
              have HG : Hid (∀ w3, Below (w.heap.size + 1) wr w3 → Below w.heap.size w w3 ∧ AtB w3 w.heap.size x) := fun w3 h3 => ⟨HB.out.trans (h3.mono (by omega)), HT.out.belowB h3 (by omega)⟩
              clear hy eq
              go_wp2_with (at_builtin; refine wp_ints (m := 1) (l := [y]) numL rfl _ _ rfl rfl rfl (HP.out.below (by repeat (first | exact Below.refl _ _ | (with_reducible assumption) | refine bw_alloc ?_ _ | refine bw_drew ?_))) HSZ.out (ints_new _ _ _) rfl HSM2.out (fun z => by cases z) (k + 1) HNN.out ?_; intro a3 k3 w3 o3 g3 l3; have HO := Lib.hid (HT2.out ▸ o3); have HG3 := HG.out w3 (growni_new (((by repeat (first | exact Below.refl _ _ | (with_reducible assumption) | refine bw_alloc ?_ _ | refine bw_drew ?_)) : Below wr.heap.size wr _).mono hwr) (HP.out.below (by repeat (first | exact Below.refl _ _ | (with_reducible assumption) | refine bw_alloc ?_ _ | refine bw_drew ?_))) HSZ.out g3); have HB3 := Lib.hid HG3.1; have HT3 := Lib.hid HG3.2; clear o3 g3 l3 HG3)
              go_roundw
              case rel => first | exact ⟨k + 1, a3, k3, by omega, by go_num, rfl, HB3, HT3, HO⟩ | (simp only [hdK]; exact ⟨_, _, _, _, _, _, _, _, _, _, _, _, _, _, _, _, _, ⟨k + 1, a3, k3, by omega, by go_num, rfl, HB3, HT3, HO⟩, rfl⟩)
              case measure => simp [intOf]; omega
            · obtain rfl : K = k := by omega
              have HTT : Hid (x.us.take K = x.us) := by show _ = _; rw [← HK.out, List.take_length]
              have HI : Hid (Ints wr a' x.us) := by have := HP.out.ints.1; rwa [HTT.out] at this
              have b1 := a1.out
              have b2 := a2.out
              clear HTT HP hlt hk
              go_wp2_with (go_at_call 35; (with_reducible refine (CJ.out _ _ _ HI.out).mono ?_); rintro e wx ⟨rfl, bx⟩; have B4 := Lib.hid (below_up HB.out bx); clear bx)
              go_ret
              exact ⟨by rw [HL.out, HZ.out]; rfl, B4.out⟩
end Go.Proofs.YtlpffgmfgkleiaaDoor

/-
  A system as a text, in plain words; the walk over the document's own.
-/
namespace Go.Proofs.YtlpffgmfgkleiaaDoor
open Go.RowKit Go.Maps

abbrev sCache : ByteArray := ⟨#[99, 97, 99, 104, 101, 32]⟩
abbrev sSp : ByteArray := ⟨#[32]⟩
abbrev sNl : ByteArray := ⟨#[10]⟩
def headText (S R : Int) : ByteArray := sCache ++ digOf S ++ sSp ++ digOf R ++ sNl
def printRun (h : ByteArray) : List Tk → ByteArray
  | [] => h
  | t :: l => printRun (h ++ lineText t ++ sNl) l
/-- A system as a text; of one that is wrong none. -/
def printText (S R : Int) (l : List Tk) : ByteArray := if checkT S R l = 0 then printRun (headText S R) l else ⟨#[]⟩
theorem run_snoc (t : Tk) : ∀ (l : List Tk) (h : ByteArray), printRun h (l ++ [t]) = printRun h l ++ lineText t ++ sNl
  | [], _ => rfl
  | x :: l, h => by rw [List.cons_append, printRun, printRun, run_snoc t l]
theorem run_next {l : List Tk} {k : Nat} {t : Tk} (ht : l[k]? = some t) (h : ByteArray) : printRun h (l.take (k + 1)) = printRun h (l.take k) ++ lineText t ++ sNl := by
  rw [List.take_add_one, ht]
  exact run_snoc t _ h
theorem line_size (x : TV) : (lineText x.tk).size ≤ 3400 := by
  unfold lineText
  by_cases h : rightOf x.tk.tv 256 = 0
  rotate_left
  · rw [if_neg h]; exact Nat.zero_le _
  rw [if_pos h]
  have hs := small_of (x := x) (s := 256) h (by omega)
  have e1 := hs.id
  have e2 := hs.p
  have e3 := hs.c
  have e4 := hs.d
  have z1 := digOf_size x.tk.id (by unfold I64; show _ ≤ x.id ∧ x.id ≤ _; omega)
  have z2 := digOf_size x.tk.c (by unfold I64; show _ ≤ x.c ∧ x.c ≤ _; omega)
  have z3 := digOf_size x.tk.d (by unfold I64; show _ ≤ x.d ∧ x.d ≤ _; omega)
  have z4 := digOf_size x.tk.t (by unfold I64; show _ ≤ x.t ∧ x.t ≤ _; omega)
  have z5 := digOf_size x.tk.p (by unfold I64; show _ ≤ x.p ∧ x.p ≤ _; omega)
  have hh : (headOf x.tk).size ≤ 200 := by
    unfold headOf
    simp only [ByteArray.size_append]
    have k1 : sTask.size = 5 := rfl
    have k2 : sC.size = 3 := rfl
    have k3 : sD.size = 3 := rfl
    have k4 : sT.size = 3 := rfl
    have k5 : sP.size = 3 := rfl
    omega
  have hj1 := size_join (l := x.ch) (fun y hy => by have := hs.ch y hy; unfold I64; omega) hs.chl
  have hj2 := size_join (l := x.us) (fun y hy => by have := hs.us y hy; unfold I64; omega) hs.usl
  have hm : (midOf x.tk).size ≤ 1680 := by
    unfold midOf
    split
    · omega
    · simp only [ByteArray.size_append]
      have k1 : sChunks.size = 8 := rfl
      have : (joinOf x.tk.ch).size ≤ 1472 := hj1
      omega
  unfold wholeOf
  split
  · omega
  · simp only [ByteArray.size_append]
    have k1 : sUse.size = 5 := rfl
    have : (joinOf x.tk.us).size ≤ 1472 := hj2
    omega
theorem run_size (h : ByteArray) (L : List TV) (k : Nat) : (printRun h ((L.map TV.tk).take k)).size ≤ h.size + 3401 * k := by
  induction k with
  | zero => rw [List.take_zero]; exact Nat.le_refl _
  | succ k ih =>
    cases hx : L[k]? with
    | none =>
      have : L.length ≤ k := List.getElem?_eq_none_iff.1 hx
      rw [List.take_of_length_le (by rw [List.length_map]; omega)]
      rw [List.take_of_length_le (by rw [List.length_map]; omega)] at ih
      omega
    | some x =>
      rw [run_next (t := x.tk) (by rw [List.getElem?_map, hx]; rfl), ByteArray.size_append, ByteArray.size_append]
      have h1 := line_size x
      have h2 : sNl.size = 1 := rfl
      omega
/-- What is right by its system. -/
theorem first_all {s : Int} : ∀ (L : List TV) (last : Int) (seen : List Int), firstOf s last seen L = 0 → ∀ x ∈ L, rightOf x s = 0
  | [], _, _, _, x, hx => by cases hx
  | y :: L, last, seen, h, x, hx => by
    rw [firstOf] at h
    by_cases h1 : rightOf y s = 0
    rotate_left
    · rw [if_pos h1] at h; exact absurd h h1
    rw [if_neg (fun z => z h1)] at h
    split at h
    · cases h
    · split at h
      · cases h
      · rcases List.mem_cons.1 hx with rfl | hx
        · exact h1
        · exact first_all L _ _ h x hx
structure CheckOk (S R : Int) (L : List TV) : Prop where
  s : 0 ≤ S ∧ S ≤ 256
  r : 0 ≤ R ∧ R ≤ 1000
  pos : 0 < L.length
  most : L.length ≤ 64
  all : ∀ x ∈ L, rightOf x S = 0
  first : firstOf S 0 [] L = 0
theorem check_pass {S R : Int} {L : List TV} (h : checkOf S R L = 0) : CheckOk S R L := by
  unfold checkOf at h
  split at h
  · cases h
  · rename_i hb
    unfold sysBad at hb
    split at h
    · cases h
    · exact ⟨by omega, by omega, by omega, by omega, first_all L _ _ h, h⟩
theorem print_tk (S R : Int) (L : List TV) : printText S R (L.map TV.tk) = if checkOf S R L = 0 then printRun (headText S R) (L.map TV.tk) else ⟨#[]⟩ := by
  unfold printText; rw [check_tk]
theorem print_size (S R : Int) (L : List TV) : (printText S R (L.map TV.tk)).size ≤ 300000 := by
  rw [print_tk]
  by_cases h : checkOf S R L = 0
  rotate_left
  · rw [if_neg h]; exact Nat.zero_le _
  rw [if_pos h]
  have q := check_pass h
  have := run_size (headText S R) L L.length
  rw [List.take_of_length_le (by rw [List.length_map]; omega)] at this
  have h2 : (headText S R).size ≤ 60 := by
    unfold headText
    have z1 := digOf_size S (by have := q.s; unfold I64; omega)
    have z2 := digOf_size R (by have := q.r; unfold I64; omega)
    simp only [ByteArray.size_append]
    have k1 : sCache.size = 6 := rfl
    have k2 : sSp.size = 1 := rfl
    have k3 : sNl.size = 1 := rfl
    omega
  have := q.most
  omega

set_option maxRecDepth 100000 in
set_option maxHeartbeats 4000000 in
theorem rprint_any {w : World} {a : Option Addr} {n cap : Nat} {L : List TV} (S R : Int) (ha : Tasks w a n cap L) : Calls Tryd.prog 10 #[.agg #[.int .i64 S, .int .i64 R, .slice a n cap]] w fun e w' => e = .returned (.string (printText S R (L.map TV.tk))) ∧ Below w.heap.size w w' := by
  have CK : Hid (∀ v, Below w.heap.size w v → Calls Tryd.prog 16 #[.agg #[.int .i64 S, .int .i64 R, .slice a n cap]] v fun e w' => e = .returned (.int .i64 (checkOf S R L)) ∧ Below v.heap.size v w') := fun v hb => rcheck_any S R (ha.below hb)
  have HA := Lib.hid ha
  have HPT : Hid (printText S R (L.map TV.tk) = if checkOf S R L = 0 then printRun (headText S R) (L.map TV.tk) else ⟨#[]⟩) := print_tk S R L
  by_cases hr : checkOf S R L = 0
  rotate_left
  · obtain ⟨E, hE⟩ : ∃ E, checkOf S R L = E := ⟨_, rfl⟩
    rw [hE] at CK hr
    have HL : Hid (printText S R (L.map TV.tk) = ⟨#[]⟩) := by show _ = _; rw [HPT.out, if_neg (by rw [hE]; exact hr)]
    have d1 : (E == 0) = false := by rw [beq_eq_false_iff_ne]; exact hr
    have d2 : (E != 0) = true := by rw [bne, d1]; rfl
    clear HPT hE hr ha
    go_enter Tryd.func10, Tryd.ntmps10
    go_upto_region 1 with fail
    refine gen_world (SysB w w.heap.size S R a n cap) sysB_new ?_
    intro u0 h0
    have H0 := Lib.hid h0
    obtain ⟨-, c0, c1, c2⟩ := h0
    go_wp2_with (go_at_call 16; (with_reducible refine (CK.out _ H0.out.low).mono ?_); rintro e u1 ⟨rfl, b1⟩; have B1 := Lib.hid (below_up H0.out.low b1); clear b1)
    go_ret
    exact ⟨by rw [HL.out]; rfl, B1.out⟩
  · have hq := check_pass hr
    have HL : Hid (printText S R (L.map TV.tk) = printRun (headText S R) (L.map TV.tk)) := by show _ = _; rw [HPT.out, if_pos hr]
    rw [hr] at CK
    have i1 : I64 S := by have := hq.s; unfold I64; omega
    have i2 : I64 R := by have := hq.r; unfold I64; omega
    have hn : L.length = n := ha.len
    have hn64 : n ≤ 64 := by have := hq.most; omega
    obtain ⟨g1, hg1⟩ : ∃ g, digOf S = g := ⟨_, rfl⟩
    have z1 : g1.size ≤ 22 := by rw [← hg1]; exact digOf_size _ i1
    have D1 : Hid (∀ v, Calls Tryd.prog 17 #[.int .i64 S] v fun e w' => e = .returned (.string g1) ∧ Below v.heap.size v w') := fun v => by have := rdigits_any S i1 v; rwa [hg1] at this
    obtain ⟨g2, hg2⟩ : ∃ g, digOf R = g := ⟨_, rfl⟩
    have z2 : g2.size ≤ 22 := by rw [← hg2]; exact digOf_size _ i2
    have D2 : Hid (∀ v, Calls Tryd.prog 17 #[.int .i64 R] v fun e w' => e = .returned (.string g2) ∧ Below v.heap.size v w') := fun v => by have := rdigits_any R i2 v; rwa [hg2] at this
    have kCache : sCache.size = 6 := rfl
    have kSp : sSp.size = 1 := rfl
    have kNl : sNl.size = 1 := rfl
    obtain ⟨s1, hs1⟩ : ∃ s, sCache ++ g1 = s := ⟨_, rfl⟩
    have y1 : s1.size = sCache.size + g1.size := by rw [← hs1, ByteArray.size_append]
    obtain ⟨s2, hs2⟩ : ∃ s, s1 ++ sSp = s := ⟨_, rfl⟩
    have y2 : s2.size = s1.size + sSp.size := by rw [← hs2, ByteArray.size_append]
    obtain ⟨s3, hs3⟩ : ∃ s, s2 ++ g2 = s := ⟨_, rfl⟩
    have y3 : s3.size = s2.size + g2.size := by rw [← hs3, ByteArray.size_append]
    obtain ⟨s4, hs4⟩ : ∃ s, s3 ++ sNl = s := ⟨_, rfl⟩
    have y4 : s4.size = s3.size + sNl.size := by rw [← hs4, ByteArray.size_append]
    have A1 := Lib.hid (add_str sCache g1 s1 hs1 (by omega))
    have A2 := Lib.hid (add_str s1 sSp s2 hs2 (by omega))
    have A3 := Lib.hid (add_str s2 g2 s3 hs3 (by omega))
    have A4 := Lib.hid (add_str s3 sNl s4 hs4 (by omega))
    have HHD : Hid (headText S R = s4) := by
      show _ = _
      unfold headText
      rw [hg1, hg2, hs1, hs2, hs3, hs4]
    have HS4 : Hid (s4.size ≤ 60) := by show _ ≤ _; omega
    have HRL : Hid (∀ x ∈ L, rightOf x 256 = 0 → True) := fun _ _ _ => trivial
    have HRS : Hid (∀ k, (printRun s4 ((L.map TV.tk).take k)).size ≤ s4.size + 3401 * k) := fun k => run_size s4 L k
    rw [HHD.out] at HL
    clear i1 i2 hg1 hg2 z1 z2 hs1 hs2 hs3 hs4 y1 y2 y3 y4 kCache kSp kNl HRL hq hr HPT HHD ha
    have HN := Lib.hid hn
    clear hn
    go_enter Tryd.func10, Tryd.ntmps10
    go_upto_region 1 with fail
    refine gen_world (SysB w w.heap.size S R a n cap) sysB_new ?_
    intro u0 h0
    have H0 := Lib.hid h0
    obtain ⟨-, c0, c1, c2⟩ := h0
    go_upto_region 3 with (go_at_call 16; (with_reducible refine (CK.out _ H0.out.low).mono ?_); rintro e u1 ⟨rfl, b1⟩; have H1 := Lib.hid (H0.out.below b1); clear b1)
    clear CK H0 c0 c1 c2
    have MK : Hid (∀ v, Below u1.heap.size u1 v → (Below u1.heap.size u1 v ∧ v.cell? ⟨w.heap.size, 0, none⟩ = some (.int .i64 S) ∧ v.cell? ⟨w.heap.size, 1, none⟩ = some (.int .i64 R))) := fun v hb => ⟨hb, kept_cell hb H1.out.s0, kept_cell hb H1.out.s1⟩
    have E1 : Hid (∀ v, Below u1.heap.size u1 v → Calls Tryd.prog 17 #[.int .i64 S] v fun e w' => e = .returned (.string g1) ∧ Below u1.heap.size u1 w') := fun v hb => (D1.out v).mono fun _ _ ⟨h1, h2⟩ => ⟨h1, below_up hb h2⟩
    have E2 : Hid (∀ v, Below u1.heap.size u1 v → Calls Tryd.prog 17 #[.int .i64 R] v fun e w' => e = .returned (.string g2) ∧ Below u1.heap.size u1 w') := fun v hb => (D2.out v).mono fun _ _ ⟨h1, h2⟩ => ⟨h1, below_up hb h2⟩
    have a1 := A1.out
    have a2 := A2.out
    have a3 := A3.out
    have a4 := A4.out
    go_cut [3] from 8 to 18 (fun u wx => u = .string s4 ∧ Hid (Below u1.heap.size u1 wx))
    case first =>
      go_region_held3 (fun v => Below u1.heap.size u1 v ∧ v.cell? ⟨w.heap.size, 0, none⟩ = some (.int .i64 S) ∧ v.cell? ⟨w.heap.size, 1, none⟩ = some (.int .i64 R)) (exact MK.out _ (by repeat (first | exact Below.refl _ _ | (with_reducible assumption) | refine bw_alloc ?_ _ | refine bw_drew ?_))) (first
        | (go_at_call 17; (with_reducible refine (E1.out _ (by repeat (first | exact Below.refl _ _ | (with_reducible assumption) | refine bw_alloc ?_ _ | refine bw_drew ?_))).mono ?_); rintro e wx ⟨rfl, bx⟩)
        | (go_at_call 17; (with_reducible refine (E2.out _ (by repeat (first | exact Below.refl _ _ | (with_reducible assumption) | refine bw_alloc ?_ _ | refine bw_drew ?_))).mono ?_); rintro e wx ⟨rfl, bx⟩))
      all_goals
        go_wp2_with fail
        go_meet
        exact ⟨rfl, Lib.hid (by assumption)⟩
    case rest =>
      obtain ⟨rfl, HB2⟩ := hcut
      have H2 := Lib.hid (H1.out.below HB2.out)
      clear MK E1 E2 D1 D2 A1 A2 A3 A4 a1 a2 a3 a4 H1 HB2
      go_wp2_with fail
      go_loopw [3, 4] (fun v u wr => ∃ (k : Nat), k ≤ n ∧ u = .int .i64 k ∧ v = .string (printRun s4 ((L.map TV.tk).take k)) ∧ Hid (SysB w w.heap.size S R a n cap wr)) (fun _ u _ => (n - intOf u).toNat)
      case atStart => exact ⟨0, by omega, rfl, rfl, H2⟩
      case round =>
        obtain ⟨k, hk, rfl, rfl, HP⟩ := hrel
        clear H2
        obtain ⟨_, q0, q1, q2⟩ := HP.out
        by_cases hlt : k < n
        · obtain ⟨x, hx⟩ := nth_of HA.out.len hlt
          obtain ⟨g, o, rfl, ⟨c0, c1, c2, c3, c4, c5, c6⟩⟩ := (HA.out.view.below HP.out.low).at_ hx
          have hk1 : (k : Int) < (n : Int) := by omega
          have hk0 : (0 : Int) ≤ (k : Int) := by omega
          obtain ⟨X, hX⟩ : ∃ X, printRun s4 ((L.map TV.tk).take k) = X := ⟨_, rfl⟩
          obtain ⟨Y, hY⟩ : ∃ Y, lineText x.tk = Y := ⟨_, rfl⟩
          obtain ⟨m1, hm1⟩ : ∃ m, X ++ Y = m := ⟨_, rfl⟩
          obtain ⟨m2, hm2⟩ : ∃ m, m1 ++ sNl = m := ⟨_, rfl⟩
          have HNX : Hid (printRun s4 ((L.map TV.tk).take (k + 1)) = m2) := by
            show _ = _
            rw [run_next (t := x.tk) (by rw [List.getElem?_map, hx]; rfl), hX, hY, hm1, hm2]
          have hYs : Y.size ≤ 3400 := by rw [← hY]; exact line_size x
          have hXs : X.size ≤ s4.size + 3401 * k := by rw [← hX]; exact HRS.out k
          have hm1s : m1.size = X.size + Y.size := by rw [← hm1, ByteArray.size_append]
          have k1 : sNl.size = 1 := rfl
          have b1 := add_str X Y m1 hm1 (by have := HS4.out; omega)
          have b2 := add_str m1 sNl m2 hm2 (by have := HS4.out; omega)
          have CL : Hid (∀ v, Below wr.heap.size wr v → Calls Tryd.prog 18 #[x.val] v fun e w' => e = .returned (.string Y) ∧ Below v.heap.size v w') := fun v hb => by
            have := rtext_any x v (((HA.out.ok.at_ hx).below HP.out.low).below hb)
            rwa [hY] at this
          unfold TV.val at CL
          rw [hX]
          clear hx hX hY hm1 hm2 hYs hXs hm1s k1
          go_wp2_with (go_at_call 18; (with_reducible refine (CL.out _ (by repeat (first | exact Below.refl _ _ | (with_reducible assumption) | refine bw_alloc ?_ _ | refine bw_drew ?_))).mono ?_); rintro e w2 ⟨rfl, b2⟩; have HP2 := Lib.hid (HP.out.below b2); clear b2)
          go_roundw
          case rel => exact ⟨k + 1, by omega, by go_num, by rw [HNX.out], HP2⟩
          case measure => simp [intOf]; omega
        · obtain rfl : n = k := by omega
          have HT : Hid (printRun s4 ((L.map TV.tk).take n) = printText S R (L.map TV.tk)) := by
            show _ = _
            rw [HL.out, List.take_of_length_le (by rw [List.length_map, HN.out]; exact Nat.le_refl _)]
          rw [HT.out]
          go_wp2_with fail
          go_ret
          exact ⟨rfl, HP.out.low⟩
end Go.Proofs.YtlpffgmfgkleiaaDoor

/-
  The walk over whether two rows of words are the same.
-/
namespace Go.Proofs.YtlpffgmfgkleiaaDoor
open Go.RowKit Go.Maps

theorem wordGuard : Tryd.prog.eqGuardType Tryd.prog.depth 68 = false := by kernel_rfl
theorem wordFields : Tryd.prog.underlying 68 = some (.struct (Tryd.prog.fieldsOf 68)) := by kernel_rfl
theorem wordStood : Tryd.prog.stoodInHeld 68 = false := by kernel_rfl
theorem word_ne (x y : WV) (w : World) : (binOp .neq 68 (.agg #[.int .i64 x.at_, .int .i64 x.ln, .string x.tx]) (.agg #[.int .i64 y.at_, .int .i64 y.ln, .string y.tx])).run Tryd.prog w = .ok (.bool (decide (¬ x = y))) w := by
  have u1 := Tryd.underlying3
  have u2 := Tryd.underlying9
  rw [run_neq_struct, show (10000 : Nat) = 9999 + 1 from rfl, run_equalIn_agg w 9999 _ _ _ wordFields wordStood]
  simp only [Program.fieldsOf, Tryd.underlying68]
  go_simp
  obtain ⟨a, b, c⟩ := x
  obtain ⟨d, e, f⟩ := y
  simp only [WV.mk.injEq]
  have e3 := beq_toListBytes c f
  by_cases h3 : c = f
  · subst h3
    by_cases h1 : a = d <;> by_cases h2 : b = e <;> simp [h1, h2]
  · have d3 : (c == f) = false := by
      obtain ⟨c⟩ := c
      obtain ⟨f⟩ := f
      change (c == f) = false
      rw [beq_eq_false_iff_ne]
      intro q; exact h3 (by rw [q])
    rw [d3] at e3
    have q3 : ¬ c.toList = f.toList := by have := e3.symm; rwa [beq_eq_false_iff_ne] at this
    by_cases h1 : a = d <;> by_cases h2 : b = e <;> simp [h1, h2, h3, q3]

theorem wsame_step {l m : List WV} {k : Nat} {x y : WV} (h : l.take k = m.take k) (hx : l[k]? = some x) (hy : m[k]? = some y) (e : x = y) : l.take (k + 1) = m.take (k + 1) := by
  rw [List.take_add_one, List.take_add_one, h, hx, hy, e]
theorem wsame_end {l m : List WV} {k : Nat} (h : l.take k = m.take k) (hl : l.length = k) (hm : m.length = k) : l = m := by
  rwa [List.take_of_length_le (by omega), List.take_of_length_le (by omega)] at h
theorem wsame_not {l m : List WV} {k : Nat} {x y : WV} (hx : l[k]? = some x) (hy : m[k]? = some y) (e : ¬ x = y) : ¬ l = m := by
  rintro rfl; rw [hx] at hy; cases hy; exact e rfl

attribute [-go_sem] run_neq_struct
attribute [local go_sem] word_ne wordGuard
end Go.Proofs.YtlpffgmfgkleiaaDoor

/-
  The walk over what tells a text's words one by one.
-/
namespace Go.Proofs.YtlpffgmfgkleiaaDoor
open Go.RowKit Go.Maps Go.Shelf
attribute [local go_sem] Oper.semAt_some

theorem parts_any (r : Int) (B : Bool) (hB : decide (r = 32 ∨ r = 9 ∨ r = 10) = B) (w : World) : Calls Tryd.prog 77 #[.int .i32 r] w fun e w' => e = .returned (.bool B) ∧ w' = w := by
  have HB := Lib.hid hB
  clear hB
  go_enter Tryd.func77, Tryd.ntmps77
  by_cases h32 : r = 32
  · have HH : Hid (B = true) := by show _ = _; rw [← HB.out]; exact decide_eq_true (.inl h32)
    have d1 : (r == 32) = true := beq_iff_eq.2 h32
    clear h32
    go_wp2
    go_ret
    exact ⟨by rw [HH.out]; rfl, rfl⟩
  · have d1 : (r == 32) = false := beq_eq_false_iff_ne.2 h32
    by_cases h9 : r = 9
    · have HH : Hid (B = true) := by show _ = _; rw [← HB.out]; exact decide_eq_true (.inr (.inl h9))
      have d2 : (r == 9) = true := beq_iff_eq.2 h9
      clear h32 h9
      go_wp2
      go_ret
      exact ⟨by rw [HH.out]; rfl, rfl⟩
    · have d2 : (r == 9) = false := beq_eq_false_iff_ne.2 h9
      by_cases h10 : r = 10
      · have HH : Hid (B = true) := by show _ = _; rw [← HB.out]; exact decide_eq_true (.inr (.inr h10))
        have d3 : (r == 10) = true := beq_iff_eq.2 h10
        clear h32 h9 h10
        go_wp2
        go_ret
        exact ⟨by rw [HH.out]; rfl, rfl⟩
      · have HH : Hid (B = false) := by show _ = _; rw [← HB.out]; exact decide_eq_false (by rintro (z | z | z) <;> first | exact h32 z | exact h9 z | exact h10 z)
        have d3 : (r == 10) = false := beq_eq_false_iff_ne.2 h10
        clear h32 h9 h10
        go_wp2
        go_ret
        exact ⟨by rw [HH.out]; rfl, rfl⟩

theorem parts_fn : Fence.wide.fn 77 := trivial
/-- What a round keeps: what is walked over, and the box of the text. -/
def KpW (Bn : Nat) (s : ByteArray) (W W' : World) : Prop := KeepsWalks W W' ∧ (Go.Boxed W Bn 9 (.string s) → Go.Boxed W' Bn 9 (.string s))
theorem kpW_t {Bn : Nat} {s : ByteArray} {A B C : World} (h : KpW Bn s A B) (k : KpW Bn s B C) : KpW Bn s A C := ⟨h.1.trans k.1, fun z => k.2 (h.2 z)⟩
theorem kpW_b {Bn : Nat} {s : ByteArray} {B : Nat} (W : World) (l : Nat) (o o' : Obj) (_ : B ≤ l) (h : W.heap[l]? = some o) (hc : o.isCells = false) (hw : o.isWalk = false) : KpW Bn s W (W.putObj l o') := by
  refine ⟨KeepsWalks.putObj _ h hw, fun z => ?_⟩
  by_cases e : Bn = l
  · subst e
    rw [show W.heap[Bn]? = _ from z] at h
    cases h
    cases hc
  · exact (World.putObj_heap_other e).trans z

set_option maxRecDepth 100000 in
set_option maxHeartbeats 4000000 in
theorem words_in (n : Nat) (hn : 1 ≤ n) (l Bn : Nat) (s : ByteArray) (hs : s.size ≤ 900000) (J Jx : List WV → World → Prop) (W : World) (hJ : AbidesFrom W.heap.size J)
    (hY : ∀ pre x W1, 1 ≤ x.ln → J pre W1 → pre.length < s.size + 1 → YieldAt Fence.wide (n - 1) Tryd.prog l #[x.val] W1 fun e W' =>
      (e = .returned (.bool true) ∧ J (pre ++ [x]) W' ∧ KpW Bn s W1 W') ∨ (e = .returned (.bool false) ∧ Jx (pre ++ [x]) W'))
    (hB : Go.Boxed W Bn 9 (.string s)) (h0 : J [] W) :
    CallsIn Fence.wide n Tryd.prog 76 #[.func (.yield l) #[] #[], .pointer (some ⟨Bn, 0, none⟩)] W fun e W' => (∃ v, e = .returned v) ∧
      ((∃ ys, ys = wordsOf s ∧ J ys W') ∨ (∃ pre, True ∧ Jx pre W')) := by
  have HY := Lib.hid hY
  have HJ := Lib.hid hJ
  have hb := hB.cell
  have HB0 := Lib.hid hB
  have H0 : Hid (J [] W) := h0
  clear hY hJ hB h0
  refine callsIn_of_wp Tryd.func76 rfl trivial ?_ rfl
  simp only [Tryd.ntmps76, List.size_toArray, List.length_cons, List.length_nil, Nat.reduceAdd, Nat.reduceSub, Array.replicate_succ, Array.replicate_zero, List.push_toArray, List.append_toArray, List.nil_append, List.cons_append]
  gi_wp2
  gi_loopw [3, 4, 5] (fun u v x wr => ∃ (p : Nat) (q : LS), p ≤ s.size ∧ u = .int .i64 q.ln ∧ v = .bool q.off ∧ x = .int .i64 q.fr ∧ 1 ≤ q.ln ∧ q.ln ≤ (p : Int) + 1 ∧ -1 ≤ q.fr ∧ q.fr < p ∧ Hid (wrun s p = q) ∧ Hid (J q.out wr) ∧ Hid (Go.Boxed wr Bn 9 (.string s)) ∧ Hid (wr.heap[W.heap.size]? = some (.stringIter s p))) (fun _ _ _ wr => s.size - wr.iterPos W.heap.size)
  case atStart =>
    exact ⟨0, ⟨[], 1, -1, false⟩, by omega, rfl, rfl, rfl, by simp, by simp, by simp, by simp, rfl, HJ.out _ _ _ none H0.out (World.grownBy_alloc W (.stringIter s 0) none) (fun r e => by cases e), HB0.out.alloc _, World.iter_heap W s 0⟩
  case round =>
    obtain ⟨p, q, hp, rfl, rfl, rfl, hl1, hl2, hf1, hf2, HQ, HJ1, HB1, HIT⟩ := hrel
    clear hb
    by_cases hlt : p < s.size
    · obtain ⟨r, wd, hd⟩ : ∃ r wd, Utf8.decode s p = (r, wd) := ⟨_, _, rfl⟩
      have hnx : ∀ ty, (Instr.next (.pointer (some ⟨W.heap.size, 0, none⟩)) true ty).run Tryd.prog wr = _ := fun ty => Lib.run_next_any_at wr W.heap.size s p ty HIT.out hlt
      simp only [hd] at hnx
      have HK := Lib.hid (rune_step s p hlt hd HQ.out)
      have HO := Lib.hid (wrun_rem s p)
      rw [HQ.out] at HO
      have hlen := (wrun_inv s p (by omega)).1
      rw [HQ.out] at hlen
      have HLEN : Hid (q.out.length < s.size + 1) := by show _ < _; omega
      have hw1 := HK.out.1
      have hw2 := HK.out.2.1
      have HJ2 : Hid (J q.out (wr.iterAt W.heap.size s (p + wd))) := HJ.out _ _ _ (some W.heap.size) HJ1.out (grownBy_putObj' wr W.heap.size _) (fun r e => by cases e; exact ⟨Nat.le_refl _, _, HIT.out, rfl⟩)
      have HI2 : Hid ((wr.iterAt W.heap.size s (p + wd)).heap[W.heap.size]? = some (.stringIter s (p + wd))) := Lib.iterAt_heap _ _ _ _ _ HIT.out
      have HB2 : Hid (Go.Boxed (wr.iterAt W.heap.size s (p + wd)) Bn 9 (.string s)) := by
        show _ = _
        rw [Lib.iterAt_other]
        · exact HB1.out
        · intro e
          have := HB1.out
          unfold Go.Boxed at this
          rw [e, HIT.out] at this
          cases this
      have hb := HB2.out.cell
      have hwl : IntKind.i64.wrap (q.ln + 1) = q.ln + 1 := IntWalk.i64_in _ (by omega)
      have hp0 : (0 : Int) ≤ (p : Int) := by omega
      have hp1 : (p : Int) ≤ (s.size : Int) := by omega
      clear hd hlen HJ1 HB1
      obtain ⟨out, ln, fr, off⟩ := q
      simp only [] at hl1 hl2 hf1 hf2 hwl
      by_cases hr10 : r = 10
      · have d1 : ((r : Int) == 35) = false := by rw [beq_eq_false_iff_ne]; omega
        have d2 : ((r : Int) == 10) = true := by rw [beq_iff_eq]; omega
        have d3 : ((r : Int) != 10) = false := by rw [bne, d2]; rfl
        have PT := Lib.hid (fun w => parts_any (r : Int) true (decide_eq_true (.inr (.inr (by omega)))) w)
        have HR := Lib.hid (HK.out.2.2.1 hr10)
        clear hr10
        cases off with
        | true =>
          obtain rfl : fr = -1 := HO.out rfl
          have HS : Hid (wrun s (p + wd) = ⟨out, ln + 1, -1, false⟩) := HR.out
          gi_wp2_with ((with_reducible refine And.intro (a := Fence.wide.fn 77) parts_fn ?_); first | (gi_at_call 77; (with_reducible refine (callsIn_wide.2 (PT.out _)).mono ?_); rintro e w' ⟨rfl, rfl⟩) | skip)
          go_roundw
          case rel => exact ⟨p + wd, ⟨out, ln + 1, -1, false⟩, by omega, rfl, rfl, rfl, by first | omega | (simp only []; omega), by first | omega | (simp only []; omega), by first | omega | (simp only []; omega), by first | omega | (simp only []; omega), HS, HJ2, HB2, HI2⟩
          case measure =>
            simp only [World.iterPos, HI2.out, HIT.out]
            omega
        | false =>
          rcases (show fr = -1 ∨ 0 ≤ fr by omega) with hfr | hfr
          · subst hfr
            have HS : Hid (wrun s (p + wd) = ⟨out, ln + 1, -1, false⟩) := HR.out
            gi_wp2_with ((with_reducible refine And.intro (a := Fence.wide.fn 77) parts_fn ?_); first | (gi_at_call 77; (with_reducible refine (callsIn_wide.2 (PT.out _)).mono ?_); rintro e w' ⟨rfl, rfl⟩) | skip)
            go_roundw
            case rel => exact ⟨p + wd, ⟨out, ln + 1, -1, false⟩, by omega, rfl, rfl, rfl, by first | omega | (simp only []; omega), by first | omega | (simp only []; omega), by first | omega | (simp only []; omega), by first | omega | (simp only []; omega), HS, HJ2, HB2, HI2⟩
            case measure =>
              simp only [World.iterPos, HI2.out, HIT.out]
              omega
          · have hfq : (fr == -1) = false := by rw [beq_eq_false_iff_ne]; omega
            have hfn : (fr != -1) = true := by rw [bne, hfq]; rfl
            have hf8 : fr ≤ (p : Int) := by omega
            have hf7 : ¬ fr < 0 := by omega
            obtain ⟨fn, tmps, assign, body, hy, hR⟩ := HY.out out ⟨fr, ln, s.extract fr.toNat p⟩ _ hl1 HJ2.out HLEN.out
            have hR := Lib.hid hR
            dsimp only [WV.val] at hy
            gi_wp2_with ((with_reducible refine And.intro (a := Fence.wide.fn 77) parts_fn ?_); first | (gi_at_call 77; (with_reducible refine (callsIn_wide.2 (PT.out _)).mono ?_); rintro e w' ⟨rfl, rfl⟩) | skip)
            refine hR.out.mono ?_
            rintro e W3 (⟨rfl, hJ3, hk3⟩ | ⟨rfl, hJx3⟩)
            · have HJ3 : Hid (J (out ++ [⟨fr, ln, s.extract fr.toNat p⟩]) W3) := hJ3
              have HB3 : Hid (Go.Boxed W3 Bn 9 (.string s)) := hk3.2 HB2.out
              have HI3 : Hid (W3.heap[W.heap.size]? = some (.stringIter s (p + wd))) := hk3.1.same _ _ HI2.out rfl
              have HS : Hid (wrun s (p + wd) = ⟨out ++ [⟨fr, ln, s.extract fr.toNat p⟩], ln + 1, -1, false⟩) := (by show _ = _; rw [HR.out]; unfold told; simp only []; rw [if_neg (by omega)])
              clear hJ3 hk3 hy
              gi_wp2
              go_roundw
              case rel => exact ⟨p + wd, ⟨out ++ [⟨fr, ln, s.extract fr.toNat p⟩], ln + 1, -1, false⟩, by omega, rfl, rfl, rfl, by first | omega | (simp only []; omega), by first | omega | (simp only []; omega), by first | omega | (simp only []; omega), by first | omega | (simp only []; omega), HS, HJ3, HB3, HI3⟩
              case measure =>
                simp only [World.iterPos, HI3.out, HIT.out]
                omega
            · have HJx : Hid (Jx (out ++ [⟨fr, ln, s.extract fr.toNat p⟩]) W3) := hJx3
              clear hJx3 hy
              gi_wp2
              refine bodyPost_ret (results_none rfl _ _ _) rfl ?_
              exact ⟨⟨_, rfl⟩, .inr ⟨_, trivial, HJx.out⟩⟩
      · by_cases hr35 : r = 35
        · have d1 : ((r : Int) == 35) = true := by rw [beq_iff_eq]; omega
          have d2 : ((r : Int) == 10) = false := by rw [beq_eq_false_iff_ne]; omega
          have d3 : ((r : Int) != 10) = true := by rw [bne, d2]; rfl
          have HR := Lib.hid (HK.out.2.2.2.1 hr10 (.inr hr35))
          have PT : Hid True := trivial
          clear hr10 hr35
          rcases (show fr = -1 ∨ 0 ≤ fr by omega) with hfr | hfr
          · subst hfr
            have HS : Hid (wrun s (p + wd) = ⟨out, ln, -1, true⟩) := HR.out
            gi_wp2_with ((with_reducible refine And.intro (a := Fence.wide.fn 77) parts_fn ?_); first | (gi_at_call 77; (with_reducible refine (callsIn_wide.2 (PT.out _)).mono ?_); rintro e w' ⟨rfl, rfl⟩) | skip)
            go_roundw
            case rel => exact ⟨p + wd, ⟨out, ln, -1, true⟩, by omega, rfl, rfl, rfl, by first | omega | (simp only []; omega), by first | omega | (simp only []; omega), by first | omega | (simp only []; omega), by first | omega | (simp only []; omega), HS, HJ2, HB2, HI2⟩
            case measure =>
              simp only [World.iterPos, HI2.out, HIT.out]
              omega
          · have hfq : (fr == -1) = false := by rw [beq_eq_false_iff_ne]; omega
            have hfn : (fr != -1) = true := by rw [bne, hfq]; rfl
            have hf8 : fr ≤ (p : Int) := by omega
            have hf7 : ¬ fr < 0 := by omega
            obtain ⟨fn, tmps, assign, body, hy, hR⟩ := HY.out out ⟨fr, ln, s.extract fr.toNat p⟩ _ hl1 HJ2.out HLEN.out
            have hR := Lib.hid hR
            dsimp only [WV.val] at hy
            gi_wp2_with ((with_reducible refine And.intro (a := Fence.wide.fn 77) parts_fn ?_); first | (gi_at_call 77; (with_reducible refine (callsIn_wide.2 (PT.out _)).mono ?_); rintro e w' ⟨rfl, rfl⟩) | skip)
            refine hR.out.mono ?_
            rintro e W3 (⟨rfl, hJ3, hk3⟩ | ⟨rfl, hJx3⟩)
            · have HJ3 : Hid (J (out ++ [⟨fr, ln, s.extract fr.toNat p⟩]) W3) := hJ3
              have HB3 : Hid (Go.Boxed W3 Bn 9 (.string s)) := hk3.2 HB2.out
              have HI3 : Hid (W3.heap[W.heap.size]? = some (.stringIter s (p + wd))) := hk3.1.same _ _ HI2.out rfl
              have HS : Hid (wrun s (p + wd) = ⟨out ++ [⟨fr, ln, s.extract fr.toNat p⟩], ln, -1, true⟩) := (by show _ = _; rw [HR.out]; unfold told; simp only []; rw [if_neg (by omega)])
              clear hJ3 hk3 hy
              gi_wp2
              go_roundw
              case rel => exact ⟨p + wd, ⟨out ++ [⟨fr, ln, s.extract fr.toNat p⟩], ln, -1, true⟩, by omega, rfl, rfl, rfl, by first | omega | (simp only []; omega), by first | omega | (simp only []; omega), by first | omega | (simp only []; omega), by first | omega | (simp only []; omega), HS, HJ3, HB3, HI3⟩
              case measure =>
                simp only [World.iterPos, HI3.out, HIT.out]
                omega
            · have HJx : Hid (Jx (out ++ [⟨fr, ln, s.extract fr.toNat p⟩]) W3) := hJx3
              clear hJx3 hy
              gi_wp2
              refine bodyPost_ret (results_none rfl _ _ _) rfl ?_
              exact ⟨⟨_, rfl⟩, .inr ⟨_, trivial, HJx.out⟩⟩
        · have d1 : ((r : Int) == 35) = false := by rw [beq_eq_false_iff_ne]; omega
          have d2 : ((r : Int) == 10) = false := by rw [beq_eq_false_iff_ne]; omega
          have d3 : ((r : Int) != 10) = true := by rw [bne, d2]; rfl
          cases off with
          | true =>
            obtain rfl : fr = -1 := HO.out rfl
            have HR := Lib.hid (HK.out.2.2.2.1 hr10 (.inl rfl))
            have PT : Hid True := trivial
            clear hr10 hr35
            have HS : Hid (wrun s (p + wd) = ⟨out, ln, -1, true⟩) := HR.out
            gi_wp2_with ((with_reducible refine And.intro (a := Fence.wide.fn 77) parts_fn ?_); first | (gi_at_call 77; (with_reducible refine (callsIn_wide.2 (PT.out _)).mono ?_); rintro e w' ⟨rfl, rfl⟩) | skip)
            go_roundw
            case rel => exact ⟨p + wd, ⟨out, ln, -1, true⟩, by omega, rfl, rfl, rfl, by first | omega | (simp only []; omega), by first | omega | (simp only []; omega), by first | omega | (simp only []; omega), by first | omega | (simp only []; omega), HS, HJ2, HB2, HI2⟩
            case measure =>
              simp only [World.iterPos, HI2.out, HIT.out]
              omega
          | false =>
            by_cases hbl : r = 32 ∨ r = 9
            · have HR := Lib.hid (HK.out.2.2.2.2.1 rfl hbl)
              have PT := Lib.hid (fun w => parts_any (r : Int) true (decide_eq_true (by omega)) w)
              clear hr10 hr35 hbl
              rcases (show fr = -1 ∨ 0 ≤ fr by omega) with hfr | hfr
              · subst hfr
                have HS : Hid (wrun s (p + wd) = ⟨out, ln, -1, false⟩) := HR.out
                gi_wp2_with ((with_reducible refine And.intro (a := Fence.wide.fn 77) parts_fn ?_); first | (gi_at_call 77; (with_reducible refine (callsIn_wide.2 (PT.out _)).mono ?_); rintro e w' ⟨rfl, rfl⟩) | skip)
                go_roundw
                case rel => exact ⟨p + wd, ⟨out, ln, -1, false⟩, by omega, rfl, rfl, rfl, by first | omega | (simp only []; omega), by first | omega | (simp only []; omega), by first | omega | (simp only []; omega), by first | omega | (simp only []; omega), HS, HJ2, HB2, HI2⟩
                case measure =>
                  simp only [World.iterPos, HI2.out, HIT.out]
                  omega
              · have hfq : (fr == -1) = false := by rw [beq_eq_false_iff_ne]; omega
                have hfn : (fr != -1) = true := by rw [bne, hfq]; rfl
                have hf8 : fr ≤ (p : Int) := by omega
                have hf7 : ¬ fr < 0 := by omega
                obtain ⟨fn, tmps, assign, body, hy, hR⟩ := HY.out out ⟨fr, ln, s.extract fr.toNat p⟩ _ hl1 HJ2.out HLEN.out
                have hR := Lib.hid hR
                dsimp only [WV.val] at hy
                gi_wp2_with ((with_reducible refine And.intro (a := Fence.wide.fn 77) parts_fn ?_); first | (gi_at_call 77; (with_reducible refine (callsIn_wide.2 (PT.out _)).mono ?_); rintro e w' ⟨rfl, rfl⟩) | skip)
                refine hR.out.mono ?_
                rintro e W3 (⟨rfl, hJ3, hk3⟩ | ⟨rfl, hJx3⟩)
                · have HJ3 : Hid (J (out ++ [⟨fr, ln, s.extract fr.toNat p⟩]) W3) := hJ3
                  have HB3 : Hid (Go.Boxed W3 Bn 9 (.string s)) := hk3.2 HB2.out
                  have HI3 : Hid (W3.heap[W.heap.size]? = some (.stringIter s (p + wd))) := hk3.1.same _ _ HI2.out rfl
                  have HS : Hid (wrun s (p + wd) = ⟨out ++ [⟨fr, ln, s.extract fr.toNat p⟩], ln, -1, false⟩) := (by show _ = _; rw [HR.out]; unfold told; simp only []; rw [if_neg (by omega)])
                  clear hJ3 hk3 hy
                  gi_wp2
                  go_roundw
                  case rel => exact ⟨p + wd, ⟨out ++ [⟨fr, ln, s.extract fr.toNat p⟩], ln, -1, false⟩, by omega, rfl, rfl, rfl, by first | omega | (simp only []; omega), by first | omega | (simp only []; omega), by first | omega | (simp only []; omega), by first | omega | (simp only []; omega), HS, HJ3, HB3, HI3⟩
                  case measure =>
                    simp only [World.iterPos, HI3.out, HIT.out]
                    omega
                · have HJx : Hid (Jx (out ++ [⟨fr, ln, s.extract fr.toNat p⟩]) W3) := hJx3
                  clear hJx3 hy
                  gi_wp2
                  refine bodyPost_ret (results_none rfl _ _ _) rfl ?_
                  exact ⟨⟨_, rfl⟩, .inr ⟨_, trivial, HJx.out⟩⟩
            · have HR := Lib.hid (HK.out.2.2.2.2.2 rfl hr10 hr35 (fun z => hbl (.inl z)) (fun z => hbl (.inr z)))
              have PT := Lib.hid (fun w => parts_any (r : Int) false (decide_eq_false (by omega)) w)
              clear hr10 hr35 hbl
              rcases (show fr = -1 ∨ 0 ≤ fr by omega) with hfr | hfr
              · subst hfr
                have HS : Hid (wrun s (p + wd) = ⟨out, ln, (p : Int), false⟩) := HR.out
                gi_wp2_with ((with_reducible refine And.intro (a := Fence.wide.fn 77) parts_fn ?_); first | (gi_at_call 77; (with_reducible refine (callsIn_wide.2 (PT.out _)).mono ?_); rintro e w' ⟨rfl, rfl⟩) | skip)
                go_roundw
                case rel => exact ⟨p + wd, ⟨out, ln, (p : Int), false⟩, by omega, rfl, rfl, rfl, by first | omega | (simp only []; omega), by first | omega | (simp only []; omega), by first | omega | (simp only []; omega), by first | omega | (simp only []; omega), HS, HJ2, HB2, HI2⟩
                case measure =>
                  simp only [World.iterPos, HI2.out, HIT.out]
                  omega
              · have hfq : (fr == -1) = false := by rw [beq_eq_false_iff_ne]; omega
                have hfn : (fr != -1) = true := by rw [bne, hfq]; rfl
                have hf8 : fr ≤ (p : Int) := by omega
                have hf7 : ¬ fr < 0 := by omega
                have HS : Hid (wrun s (p + wd) = ⟨out, ln, fr, false⟩) := (by show _ = _; rw [HR.out]; simp only []; rw [if_neg (by omega)])
                gi_wp2_with ((with_reducible refine And.intro (a := Fence.wide.fn 77) parts_fn ?_); first | (gi_at_call 77; (with_reducible refine (callsIn_wide.2 (PT.out _)).mono ?_); rintro e w' ⟨rfl, rfl⟩) | skip)
                go_roundw
                case rel => exact ⟨p + wd, ⟨out, ln, fr, false⟩, by omega, rfl, rfl, rfl, by first | omega | (simp only []; omega), by first | omega | (simp only []; omega), by first | omega | (simp only []; omega), by first | omega | (simp only []; omega), HS, HJ2, HB2, HI2⟩
                case measure =>
                  simp only [World.iterPos, HI2.out, HIT.out]
                  omega
    · obtain rfl : p = s.size := by omega
      have hnx : ∀ ty, (Instr.next (.pointer (some ⟨W.heap.size, 0, none⟩)) true ty).run Tryd.prog wr = _ := fun ty => Lib.run_next_end_at wr W.heap.size s s.size ty HIT.out hlt
      have HE := Lib.hid (rune_end s HQ.out)
      have hlen := (wrun_inv s s.size (by omega)).1
      rw [HQ.out] at hlen
      have HLEN : Hid (q.out.length < s.size + 1) := by show _ < _; omega
      have hb := HB1.out.cell
      clear hlen hlt hp
      obtain ⟨out, ln, fr, off⟩ := q
      simp only [] at hl1 hl2 hf1 hf2
      rcases (show fr = -1 ∨ 0 ≤ fr by omega) with hfr | hfr
      · subst hfr
        have HF : Hid (J (wordsOf s) wr) := by show J (wordsOf s) wr; rw [HE.out]; exact HJ1.out
        gi_wp2
        go_end0
        first | exact ⟨⟨_, rfl⟩, .inl ⟨_, rfl, HF.out⟩⟩ | exact ⟨⟨_, rfl⟩, .inl HF.out⟩
      · have hfq : (fr == -1) = false := by rw [beq_eq_false_iff_ne]; omega
        have hfn : (fr != -1) = true := by rw [bne, hfq]; rfl
        have hf8 : fr ≤ (s.size : Int) := by omega
        have hf7 : ¬ fr < 0 := by omega
        have HF : Hid (wordsOf s = out ++ [⟨fr, ln, s.extract fr.toNat s.size⟩]) := by show _ = _; rw [HE.out]; unfold told; simp only []; rw [if_neg (by omega)]
        obtain ⟨fn, tmps, assign, body, hy, hR⟩ := HY.out out ⟨fr, ln, s.extract fr.toNat s.size⟩ _ hl1 HJ1.out HLEN.out
        have hR := Lib.hid hR
        dsimp only [WV.val] at hy
        gi_wp2
        refine hR.out.mono ?_
        rintro e W3 (⟨rfl, hJ3, hk3⟩ | ⟨rfl, hJx3⟩)
        · have HG : Hid (J (wordsOf s) W3) := by show J _ _; rw [HF.out]; exact hJ3
          clear hJ3 hk3 hy
          gi_wp2
          go_end0
          first | exact ⟨⟨_, rfl⟩, .inl ⟨_, rfl, HG.out⟩⟩ | exact ⟨⟨_, rfl⟩, .inl HG.out⟩
        · have HG : Hid (Jx (out ++ [⟨fr, ln, s.extract fr.toNat s.size⟩]) W3) := hJx3
          clear hJx3 hy
          gi_wp2
          go_end0
          first | exact ⟨⟨_, rfl⟩, .inr ⟨_, trivial, HG.out⟩⟩ | exact ⟨⟨_, rfl⟩, .inr ⟨_, HG.out⟩⟩
end Go.Proofs.YtlpffgmfgkleiaaDoor

/-
  The walk over a text's words, collected in a row.
-/
namespace Go.Proofs.YtlpffgmfgkleiaaDoor
open Go.RowKit Go.Maps Go.Shelf
attribute [local go_sem] Oper.semAt_some

theorem words_stops (n : Nat) (hn : 1 ≤ n) (Bn : Nat) (s : ByteArray) (hs : s.size ≤ 900000) (w : World) (hB : Go.Boxed w Bn 9 (.string s)) :
    SeqStopsK Fence.wide n Tryd.prog 76 #[.pointer (some ⟨Bn, 0, none⟩)] (fun x : WV => #[x.val]) (KpW Bn s) (fun ys => ys = wordsOf s) (fun _ => True) (s.size + 1) w :=
  fun l J Jx W hW hJ _ hY h0 => words_in n hn l Bn s hs J Jx W hJ (fun pre x W1 _ h hl => hY pre x W1 h hl) (kept_obj hW hB) h0
/-- Where a text's function value lies. -/
theorem words_val (s : ByteArray) (n : Nat) (w : World) :
    CallsIn Fence.wide n Tryd.prog 57 #[.string s] w fun e w' => e = .returned (.func (.func 76) #[] #[.pointer (some ⟨w.heap.size, 0, none⟩)]) ∧ w' = w.alloc (.cells #[.string s] 9) := by
  have hmf : ∀ (fn : Fn) (first cap : Array Value) (w : World), (Instr.makeFunc fn first cap).run Tryd.prog w = .ok (.func fn first cap) w := fun _ _ _ _ => rfl
  refine callsIn_of_wp Tryd.func57 rfl trivial ?_ rfl
  simp only [Tryd.ntmps57, List.size_toArray, List.length_cons, List.length_nil, Nat.reduceAdd, Nat.reduceSub, Array.replicate_succ, Array.replicate_zero, List.push_toArray, List.append_toArray, List.nil_append, List.cons_append]
  gi_wp2
  go_ret
  exact ⟨rfl, rfl⟩
theorem keepsWalks_of {W W' : World} (h : KeepsOthers W W') : KeepsWalks W W' := ⟨h.size, fun k o hk ho => h.same k o hk (Obj.not_cells_of_walk ho)⟩
theorem wnews_of {w : World} {x : Addr} {l : List WV} (hv : WView w (some x) l) : ∀ j u, (wflat l)[j]? = some u → w.cell? (x.add j) = some u := by
  intro j u hj
  rcases hv with rfl | ⟨g, o, e, hc⟩
  · simp [wflat] at hj
  · cases e
    rw [addr_at]; exact hc j u hj
/-- A word in a box of a round's own. -/
def BoxW (W : World) (B : Nat) (x : WV) : Prop := W.heap[B]? = some (.cells #[.int .i64 x.at_, .int .i64 x.ln, .string x.tx] WT (0, 0))
theorem BoxW.wat {W : World} {B : Nat} {x : WV} (h : BoxW W B x) : WAt W B 0 x := ⟨by rw [blk_cell h]; rfl, by rw [blk_cell h]; rfl, by rw [blk_cell h]; rfl⟩
theorem BoxW.own {B : Nat} {x : WV} : Own (fun (_ : Unit) W => BoxW W B x) := fun s X Y row hs hg hrow => by
  refine (hg.block B (lt_of_block hs) (fun e => ?_)).trans hs
  obtain ⟨o, ho, hc⟩ := hrow B e.symm
  rw [show X.heap[B]? = _ from hs] at ho
  cases ho
  cases hc

end Go.Proofs.YtlpffgmfgkleiaaDoor

/-
  The walks over digits, as the program writes them; what is asked of all words at the beginning.
-/
namespace Go.Proofs.YtlpffgmfgkleiaaDoor
open Go.RowKit Go.Maps

/-- The table of the powers of ten. -/
def PT (w : World) : Prop := Lib.TabIs Tryd.prog w "internal/strconv.uint64pow10" .u64 Lib.pow10Tab
theorem PT.below {w w' : World} (h : PT w) (hb : Below w.heap.size w w') : PT w' := Lib.tabBelow_of_tabIs h w' hb
theorem upOf_dec (n : Nat) : upOf n = ⟨(Lib.decDigits n).toArray⟩ := by
  induction n using Nat.strongRecOn with
  | _ n ih =>
    by_cases h : n < 10
    · rw [upOf_small h, Lib.decDigits, dif_pos h]
    · rw [upOf_more h, Lib.decDigits, dif_neg h, ih (n / 10) (by omega)]
      apply ByteArray.ext
      rw [ByteArray.data_append]
      simp
theorem digOf_itoa (n : Int) : (⟨(Lib.itoa n).toArray⟩ : ByteArray) = digOf n := by
  unfold Lib.itoa digOf
  split
  · rw [upOf_dec]
    apply ByteArray.ext
    rw [ByteArray.data_append]
    simp
  · rw [upOf_dec, show n.natAbs = n.toNat by omega]
theorem digits_any (n : Int) (hn : I64 n) (w : World) (hT : PT w) : Calls Tryd.prog 30 #[.int .i64 n] w fun e w' => e = .returned (.string (digOf n)) ∧ Below w.heap.size w w' := by
  have C := Lib.hid (Tryd.strconv_FormatInt_10 n hn.1 hn.2 w hT)
  rw [digOf_itoa] at C
  generalize digOf n = s at C ⊢
  clear hT
  go_enter Tryd.func30, Tryd.ntmps30
  go_wp2_with (go_at_call 52; (with_reducible refine C.out.mono ?_); rintro e w' ⟨rfl, hw⟩)
  go_ret
  obtain ⟨k, os, rfl⟩ := hw
  exact ⟨rfl, Lib.below_grow _ _ (Nat.le_refl _) k os⟩
theorem digits_12 (w : World) : Calls Tryd.prog 30 #[.int .i64 12] w fun e w' => e = .returned (.string ⟨#[49, 50]⟩) ∧ Below w.heap.size w w' := by
  have C := Lib.hid (Tryd.strconv_FormatInt_10_small 12 (by decide) w)
  rw [show Lib.decDigits 12 = [49, 50] by rw [Lib.decDigits, dif_neg (by decide), Lib.decDigits, dif_pos (by decide)]; rfl] at C
  go_enter Tryd.func30, Tryd.ntmps30
  go_wp2_with (go_at_call 52; (refine C.out.mono ?_); rintro e w' ⟨rfl, rfl⟩)
  go_ret
  exact ⟨rfl, Below.refl _ _⟩

/-- The words of the chapter's example. -/
def exWords : List WV := [⟨0, 1, ⟨#[97]⟩⟩, ⟨3, 1, ⟨#[98]⟩⟩, ⟨7, 2, ⟨#[100]⟩⟩]
theorem exWords_is : wordsOf ⟨#[97, 32, 32, 98, 35, 99, 10, 100]⟩ = exWords := by decide +kernel
theorem ex_view (w : World) : WView (w.alloc (.cells #[.int .i64 0, .int .i64 1, .string ⟨#[97]⟩, .int .i64 3, .int .i64 1, .string ⟨#[98]⟩, .int .i64 7, .int .i64 2, .string ⟨#[100]⟩] WT)) (some ⟨w.heap.size, 0, none⟩) exWords :=
  .inr ⟨_, 0, rfl, fun j u hj => by
    rw [World.cell?_alloc_new]
    match j, hj with
    | 0, hj => exact hj
    | 1, hj => exact hj
    | 2, hj => exact hj
    | 3, hj => exact hj
    | 4, hj => exact hj
    | 5, hj => exact hj
    | 6, hj => exact hj
    | 7, hj => exact hj
    | 8, hj => exact hj
    | j + 9, hj => simp [exWords, wflat, WV.cells] at hj⟩
end Go.Proofs.YtlpffgmfgkleiaaDoor

/-
  The walk over numbers put together, as the program does.
-/
namespace Go.Proofs.YtlpffgmfgkleiaaDoor
open Go.RowKit Go.Maps

abbrev Bld (B : Nat) (t : ByteArray) (w : World) : Prop := Lib.IsBuilderF 79 5 B B (Lib.byteCells t.data.toList) w
theorem grown_of {w w' : World} (h : Below w.heap.size w w') : w.grownBy w' none := ⟨h.os, h.tape, h.output, h.size, fun k hk _ => h.block k hk⟩
theorem atF_below {T e : TypeId} {B b : Nat} {p : Value} {bs : List Value} {w w' : World} (h : Lib.BuilderAtF T e B b p bs w) (hb : Below w.heap.size w w') : Lib.BuilderAtF T e B b p bs w' := by
  obtain ⟨h1, v, h2, h3, h4⟩ := h
  refine ⟨h1, v, kept_obj hb h2, h3.kept (grown_of hb) ?_, h4⟩
  cases v.ownBlock with
  | none => exact .inl rfl
  | some k => exact .inr (by simp)
theorem bld_below {B : Nat} {t : ByteArray} {w w' : World} (h : Bld B t w) (hb : Below w.heap.size w w') : Bld B t w' := h.elim (fun x => .inl (atF_below x hb)) (fun x => .inr (atF_below x hb))
theorem list_size (t : ByteArray) : t.data.toList.length = t.size := by simp
theorem bld_comma {B : Nat} {t : ByteArray} {w : World} (h : Bld B t w) (ht : t.size ≤ 1000000000) (hB : B ≤ w.heap.size) : Calls Tryd.prog 74 #[.pointer (some ⟨B, 0, none⟩), .int .u8 44] w fun e w' =>
    e = .returned .nilIface ∧ Bld B (t ++ ⟨#[44]⟩) w' ∧ Below B w w' :=
  (Any.Builder_WriteByte_k Tryd.buildLays167 Tryd.buildExtra B B (Lib.byteCells t.data.toList) 44 w h (by rw [Lib.byteCells_length, list_size]; omega) hB).mono fun e w' ⟨h1, h2, h3, _⟩ => ⟨h1, .inr (by rw [ByteArray.data_append, Array.toList_append, Lib.byteCells_append]; exact h2), h3⟩
theorem bld_text {B : Nat} {t : ByteArray} {w : World} (h : Bld B t w) (u : ByteArray) (ht : t.size + u.size ≤ 1000000000) (hB : B ≤ w.heap.size) : Calls Tryd.prog 29 #[.pointer (some ⟨B, 0, none⟩), .string u] w fun e w' =>
    ∃ v, e = .returned v ∧ Bld B (t ++ u) w' ∧ Below B w w' :=
  (Any.Builder_WriteString_k Tryd.buildLays166 Tryd.buildExtra B B (Lib.byteCells t.data.toList) u w h (by rw [Lib.byteCells_length, list_size]; omega) hB).mono fun e w' ⟨h1, h2, h3, _⟩ => ⟨_, h1, .inr (by rw [ByteArray.data_append, Array.toList_append, Lib.byteCells_append]; exact h2), h3⟩
theorem bld_string {B : Nat} {t : ByteArray} {w : World} (h : Bld B t w) (hB : B ≤ w.heap.size) : Calls Tryd.prog 32 #[.pointer (some ⟨B, 0, none⟩)] w fun e w' =>
    e = .returned (.string t) ∧ Below B w w' :=
  (Tryd.Builder_String_any_k B B t.data.toList w h hB).mono fun e w' ⟨h1, _, h3, _⟩ => ⟨by rw [h1], h3⟩

set_option maxRecDepth 100000 in
set_option maxHeartbeats 4000000 in
theorem join_any (a : Option Addr) (n cap : Nat) (l : List Int) (hl : l.length = n) (hn : n ≤ 1000000) (hw : ∀ x ∈ l, I64 x) (w : World) (h : Ints w a l) (hT : PT w) : Calls Tryd.prog 54 #[.slice a n cap] w fun e w' => e = .returned (.string (joinOf l)) ∧ Below w.heap.size w w' := by
  have H := Lib.hid h
  have HL := Lib.hid hl
  have HW := Lib.hid hw
  have HT : Hid (PT w) := hT
  clear h hl hw hT
  go_enter Tryd.func54, Tryd.ntmps54
  go_wp2
  go_loopw [8] (fun u wr => ∃ (i : Nat) (t : ByteArray), i ≤ n ∧ u = .int .i64 i ∧ Hid (jrun l i = t) ∧ Hid (Below w.heap.size w wr) ∧ Hid (Bld w.heap.size t wr)) (fun u _ => (n - intOf u).toNat)
  case atStart => exact ⟨0, ⟨#[]⟩, by omega, rfl, rfl, (Below.refl _ w).alloc (Nat.le_refl _) _, Lib.IsBuilderF.of (Lib.fresh_isBuilder _ _ w)⟩
  case round =>
    obtain ⟨i, t, hi, rfl, HJ, HB, HP⟩ := hrel
    by_cases hlt : i < n
    · obtain ⟨x, hx⟩ := nth_of HL.out hlt
      obtain ⟨g, o, rfl, hc⟩ := (H.out.below HB.out).at_ hx
      have hxI := HW.out x (List.mem_of_getElem? hx)
      have HTB : Hid (PT wr) := HT.out.below HB.out
      have hsz := jrun_size l HW.out i
      rw [HJ.out] at hsz
      have hds := digOf_size x hxI
      obtain ⟨d, hd⟩ : ∃ d, digOf x = d := ⟨_, rfl⟩
      have HD := Lib.hid (fun w hT => digits_any x hxI w hT)
      rw [hd] at HD hds
      have hpl : (i : Int) < (n : Int) := by omega
      have hwi : IntKind.i64.wrap ((i : Int) + 1) = (i : Int) + 1 := IntWalk.i64_in _ (by omega)
      have hwB := HB.out.size
      by_cases h0 : i = 0
      · have hp0 : ¬ (0 : Int) < (i : Int) := by omega
        have HJ2 : Hid (jrun l (i + 1) = t ++ d) := by show _ = _; rw [jrun, if_pos h0, hx, HJ.out]; simp only [Option.getD_some]; rw [hd]
        have HSZ : Hid (t.size + d.size ≤ 1000000000) := by show _ ≤ _; omega
        clear h0 hd hsz hds hx
        go_wp2_with (first
          | (go_at_call 30; (with_reducible refine (HD.out _ HTB.out).mono ?_); rintro e w1 ⟨rfl, b1⟩; have B1 := Lib.hid b1; have P1 := Lib.hid (bld_below HP.out b1); have S1 := b1.size; clear b1)
          | (go_at_call 29; (with_reducible refine (bld_text P1.out d HSZ.out (Nat.le_trans hwB S1)).mono ?_); rintro e w2 ⟨v, rfl, p2, b2⟩; have B2 := Lib.hid b2; have P2 := Lib.hid p2; clear b2 p2))
        go_roundw
        case rel => exact ⟨i + 1, t ++ d, by omega, by go_num, HJ2, (below_up HB.out B1.out).trans B2.out, P2⟩
        case measure => simp [intOf]; omega
      · have hp0 : (0 : Int) < (i : Int) := by omega
        have hns : (⟨#[44]⟩ : ByteArray).size = 1 := rfl
        have HJ2 : Hid (jrun l (i + 1) = t ++ ⟨#[44]⟩ ++ d) := by show _ = _; rw [jrun, if_neg h0, hx, HJ.out]; simp only [Option.getD_some]; rw [hd]
        have HSZ : Hid ((t ++ ⟨#[44]⟩).size + d.size ≤ 1000000000) := by show _ ≤ _; rw [ByteArray.size_append, hns]; omega
        have HS0 : Hid (t.size ≤ 1000000000) := by show _ ≤ _; omega
        clear h0 hd hsz hds hx
        go_wp2_with (first
          | (go_at_call 74; (with_reducible refine (bld_comma HP.out HS0.out hwB).mono ?_); rintro e w0 ⟨rfl, p0, b0⟩; have B0 := Lib.hid b0; have P0 := Lib.hid p0; have S0 := b0.size; have T0 := Lib.hid (HT.out.below (HB.out.trans b0)); clear b0 p0)
          | (go_at_call 30; (with_reducible refine (HD.out _ T0.out).mono ?_); rintro e w1 ⟨rfl, b1⟩; have B1 := Lib.hid b1; have P1 := Lib.hid (bld_below P0.out b1); have S1 := b1.size; clear b1)
          | (go_at_call 29; (with_reducible refine (bld_text P1.out d HSZ.out (Nat.le_trans hwB (Nat.le_trans S0 S1))).mono ?_); rintro e w2 ⟨v, rfl, p2, b2⟩; have B2 := Lib.hid b2; have P2 := Lib.hid p2; clear b2 p2))
        go_roundw
        case rel => exact ⟨i + 1, t ++ ⟨#[44]⟩ ++ d, by omega, by go_num, HJ2, ((HB.out.trans B0.out).trans (B1.out.mono (Nat.le_trans hwB S0))).trans B2.out, P2⟩
        case measure => simp [intOf]; omega
    · obtain rfl : i = n := by omega
      have HF : Hid (joinOf l = t) := by show _ = _; unfold joinOf; rw [HL.out, HJ.out]
      have hwB := HB.out.size
      go_wp2_with (go_at_call 32; (with_reducible refine (bld_string HP.out hwB).mono ?_); rintro e w2 ⟨rfl, b2⟩; have B2 := Lib.hid b2; clear b2)
      go_ret
      exact ⟨by rw [HF.out]; rfl, HB.out.trans B2.out⟩
end Go.Proofs.YtlpffgmfgkleiaaDoor

/-
  Rows of texts: what lies in memory; a text put behind one's own; texts joined.
-/
namespace Go.Proofs.YtlpffgmfgkleiaaDoor
open Go.RowKit Go.Maps

def Strs (w : World) (a : Option Addr) (l : List ByteArray) : Prop := l = [] ∨ ∃ g o, a = some ⟨g, o, none⟩ ∧ ∀ j u, l[j]? = some u → w.cell? ⟨g, o + j, none⟩ = some (.string u)
def vz (l : List ByteArray) : List Value := l.map .string
theorem vz_len (l : List ByteArray) : (vz l).length = l.length := by simp [vz]
theorem vz_at {l : List ByteArray} {j : Nat} {u : ByteArray} (h : l[j]? = some u) : (vz l)[j]? = some (.string u) := by simp [vz, h]
theorem vz_one (l : List ByteArray) : ∀ u ∈ vz l, u.oneCell' = true := by
  intro u hu
  obtain ⟨_, _, rfl⟩ := List.mem_map.1 hu
  rfl
/-- A row of texts of one's own. -/
def OwnZ (w : World) (B : Nat) (v : Value) (l : List ByteArray) : Prop := w.ownsRow B 9 1 v l.length (vz l)
theorem OwnZ.slice {w : World} {B : Nat} {v : Value} {l : List ByteArray} (h : OwnZ w B v l) : ∃ a cap, v = .slice a l.length cap ∧ Strs w a l ∧ l.length ≤ cap := by
  rcases h.2 with ⟨rfl, h0⟩ | ⟨g, cap, cur, rfl, _, h3, h1, h2, h4, h5⟩
  · exact ⟨none, 0, by rw [h0], .inl (List.length_eq_zero_iff.1 h0), by omega⟩
  · refine ⟨_, cap, rfl, .inr ⟨g, 0, rfl, fun j u hj => ?_⟩, h1⟩
    rw [Nat.zero_add, blk_cell h3]
    have := vz_at hj
    rw [← h5, List.getElem?_take] at this
    split at this
    · simpa using this
    · cases this
theorem OwnZ.below {w w' : World} {B : Nat} {v : Value} {l : List ByteArray} (h : OwnZ w B v l) (hb : Below w.heap.size w w') : OwnZ w' B v l := by
  rcases h with ⟨h0, h | ⟨g, cap, cur, rfl, hB, h3, r⟩⟩
  · exact ⟨h0, .inl h⟩
  · exact ⟨h0, .inr ⟨g, cap, cur, rfl, hB, kept_obj hb h3, r⟩⟩
theorem strs_new (w : World) (x : ByteArray) (T : TypeId) : Strs (w.alloc (.cells #[.string x] T)) (some ⟨w.heap.size, 0, none⟩) [x] :=
  .inr ⟨_, 0, rfl, fun j u hj => by
    match j, hj with
    | 0, hj => simp at hj; subst hj; rw [World.cell?_alloc_new]; rfl
    | j + 1, hj => simp at hj⟩
theorem ownz_six (w : World) (x0 x1 x2 x3 x4 x5 : ByteArray) : OwnZ (w.alloc (.cells #[.string x0, .string x1, .string x2, .string x3, .string x4, .string x5] 9)) w.heap.size (.slice (some ⟨w.heap.size, 0, none⟩) 6 6) [x0, x1, x2, x3, x4, x5] :=
  ⟨rfl, .inr ⟨w.heap.size, 6, #[.string x0, .string x1, .string x2, .string x3, .string x4, .string x5], rfl, Nat.le_refl _, heap_alloc_new w _, Nat.le_refl _, by unfold maxLen; omega, rfl, rfl⟩⟩
theorem strType : ∃ i, Tryd.prog.info? 9 = some i ∧ i.zero = some (.string ⟨#[]⟩) ∧ i.size = 1 ∧ i.bytes = 16 := by
  have h : (Tryd.prog.info? 9).map (fun i => (i.zero, i.size, i.bytes)) = some (some (.string ⟨#[]⟩), 1, 16) := by kernel_rfl
  obtain ⟨i, h1, h2⟩ := Option.map_eq_some_iff.1 h
  simp only [Prod.mk.injEq] at h2
  exact ⟨i, h1, h2.1, h2.2.1, h2.2.2⟩
theorem append_strs {w : World} {B m c : Nat} {v : Value} {q l : List ByteArray} {x : Addr} (h : OwnZ w B v q) (hB : B ≤ w.heap.size) (hv : Strs w (some x) l) (hl : l.length = m) (hs : (q.length + m : Int) ≤ 1000000) (ty : TypeId) :
    ∃ v' w', (Builtin.append_ #[111, 111] ty #[v, .slice (some x) m c]).run Tryd.prog w = .ok v' w' ∧ OwnZ w' B v' (q ++ l) ∧ w.grownBy w' v.ownBlock ∧ ∀ k, v'.ownBlock = some k → v.ownBlock = some k ∨ w.heap.size ≤ k := by
  obtain ⟨i0, hi, hz0, hz1, hz2⟩ := strType
  have hnews : ∀ j u, (vz l)[j]? = some u → w.cell? (x.add j) = some u := by
    intro j u hj
    rcases hv with rfl | ⟨g, o, e, hc⟩
    · simp [vz] at hj
    · cases e
      simp only [vz, List.getElem?_map, Option.map_eq_some_iff] at hj
      obtain ⟨y, hy, rfl⟩ := hj
      rw [addr_at]; exact hc j y hy
  obtain ⟨v', w', h1, h2, h3, _, h5⟩ := run_append_own_at (P := Tryd.prog) w B 111 ty 9 i0 _ 1 16 Tryd.underlying111 hi hz0 hz1 hz2 rfl (by decide) v q.length (vz q) h x m c (vz l) (by simp [vz, hl]) hnews (vz_one l) (by unfold maxLen; omega) (by omega) hB
  refine ⟨v', w', h1, ?_, h3, fun k hk => ?_⟩
  · unfold OwnZ
    rw [List.length_append, hl]
    unfold vz at h2 ⊢
    rw [List.map_append]
    exact h2
  · rcases h5 with z | z
    · left; rw [← z]; exact hk
    · right; rw [z] at hk; cases hk; exact Nat.le_refl _
theorem wp_strs {ops : Array Oper} {rest : List Oper} {o : Oper} {a : Act} {Q : Exit → Act → World → Prop} {w : World} (hgd : o.guard = none) (s x : Operand)
    (ho : o.op = .call { callee := .builtin .append, args := #[s, x], argTypes := #[111, 111] }) {B m c : Nat} {v : Value} {q l : List ByteArray} {ad : Addr} (hs : a.eval s = v) (hx : a.eval x = .slice (some ad) m c)
    (hown : OwnZ w B v q) (hB : B ≤ w.heap.size) (hv : Strs w (some ad) l) (hl : l.length = m) (hsm : (q.length + m : Int) ≤ 1000000) (N : Nat) (hN : q.length + m = N)
    (h : ∀ a' cp' w', OwnZ w' B (.slice a' N cp') (q ++ l) → w.grownBy w' v.ownBlock → (∀ k, (Value.slice a' N cp').ownBlock = some k → v.ownBlock = some k ∨ w.heap.size ≤ k) → wpList Tryd.prog ops Q rest (a.put o.dst (.slice a' N cp')) w') : wpList Tryd.prog ops Q (o :: rest) a w := by
  refine wpList_step fun K hK => ?_
  have hw : Region.wanted o (yielded ops a.tmps) = true := by simp [Region.wanted, hgd]
  rw [if_pos hw]
  obtain ⟨v', w', hr, h2, h3, h4⟩ := append_strs (c := c) hown hB hv hl hsm o.type
  obtain ⟨a', cp', hv', _⟩ := h2.slice
  rw [List.length_append, hl, hN] at hv'
  subst hv'
  unfold Oper.wp execOp
  simp only [ho, resolve, invoke, builtin, Sem.run_bind, Sem.run_pure, Result.andThen_ok, List.map_toArray, List.map_cons, List.map_nil, hs, hx, hr]
  exact hK _ _ (h a' cp' w' h2 h3 h4)
theorem grownz_new {w w1 w2 : World} {B N : Nat} {v : Value} {q : List ByteArray} (hl : Below N w w1) (ho : OwnZ w1 B v q) (hB : N ≤ B) (hN : N ≤ w1.heap.size) (hg : w1.grownBy w2 v.ownBlock) : Below N w w2 :=
  hl.grown hg hN (fun k hk => by have := (World.ownsRow.lt ho k hk).1; omega)

/-- Texts with a blank between. -/
def joinZ : List ByteArray → ByteArray
  | [] => ⟨#[]⟩
  | [x] => x
  | x :: y :: l => x ++ ⟨#[32]⟩ ++ joinZ (y :: l)
theorem joinz_lib : ∀ l : List ByteArray, (joinZ l).data.toList = Lib.join (l.map (·.data.toList)) [32]
  | [] => rfl
  | [x] => by rw [joinZ, List.map_cons, List.map_nil, Lib.join_one]
  | x :: y :: l => by
    have ih := joinz_lib (y :: l)
    rw [joinZ, ByteArray.data_append, ByteArray.data_append, Array.toList_append, Array.toList_append, ih, List.map_cons, List.map_cons, Lib.join_cons, Lib.join_cons]
    simp [Lib.joinTail]
theorem strjoin_any (g o c n : Nat) (l : List ByteArray) (hl : l.length = n) (w : World) (h : Strs w (some ⟨g, o, none⟩) l) (hp : 0 < n) (hn : n ≤ 1000000) (hc : n ≤ c) (hs : (joinZ l).size ≤ 1000000000) :
    Calls Tryd.prog 56 #[.slice (some ⟨g, o, none⟩) n c, .string ⟨#[32]⟩] w fun e w' => e = .returned (.string (joinZ l)) ∧ Below w.heap.size w w' := by
  subst hl
  have hcells : ∀ (j : Nat) x, l[j]? = some x → w.cell? ⟨g, o + j, none⟩ = some (.string x) := by
    rcases h with rfl | ⟨g', o', e, hc⟩
    · intro j x hj; cases hj
    · cases e; exact hc
  have hbk : g < w.heap.size := by
    obtain ⟨x, hx⟩ := nth_of (rfl : l.length = l.length) hp
    exact block_of_cell (hcells 0 x hx)
  have e := joinz_lib l
  have h2 : (joinZ l).data.toList.length = (joinZ l).size := by simp
  have := Tryd.strings_Join g o c l ⟨#[32]⟩ w hcells hbk (by omega) hc (by show (Lib.join (l.map (·.data.toList)) [32]).length ≤ _; rw [← e, h2]; omega)
  refine this.mono fun e' w' ⟨h1, h3⟩ => ⟨?_, h3⟩
  rw [h1]
  show Ending.returned (.string ⟨(Lib.join (l.map (·.data.toList)) [32]).toArray⟩) = _
  rw [← e]
end Go.Proofs.YtlpffgmfgkleiaaDoor
