/- Texts of this claim, put together: KW23, KW24, EMem, EW1, CW3, EIt, BRef2, BRef3, BRef4. -/
import Derived.Test.YtlglncnhhgofoaaM5
import Derived.Shelf.SlicesQ.IndexFunc
import Derived.Tactics
import Derived.RegionTactic
import Derived.RangeFuncNested
import Derived.RangeFuncBound
import Derived.RangeFuncCalls
import Derived.RangeFuncLeaves
import Derived.RangeFuncBox
import Derived.Shelf.RegionOpen
import Derived.Shelf.Abstract
import Derived.OwnWalkIn
import Derived.TacticsInMore
import Derived.LoopNIn
import Derived.LoopIn
import Derived.Deep.RegionHeld3
set_option linter.unusedVariables false
set_option linter.unusedSimpArgs false

/-
  The walks over the search for a task.
-/
namespace Go.Proofs.Ytlglncnhhgofoaa
open Go.RowKit Go.Maps Go.Shelf

def idxRen : Ren := ⟨fun | 6 => 69 | n => n, fun | 0 => 0 | 3 => 3 | 4 => 4 | 22 => 25 | 23 => 36 | 25 => 106 | n => n, fun | n => n⟩
theorem idxLays : SlLaysH0.n6 Try.prog idxRen where
  mixed := by kernel_rfl
  f6 := ⟨ "slices.IndexFunc[[]ostinato/api.Task,ostinato/api.Task]", by decide, Try.func69.trans (congrArg some (by kernel_rfl))⟩
  t0 := Try.underlying0
  a0 := Try.isAgg0
  z0 := Try.sizeOf0
  v0 := Try.zeroValue0
  t3 := Try.underlying3
  a3 := Try.isAgg3
  z3 := Try.sizeOf3
  v3 := Try.zeroValue3
  t4 := Try.underlying4
  a4 := Try.isAgg4
  z4 := Try.sizeOf4
  v4 := Try.zeroValue4
  t22 := Try.underlying25
  a22 := Try.isAgg25
  z22 := Try.sizeOf25
  v22 := Try.zeroValue25
  t25 := Try.underlying106
  a25 := Try.isAgg106
  z25 := Try.sizeOf106
  v25 := Try.zeroValue106

theorem idxFrom_spec (p : TV → Bool) (u : TV) : ∀ (l : List TV) (i : Nat), (Lib.idxByFrom (fun _ y => p y) u l i = -1 ∧ ∀ x ∈ l, p x = false) ∨ ∃ (k : Nat) (x : TV), Lib.idxByFrom (fun _ y => p y) u l i = ((i + k : Nat) : Int) ∧ l[k]? = some x ∧ p x = true ∧ ∀ (j : Nat) (y : TV), j < k → l[j]? = some y → p y = false
  | [], _ => .inl ⟨rfl, fun x hx => by cases hx⟩
  | y :: r, i => by
    by_cases h : p y = true
    · exact .inr ⟨0, y, by simp [Lib.idxByFrom, h], rfl, h, fun j _ hj => absurd hj (Nat.not_lt_zero _)⟩
    · have h' : p y = false := by simpa using h
      have e0 : Lib.idxByFrom (fun _ y => p y) u (y :: r) i = Lib.idxByFrom (fun _ y => p y) u r (i + 1) := by simp [Lib.idxByFrom, h']
      rcases idxFrom_spec p u r (i + 1) with ⟨e, ha⟩ | ⟨k, x, e, hx, hp, ha⟩
      · refine .inl ⟨e0.trans e, fun x hx => ?_⟩
        rcases List.mem_cons.1 hx with rfl | q
        · exact h'
        · exact ha x q
      · refine .inr ⟨k + 1, x, ?_, by simpa using hx, hp, fun j z hj hz => ?_⟩
        · rw [e0, e]; congr 1; omega
        · cases j with
          | zero => simp at hz; subst hz; exact h'
          | succ j => exact ha j z (by omega) (by simpa using hz)
/-- Where the first one is, if there is one. -/
def FirstAt (p : TV → Bool) (L : List TV) (z : Int) : Prop :=
  (z = -1 ∧ ∀ x ∈ L, p x = false) ∨ ∃ (k : Nat) (x : TV), z = (k : Int) ∧ L[k]? = some x ∧ p x = true ∧ ∀ (j : Nat) (y : TV), j < k → L[j]? = some y → p y = false
theorem index_any {w : World} {a : Option Addr} {n cap : Nat} {L : List TV} (hv : View w a L) (hl : L.length = n) (hs : (n : Int) ≤ 9223372036854775807) (hn : 0 < n) (p : TV → Bool) (g : Nat) (lb : Array Value) (eg : ∀ args w, (callFunc g args).run Try.prog w = .ok (.enter g args) w) (hp : PredBelow Try.prog g lb (fun x => .agg (TV.cells x).toArray) p w) :
    Calls Try.prog 69 #[.slice a n cap, .func (.func g) #[] lb] w fun e w' => ∃ z : Int, e = .returned (.int .i64 z) ∧ FirstAt p L z ∧ Below w.heap.size w w' := by
  obtain ⟨x0, hx0⟩ := nth_of hl hn
  obtain ⟨b, o, rfl, hat⟩ := hv.at_ hx0
  have hb := block_of_cell hat.c0
  have hcl : ∀ j, j < L.length → ∀ i v, (TV.cells L[j]!)[i]? = some v → w.cell? ⟨b, o + j * 7 + i, none⟩ = some v := by
    intro j hj i v hi
    have hi7 : i < 7 := by have := (List.getElem?_eq_some_iff.1 hi).1; rwa [cells_len] at this
    have hf := flat_at L j L[j]! (by simp [hj]) i hi7
    rw [hi] at hf
    rcases hv with rfl | ⟨g', o', e, hc⟩
    · simp at hj
    · cases e
      rw [Nat.add_assoc]; exact hc _ _ hf
  have h := AnyQ.slices_IndexFunc idxLays 7 Try.isAgg36 Try.sizeOf36 TV.cells cells_len p g lb eg b o n cap L w hp (by omega) (by omega) hb hcl
  change Calls Try.prog 69 _ _ _ at h
  refine h.mono fun e w' ⟨he, hb'⟩ => ⟨_, he, ?_, hb'⟩
  rw [List.take_of_length_le (by omega)]
  rcases idxFrom_spec p default L 0 with ⟨e, ha⟩ | ⟨k, x, e, hx, hp, ha⟩
  · exact .inl ⟨e, ha⟩
  · exact .inr ⟨k, x, by unfold Lib.idxBy; rw [e, Nat.zero_add], hx, hp, ha⟩

set_option maxHeartbeats 1000000 in
theorem find1_any (x : TV) (id : Int) (b : Nat) (W : World) (h : W.cell? ⟨b, 0, none⟩ = some (.int .i64 id)) : Calls Try.prog 70 #[.agg #[.int .i64 x.id, .int .i64 x.c, .int .i64 x.d, .int .i64 x.t, .int .i64 x.p, .slice x.a1 x.ch.length x.c1, .slice x.a2 x.us.length x.c2], .pointer (some ⟨b, 0, none⟩)] W fun e w' => e = .returned (.bool (decide (x.id = id))) ∧ Below W.heap.size W w' := by
  have hl := block_of_cell h
  have hlt : b < W.heap.size := hl
  clear hl
  by_cases hq : x.id = id
  · rw [decide_eq_true hq]
    have d1 : (x.id == id) = true := by rw [beq_iff_eq]; exact hq
    clear hq
    go_enter Try.func70, Try.ntmps70
    go_wp2
    go_ret
    exact ⟨rfl, (by repeat (first | exact Below.refl _ _ | (with_reducible assumption) | refine bw_alloc ?_ _ | refine bw_drew ?_))⟩
  · rw [decide_eq_false hq]
    have d1 : (x.id == id) = false := by rw [beq_eq_false_iff_ne]; exact hq
    clear hq
    go_enter Try.func70, Try.ntmps70
    go_wp2
    go_ret
    exact ⟨rfl, (by repeat (first | exact Below.refl _ _ | (with_reducible assumption) | refine bw_alloc ?_ _ | refine bw_drew ?_))⟩
theorem find1_enters : ∀ args w, (callFunc 70 args).run Try.prog w = .ok (.enter 70 args) w := enters_of Try.func70 (by kernel_rfl) rfl
theorem find1_pred (id : Int) (b : Nat) (w : World) (h : w.cell? ⟨b, 0, none⟩ = some (.int .i64 id)) : PredBelow Try.prog 70 #[.pointer (some ⟨b, 0, none⟩)] (fun x => .agg (TV.cells x).toArray) (fun x => decide (x.id = id)) w :=
  fun W x hb => (find1_any x id b W (kept_cell hb h)).mono fun _ _ ⟨h1, h2⟩ => ⟨h1, below_up hb h2⟩

/-- A task of that number, or nothing. -/
def tk0 : Tk := ⟨0, 0, 0, 0, 0, [], []⟩
def findTk (L : List Tk) (id : Int) : Option Tk := L.find? fun t => decide (t.id = id)
def Told (L : List TV) (id : Int) (y : TV) (b : Bool) : Prop := (b = true ∧ findTk (L.map TV.tk) id = some y.tk) ∨ (b = false ∧ findTk (L.map TV.tk) id = none ∧ y.tk = tk0)
def FindBack (L : List TV) (id : Int) (w : World) (e : Ending) (w' : World) : Prop :=
  ∃ (y : TV) (b : Bool), e = .returned (.tuple #[.agg #[.int .i64 y.id, .int .i64 y.c, .int .i64 y.d, .int .i64 y.t, .int .i64 y.p, .slice y.a1 y.ch.length y.c1, .slice y.a2 y.us.length y.c2], .bool b]) ∧ y.ok w' ∧ (IsI w' y.a1 y.ch ∧ IsI w' y.a2 y.us) ∧ Told L id y b ∧ Below w.heap.size w w'
theorem told_none {L : List TV} {id : Int} (h : ∀ x ∈ L, decide (x.id = id) = false) : findTk (L.map TV.tk) id = none := by
  unfold findTk
  rw [List.find?_eq_none]
  intro t ht
  obtain ⟨x, hx, rfl⟩ := List.mem_map.1 ht
  have := h x hx
  show ¬ decide (x.id = id) = true
  rw [this]; simp
theorem told_some {L : List TV} {id : Int} {k : Nat} {x : TV} (hx : L[k]? = some x) (hp : decide (x.id = id) = true) (ha : ∀ (j : Nat) (y : TV), j < k → L[j]? = some y → decide (y.id = id) = false) : findTk (L.map TV.tk) id = some x.tk := by
  unfold findTk
  rw [List.find?_eq_some_iff_getElem]
  obtain ⟨hkl, hke⟩ := List.getElem?_eq_some_iff.1 hx
  refine ⟨hp, k, by simpa using hkl, by simp [hke], fun j hj => ?_⟩
  have hjl : j < L.length := by omega
  have := ha j L[j] hj (by simp [hjl])
  simp only [List.getElem_map]
  show (!decide (L[j].id = id)) = true
  rw [this]; rfl
end Go.Proofs.Ytlglncnhhgofoaa

/-
  The walk over the task of a number.
-/
namespace Go.Proofs.Ytlglncnhhgofoaa
open Go.RowKit Go.Maps Go.Shelf

/-- A system in a box, a number in another one, a task that comes back. -/
structure FindAt (w : World) (s r : Int) (a : Option Addr) (n cap : Nat) (id : Int) (W : World) : Prop where
  low : Below w.heap.size w W
  box : W.heap[w.heap.size]? = some (.cells #[.int .i64 s, .int .i64 r, .slice a n cap] 27 (0, 0))
  num : W.cell? ⟨w.heap.size + 1, 0, none⟩ = some (.int .i64 id)
  res : W.heap[w.heap.size + 2]? = some (.cells #[.int .i64 0, .int .i64 0, .int .i64 0, .int .i64 0, .int .i64 0, .slice none 0 0, .slice none 0 0] TT (0, 0))
theorem FindAt.below {w W W' : World} {s r id : Int} {a : Option Addr} {n cap : Nat} (h : FindAt w s r a n cap id W) (hb : Below W.heap.size W W') : FindAt w s r a n cap id W' :=
  ⟨below_up h.low hb, kept_obj hb h.box, kept_cell hb h.num, kept_obj hb h.res⟩
theorem findAt_new {w : World} {s r id : Int} {a : Option Addr} {n cap : Nat} : FindAt w s r a n cap id (((w.alloc (.cells #[.int .i64 s, .int .i64 r, .slice a n cap] 27)).alloc (.cells #[.int .i64 id] 3)).alloc (.cells #[.int .i64 0, .int .i64 0, .int .i64 0, .int .i64 0, .int .i64 0, .slice none 0 0, .slice none 0 0] TT)) := by
  refine ⟨(by repeat (first | exact Below.refl _ _ | (with_reducible assumption) | refine bw_alloc ?_ _ | refine bw_drew ?_)), ?_, ?_, ?_⟩
  · rw [Below.heap_alloc _ _ _ (by simp; omega), Below.heap_alloc _ _ _ (by simp)]; exact heap_alloc_new w _
  · have := World.cell?_alloc_new (w := w.alloc (.cells #[.int .i64 s, .int .i64 r, .slice a n cap] 27)) #[.int .i64 id] 3 0
    rw [World.size_alloc] at this
    refine kept_cell (Below.alloc (Below.refl _ _) (Nat.le_refl _) _) ?_
    rw [this]; rfl
  · have := heap_alloc_new ((w.alloc (.cells #[.int .i64 s, .int .i64 r, .slice a n cap] 27)).alloc (.cells #[.int .i64 id] 3)) (.cells #[.int .i64 0, .int .i64 0, .int .i64 0, .int .i64 0, .int .i64 0, .slice none 0 0, .slice none 0 0] TT)
    rwa [World.size_alloc, World.size_alloc] at this
/-- The zero task. -/
def tv0 : TV := ⟨0, 0, 0, 0, 0, none, [], 0, none, [], 0⟩
theorem tv0_ok (w : World) : tv0.ok w := ⟨.inl rfl, .inl rfl, by simp [tv0], by simp [tv0], by simp [tv0], by simp [tv0]⟩
theorem FindAt.miss {w W : World} {s r id : Int} {a : Option Addr} {n cap : Nat} {L : List TV} (h : FindAt w s r a n cap id W) (hf : findTk (L.map TV.tk) id = none) (x0 x1 x2 x3 x4 x5 x6 : Value) :
    FindBack L id w (.returned (.tuple #[.agg #[.int .i64 0, .int .i64 0, .int .i64 0, .int .i64 0, .int .i64 0, .slice none 0 0, .slice none 0 0], .bool false])) ((((((((W.setCell ⟨w.heap.size + 2, 0, none⟩ x0).setCell ⟨w.heap.size + 2, 1, none⟩ x1).setCell ⟨w.heap.size + 2, 2, none⟩ x2).setCell ⟨w.heap.size + 2, 3, none⟩ x3).setCell ⟨w.heap.size + 2, 4, none⟩ x4).setCell ⟨w.heap.size + 2, 5, none⟩ x5).setCell ⟨w.heap.size + 2, 6, none⟩ x6)) :=
  ⟨tv0, false, rfl, tv0_ok _, ⟨.inl rfl, .inl rfl⟩, .inr ⟨rfl, hf, rfl⟩, below_set7 h.low (by omega) x0 x1 x2 x3 x4 x5 x6⟩
theorem FindAt.hit {w W : World} {s r id : Int} {a : Option Addr} {n cap : Nat} {L : List TV} {y : TV} (h : FindAt w s r a n cap id W) (hf : findTk (L.map TV.tk) id = some y.tk) (hy : y.ok W) (hi : IsI W y.a1 y.ch ∧ IsI W y.a2 y.us) (x0 x1 x2 x3 x4 x5 x6 : Value) :
    FindBack L id w (.returned (.tuple #[.agg #[.int .i64 y.id, .int .i64 y.c, .int .i64 y.d, .int .i64 y.t, .int .i64 y.p, .slice y.a1 y.ch.length y.c1, .slice y.a2 y.us.length y.c2], .bool true])) ((((((((W.setCell ⟨w.heap.size + 2, 0, none⟩ x0).setCell ⟨w.heap.size + 2, 1, none⟩ x1).setCell ⟨w.heap.size + 2, 2, none⟩ x2).setCell ⟨w.heap.size + 2, 3, none⟩ x3).setCell ⟨w.heap.size + 2, 4, none⟩ x4).setCell ⟨w.heap.size + 2, 5, none⟩ x5).setCell ⟨w.heap.size + 2, 6, none⟩ x6)) :=
  ⟨y, true, rfl, hy.kept hi (keepI_set7 h.res x0 x1 x2 x3 x4 x5 x6), ⟨hi.1.kept (keepI_set7 h.res x0 x1 x2 x3 x4 x5 x6), hi.2.kept (keepI_set7 h.res x0 x1 x2 x3 x4 x5 x6)⟩, .inl ⟨rfl, hf⟩, below_set7 h.low (by omega) x0 x1 x2 x3 x4 x5 x6⟩

set_option maxRecDepth 100000 in
set_option maxHeartbeats 4000000 in
theorem find_sys {w : World} {a : Option Addr} {n cap : Nat} {L : List TV} (s r id : Int) (ha : Tasks w a n cap L) (hn : 0 < n) (hsm : ∀ x ∈ L, (x.ch.length : Int) ≤ 1000000 ∧ (x.us.length : Int) ≤ 1000000) :
    Calls Try.prog 44 #[.agg #[.int .i64 s, .int .i64 r, .slice a n cap], .int .i64 id] w (FindBack L id w) := by
  have HA := Lib.hid ha
  have HS := Lib.hid hsm
  have hz := zeroTask
  have hn9 : (n : Int) ≤ 9223372036854775807 := by have := ha.le; have := ha.small; omega
  clear ha hsm
  go_enter Try.func44, Try.ntmps44
  go_upto_region 1 with fail
  refine gen_world (FindAt w s r a n cap id) findAt_new ?_
  intro W1 hw1
  have H1 := Lib.hid hw1
  have e2 : W1.cell? ⟨w.heap.size, 2, none⟩ = some (.slice a n cap) := by rw [blk_cell hw1.box]; rfl
  have hl1 : w.heap.size < W1.heap.size := lt_of_block hw1.box
  have C := Lib.hid (index_any (w := W1) (cap := cap) (HA.out.below hw1.low).view HA.out.len hn9 hn (fun x => decide (x.id = id)) 70 #[.pointer (some ⟨w.heap.size + 1, 0, none⟩)] find1_enters (find1_pred id _ W1 hw1.num))
  clear hw1
  go_upto_region 2 with (go_at_call 69; (with_reducible refine (C.out).mono ?_); rintro e w2 ⟨z, rfl, hz2, b2⟩; have H2 := Lib.hid (H1.out.below b2); have HZ := Lib.hid hz2; clear hz2 b2)
  clear C e2 hl1 H1
  have e2 : w2.cell? ⟨w.heap.size, 2, none⟩ = some (.slice a n cap) := by rw [blk_cell H2.out.box]; rfl
  have hr1 : w.heap.size + 2 < w2.heap.size := lt_of_block H2.out.res
  rcases HZ.out with ⟨rfl, hall⟩ | ⟨k, x, rfl, hx, hp, hall⟩
  · have HN := Lib.hid (H2.out.miss (told_none hall))
    have r0 : w2.cell? ⟨w.heap.size + 2, 0, none⟩ = some (.int .i64 0) := by rw [blk_cell H2.out.res]; rfl
    have r1 : w2.cell? ⟨w.heap.size + 2, 1, none⟩ = some (.int .i64 0) := by rw [blk_cell H2.out.res]; rfl
    have r2 : w2.cell? ⟨w.heap.size + 2, 2, none⟩ = some (.int .i64 0) := by rw [blk_cell H2.out.res]; rfl
    have r3 : w2.cell? ⟨w.heap.size + 2, 3, none⟩ = some (.int .i64 0) := by rw [blk_cell H2.out.res]; rfl
    have r4 : w2.cell? ⟨w.heap.size + 2, 4, none⟩ = some (.int .i64 0) := by rw [blk_cell H2.out.res]; rfl
    have r5 : w2.cell? ⟨w.heap.size + 2, 5, none⟩ = some (.slice none 0 0) := by rw [blk_cell H2.out.res]; rfl
    have r6 : w2.cell? ⟨w.heap.size + 2, 6, none⟩ = some (.slice none 0 0) := by rw [blk_cell H2.out.res]; rfl
    have f0 := blk_free H2.out.res 0
    have f1 := blk_free H2.out.res 1
    have f2 := blk_free H2.out.res 2
    have f3 := blk_free H2.out.res 3
    have f4 := blk_free H2.out.res 4
    have f5 := blk_free H2.out.res 5
    have f6 := blk_free H2.out.res 6
    clear HZ hall H2
    go_wp2_with fail
    exact bodyPost_ret (v := .tuple #[.agg #[.int .i64 0, .int .i64 0, .int .i64 0, .int .i64 0, .int .i64 0, .slice none 0 0, .slice none 0 0], .bool false]) (by simp [results, Try.results44, go_sem, r0, r1, r2, r3, r4, r5, r6]) rfl (HN.out _ _ _ _ _ _ _)
  · have hkl : k < n := by have := (List.getElem?_eq_some_iff.1 hx).1; have := HA.out.len; omega
    have HT := Lib.hid (told_some hx hp hall)
    obtain ⟨g, o, rfl, ⟨c0, c1, c2, c3, c4, c5, c6⟩⟩ := (HA.out.view.below H2.out.low).at_ hx
    have hk1 : (k : Int) < (n : Int) := by omega
    have hk0 : ¬ (k : Int) < 0 := by omega
    have hk2 : (0 : Int) ≤ (k : Int) := by omega
    have hxs := HS.out x (List.mem_of_getElem? hx)
    have C := Lib.hid (own_any x w2 ((HA.out.ok.at_ hx).below H2.out.low) hxs.1 hxs.2)
    clear hx hp hall HZ hxs
    go_upto_region 4 with fail
    go_wp2_with (go_at_call 71; (with_reducible refine (C.out).mono ?_); rintro e w5 ⟨y, rfl, hy1, hy2, hy3, b5⟩; have H5 := Lib.hid (H2.out.below b5); have HY := Lib.hid (H5.out.hit (L := L) (y := y) (hy1 ▸ HT.out) hy2 hy3); have r0 : w5.cell? ⟨w.heap.size + 2, 0, none⟩ = some (.int .i64 0) := (by rw [blk_cell H5.out.res]; rfl); have r1 : w5.cell? ⟨w.heap.size + 2, 1, none⟩ = some (.int .i64 0) := (by rw [blk_cell H5.out.res]; rfl); have r2 : w5.cell? ⟨w.heap.size + 2, 2, none⟩ = some (.int .i64 0) := (by rw [blk_cell H5.out.res]; rfl); have r3 : w5.cell? ⟨w.heap.size + 2, 3, none⟩ = some (.int .i64 0) := (by rw [blk_cell H5.out.res]; rfl); have r4 : w5.cell? ⟨w.heap.size + 2, 4, none⟩ = some (.int .i64 0) := (by rw [blk_cell H5.out.res]; rfl); have r5 : w5.cell? ⟨w.heap.size + 2, 5, none⟩ = some (.slice none 0 0) := (by rw [blk_cell H5.out.res]; rfl); have r6 : w5.cell? ⟨w.heap.size + 2, 6, none⟩ = some (.slice none 0 0) := (by rw [blk_cell H5.out.res]; rfl); have f0 := blk_free H5.out.res 0; have f1 := blk_free H5.out.res 1; have f2 := blk_free H5.out.res 2; have f3 := blk_free H5.out.res 3; have f4 := blk_free H5.out.res 4; have f5 := blk_free H5.out.res 5; have f6 := blk_free H5.out.res 6; have hr5 : w.heap.size + 2 < w5.heap.size := (lt_of_block H5.out.res); clear hy1 hy2 hy3 b5)
    exact bodyPost_ret (v := .tuple #[.agg #[.int .i64 y.id, .int .i64 y.c, .int .i64 y.d, .int .i64 y.t, .int .i64 y.p, .slice y.a1 y.ch.length y.c1, .slice y.a2 y.us.length y.c2], .bool true]) (by simp [results, Try.results44, go_sem, r0, r1, r2, r3, r4, r5, r6]) rfl (HY.out _ _ _ _ _ _ _)
end Go.Proofs.Ytlglncnhhgofoaa

/-
  Rows of sets: four cells each.
-/
namespace Go.Proofs.Ytlglncnhhgofoaa
open Go.RowKit Go.Maps

def scells (p : Nat → Bool) : List Value := [.int .u64 (wd p 0), .int .u64 (wd p 1), .int .u64 (wd p 2), .int .u64 (wd p 3)]
/-- The cells of a set, from a place on. -/
structure SAt (w : World) (g o : Nat) (x : Nat → Bool) : Prop where
  c0 : w.cell? ⟨g, o, none⟩ = some (.int .u64 (wd x 0))
  c1 : w.cell? ⟨g, o + 1, none⟩ = some (.int .u64 (wd x 1))
  c2 : w.cell? ⟨g, o + 2, none⟩ = some (.int .u64 (wd x 2))
  c3 : w.cell? ⟨g, o + 3, none⟩ = some (.int .u64 (wd x 3))
theorem SAt.below {w w' : World} {g o : Nat} {x : Nat → Bool} (h : SAt w g o x) (hb : Below w.heap.size w w') : SAt w' g o x :=
  ⟨kept_cell hb h.c0, kept_cell hb h.c1, kept_cell hb h.c2, kept_cell hb h.c3⟩
/-- The cells of a row of tasks. -/
def sflat : List (Nat → Bool) → List Value
  | [] => []
  | x :: l => scells x ++ sflat l
theorem scells_len (x : Nat → Bool) : (scells x).length = 4 := rfl
theorem sflat_len : ∀ l : List (Nat → Bool), (sflat l).length = l.length * 4
  | [] => rfl
  | x :: l => by simp [sflat, sflat_len l, scells_len]; omega
theorem sflat_append : ∀ l m : List (Nat → Bool), sflat (l ++ m) = sflat l ++ sflat m
  | [], _ => rfl
  | x :: l, m => by simp [sflat, sflat_append l m]
theorem sflat_at : ∀ (l : List (Nat → Bool)) (k : Nat) (x : Nat → Bool), l[k]? = some x → ∀ i, i < 4 → (sflat l)[k * 4 + i]? = (scells x)[i]?
  | [], k, x, h => by simp at h
  | y :: l, 0, x, h => by
    simp at h; subst h
    intro i hi
    rw [Nat.zero_mul, Nat.zero_add, sflat, List.getElem?_append_left (by rw [scells_len]; exact hi)]
  | y :: l, k + 1, x, h => by
    intro i hi
    have := sflat_at l k x (by simpa using h) i hi
    rw [show (k + 1) * 4 + i = 4 + (k * 4 + i) by omega, sflat, List.getElem?_append_right (by rw [scells_len]; omega), scells_len, ← this]
    congr 1; omega
theorem sflat_one : ∀ (l : List (Nat → Bool)), ∀ u ∈ sflat l, u.oneCell' = true
  | [], u, h => by simp [sflat] at h
  | x :: l, u, h => by
    rcases List.mem_append.1 h with h | h
    · simp [scells] at h
      rcases h with rfl | rfl | rfl | rfl <;> rfl
    · exact sflat_one l u h
theorem sflat_drop : ∀ (k : Nat) (l : List (Nat → Bool)), sflat (l.drop k) = (sflat l).drop (k * 4)
  | 0, l => by simp
  | k + 1, [] => by simp [sflat]
  | k + 1, x :: l => by
    rw [List.drop_succ_cons, sflat_drop k l, sflat, List.drop_append, show (k + 1) * 4 = 4 + k * 4 by omega]
    simp [scells_len]
theorem sflat_take : ∀ (k : Nat) (l : List (Nat → Bool)), sflat (l.take k) = (sflat l).take (k * 4)
  | 0, l => by simp [sflat]
  | k + 1, [] => by simp [sflat]
  | k + 1, x :: l => by
    rw [List.take_succ_cons, sflat, sflat, sflat_take k l, List.take_append, show (k + 1) * 4 = 4 + k * 4 by omega]
    simp [scells_len]
    rw [List.take_of_length_le (by rw [scells_len]; omega)]

/-- A row of tasks that can be read. -/
def SView (w : World) (a : Option Addr) (l : List (Nat → Bool)) : Prop :=
  l = [] ∨ ∃ g o, a = some ⟨g, o, none⟩ ∧ ∀ j u, (sflat l)[j]? = some u → w.cell? ⟨g, o + j, none⟩ = some u
theorem SView.nil {w : World} {a : Option Addr} : SView w a [] := .inl rfl
theorem SView.at_ {w : World} {a : Option Addr} {l : List (Nat → Bool)} (h : SView w a l) {k : Nat} {x : Nat → Bool} (hx : l[k]? = some x) : ∃ g o, a = some ⟨g, o, none⟩ ∧ SAt w g (o + k * 4) x := by
  rcases h with rfl | ⟨g, o, rfl, hc⟩
  · simp at hx
  · have f := sflat_at l k x hx
    refine ⟨g, o, rfl, ⟨?_, ?_, ?_, ?_⟩⟩
    · exact hc _ _ (f 0 (by omega))
    · exact hc _ _ (f 1 (by omega))
    · exact hc _ _ (f 2 (by omega))
    · exact hc _ _ (f 3 (by omega))
theorem SView.below {w w' : World} {a : Option Addr} {l : List (Nat → Bool)} (h : SView w a l) (hb : Below w.heap.size w w') : SView w' a l := by
  rcases h with rfl | ⟨g, o, rfl, hc⟩
  · exact .inl rfl
  · exact .inr ⟨g, o, rfl, fun j u hj => kept_cell hb (hc j u hj)⟩
theorem SView.drop {w : World} {g o : Nat} {l : List (Nat → Bool)} (h : SView w (some ⟨g, o, none⟩) l) (k : Nat) : SView w (some ⟨g, o + k * 4, none⟩) (l.drop k) := by
  rcases h with rfl | ⟨g', o', e, hc⟩
  · left; simp
  · cases e
    refine .inr ⟨_, _, rfl, fun j u hj => ?_⟩
    rw [sflat_drop, List.getElem?_drop] at hj
    rw [Nat.add_assoc]
    exact hc _ u hj
theorem SView.take {w : World} {a : Option Addr} {l : List (Nat → Bool)} (h : SView w a l) (k : Nat) : SView w a (l.take k) := by
  rcases h with rfl | ⟨g, o, rfl, hc⟩
  · left; simp
  · refine .inr ⟨g, o, rfl, fun j u hj => ?_⟩
    rw [sflat_take, List.getElem?_take] at hj
    split at hj
    · exact hc j u hj
    · cases hj
theorem SView.of_at {w : World} {g o : Nat} {x : Nat → Bool} (h : SAt w g o x) : SView w (some ⟨g, o, none⟩) [x] := by
  refine .inr ⟨g, o, rfl, fun j u hj => ?_⟩
  simp only [sflat, List.append_nil, scells] at hj
  match j, hj with
  | 0, hj => simp at hj; subst hj; exact h.c0
  | 1, hj => simp at hj; subst hj; exact h.c1
  | 2, hj => simp at hj; subst hj; exact h.c2
  | 3, hj => simp at hj; subst hj; exact h.c3
  | j + 4, hj => simp at hj
abbrev ST4 : TypeId := 47
def OwnS (w : World) (B : Nat) (v : Value) (l : List (Nat → Bool)) : Prop := w.ownsRow B ST4 4 v l.length (sflat l)
theorem OwnS.nil (w : World) (B : Nat) : OwnS w B (.slice none 0 0) [] := World.ownsRow_nil _ _ _ _
theorem OwnS.made (w : World) : OwnS (w.alloc (.cells #[] ST4)) w.heap.size (.slice (some ⟨w.heap.size, 0, none⟩) 0 0) [] :=
  World.ownsRow_made (w := w) #[] 0 (Nat.le_refl _) (by decide) rfl
theorem OwnS.low {w : World} {B B' : Nat} {v : Value} {l : List (Nat → Bool)} (h : OwnS w B v l) (hB : B' ≤ B) : OwnS w B' v l := by
  rcases h with ⟨h0, h | ⟨g, cap, cur, rfl, hb, r⟩⟩
  · exact ⟨h0, .inl h⟩
  · exact ⟨h0, .inr ⟨g, cap, cur, rfl, by omega, r⟩⟩
theorem OwnS.slice {w : World} {B : Nat} {v : Value} {l : List (Nat → Bool)} (h : OwnS w B v l) : ∃ a cap, v = .slice a l.length cap ∧ SView w a l ∧ l.length ≤ cap ∧ (cap : Int) ≤ 9223372036854775807 := by
  rcases h.2 with ⟨rfl, h0⟩ | ⟨g, cap, cur, rfl, _, h3, h1, h2, h4, h5⟩
  · exact ⟨none, 0, by rw [h0], .inl (List.length_eq_zero_iff.1 h0), by omega, by omega⟩
  · refine ⟨_, cap, rfl, .inr ⟨g, 0, rfl, fun j u hj => ?_⟩, h1, by unfold maxLen at h2; omega⟩
    rw [Nat.zero_add, blk_cell h3]
    rw [← h5] at hj
    rw [List.getElem?_take] at hj
    split at hj
    · simpa using hj
    · cases hj
theorem OwnS.new {w : World} {B : Nat} {v : Value} {l : List (Nat → Bool)} (h : OwnS w B v l) {k : Nat} (hk : v.ownBlock = some k) : B ≤ k ∧ k < w.heap.size := World.ownsRow.lt h k hk
theorem OwnS.below {w w' : World} {B : Nat} {v : Value} {l : List (Nat → Bool)} (h : OwnS w B v l) (hb : Below w.heap.size w w') : OwnS w' B v l := by
  rcases h with ⟨h0, h | ⟨g, cap, cur, rfl, hB, h3, r⟩⟩
  · exact ⟨h0, .inl h⟩
  · exact ⟨h0, .inr ⟨g, cap, cur, rfl, hB, kept_obj hb h3, r⟩⟩
theorem OwnS.none_len {w : World} {B n c : Nat} {l : List (Nat → Bool)} (h : OwnS w B (.slice none n c) l) : n = 0 := by
  rcases h.2 with ⟨h1, h0⟩ | ⟨g, cap, cur, h1, _⟩
  · cases h1; rfl
  · cases h1

theorem infoSet4 : (Try.prog.info? ST4).map (fun i => (i.zero, i.size, i.bytes)) = some (some (.agg #[.int .u64 0, .int .u64 0, .int .u64 0, .int .u64 0]), 4, 32) := by kernel_rfl
theorem zeroSet4 (w : World) : (zeroValue ST4).run Try.prog w = .ok (.agg #[.int .u64 0, .int .u64 0, .int .u64 0, .int .u64 0]) w := by kernel_rfl
theorem sinfoParts : ∃ i, Try.prog.info? ST4 = some i ∧ i.zero = some (.agg #[.int .u64 0, .int .u64 0, .int .u64 0, .int .u64 0]) ∧ i.size = 4 ∧ i.bytes = 32 := by
  obtain ⟨i, h1, h2⟩ := Option.map_eq_some_iff.1 infoSet4
  simp only [Prod.mk.injEq] at h2
  exact ⟨i, h1, h2.1, h2.2.1, h2.2.2⟩

/-- A row that was appended to: what it holds, where it lies. -/
theorem append_sview {w : World} {B m c : Nat} {v : Value} {q l : List (Nat → Bool)} {ad : Option Addr} (h : OwnS w B v q) (hB : B ≤ w.heap.size) (hv : SView w ad l) (hl : l.length = m) (hs : q.length + m ≤ 1000000) (hn : ad = none → m = 0) (ty : TypeId) :
    ∃ v' w', (Builtin.append_ #[105, 105] ty #[v, .slice ad m c]).run Try.prog w = .ok v' w' ∧ OwnS w' B v' (q ++ l) ∧ w.grownBy w' v.ownBlock ∧ ∀ k, v'.ownBlock = some k → v.ownBlock = some k ∨ w.heap.size ≤ k := by
  obtain ⟨i0, hi, hz0, hz1, hz2⟩ := sinfoParts
  cases ad with
  | none =>
    obtain rfl := hn rfl
    obtain rfl : l = [] := List.length_eq_zero_iff.1 hl
    refine ⟨v, w, ?_, by rw [List.append_nil]; exact h, ⟨rfl, rfl, rfl, Nat.le_refl _, fun _ _ _ => rfl⟩, fun k hk => .inl hk⟩
    rcases h.2 with ⟨rfl, h0⟩ | ⟨g, cap, cur, rfl, _, h3, h1, h2, h4, h5⟩
    · have hs := Src.ofNil (w := w) (size := i0.size) Try.underlying105 c
      simp [Builtin.append_, run_underlying Try.underlying105, sizeOf, typeInfo, hi, hs.len, hs.cells]
    · have := run_append_room_src (P := Try.prog) (w := w) 105 105 ty ST4 i0 Try.underlying105 hi g 0 q.length cap (.slice none 0 c) 0 [] (Src.ofNil w Try.underlying105 c) (by omega) (fun j hj => absurd hj (Nat.not_lt_zero _)) (fun j hj => absurd hj (Nat.not_lt_zero _))
      simpa [World.setCells] using this
  | some x =>
    have hnews : ∀ j u, (sflat l)[j]? = some u → w.cell? (x.add j) = some u := by
      intro j u hj
      rcases hv with rfl | ⟨g, o, e, hc⟩
      · simp [sflat] at hj
      · cases e
        rw [addr_at]; exact hc j u hj
    obtain ⟨v', w', h1, h2, h3, _, h5⟩ := run_append_own_at (P := Try.prog) w B 105 ty ST4 i0 _ 4 32 Try.underlying105 hi hz0 hz1 hz2 rfl (by decide) v q.length (sflat q) h x m c (sflat l) (by rw [sflat_len, hl]) hnews (sflat_one l) (by unfold maxLen; omega) (by omega) hB
    refine ⟨v', w', h1, ?_, h3, fun k hk => ?_⟩
    · unfold OwnS
      rw [List.length_append, sflat_append, hl]
      exact h2
    · rcases h5 with z | z
      · left; rw [← z]; exact hk
      · right; rw [z] at hk; cases hk; exact Nat.le_refl _

theorem sstep_append {w : World} {ops : Array Oper} {o : Oper} {a : Act} {K : Act → World → Prop} {Q : Exit → Act → World → Prop} {E : Prop} (hgd : o.guard = none) (s x : Operand)
    (ho : o.op = .call { callee := .builtin .append, args := #[s, x], argTypes := #[105, 105] }) {B m c : Nat} {v : Value} {q l : List (Nat → Bool)} {ad : Option Addr} (hs : a.eval s = v) (hx : a.eval x = .slice ad m c)
    (hown : OwnS w B v q) (hB : B ≤ w.heap.size) (hv : SView w ad l) (hl : l.length = m) (hsm : q.length + m ≤ 1000000) (hn : ad = none → m = 0) (N : Nat) (hN : q.length + m = N)
    (h : ∀ a' cp' w', OwnS w' B (.slice a' N cp') (q ++ l) → w.grownBy w' v.ownBlock → (∀ k, (Value.slice a' N cp').ownBlock = some k → v.ownBlock = some k ∨ w.heap.size ≤ k) → K (a.put o.dst (.slice a' N cp')) w') :
    if Region.wanted o (yielded ops a.tmps) = true then Oper.wp Try.prog o a w K Q else E := by
  have hw : Region.wanted o (yielded ops a.tmps) = true := by simp [Region.wanted, hgd]
  rw [if_pos hw]
  obtain ⟨v', w', hr, h2, h3, h4⟩ := append_sview (c := c) hown hB hv hl hsm hn o.type
  obtain ⟨a', cp', hv', _⟩ := h2.slice
  rw [List.length_append, hl, hN] at hv'
  subst hv'
  unfold Oper.wp execOp
  simp only [ho, resolve, invoke, builtin, Sem.run_bind, Sem.run_pure, Result.andThen_ok, List.map_toArray, List.map_cons, List.map_nil, hs, hx, hr]
  exact h a' cp' w' h2 h3 h4
theorem wp_sappend {ops : Array Oper} {rest : List Oper} {o : Oper} {a : Act} {Q : Exit → Act → World → Prop} {w : World} (hgd : o.guard = none) (s x : Operand)
    (ho : o.op = .call { callee := .builtin .append, args := #[s, x], argTypes := #[105, 105] }) {B m c : Nat} {v : Value} {q l : List (Nat → Bool)} {ad : Option Addr} (hs : a.eval s = v) (hx : a.eval x = .slice ad m c)
    (hown : OwnS w B v q) (hB : B ≤ w.heap.size) (hv : SView w ad l) (hl : l.length = m) (hsm : q.length + m ≤ 1000000) (hn : ad = none → m = 0) (N : Nat) (hN : q.length + m = N)
    (h : ∀ a' cp' w', OwnS w' B (.slice a' N cp') (q ++ l) → w.grownBy w' v.ownBlock → (∀ k, (Value.slice a' N cp').ownBlock = some k → v.ownBlock = some k ∨ w.heap.size ≤ k) → wpList Try.prog ops Q rest (a.put o.dst (.slice a' N cp')) w') : wpList Try.prog ops Q (o :: rest) a w :=
  wpList_step fun _ hK => sstep_append hgd s x ho hs hx hown hB hv hl hsm hn N hN (fun a' cp' w' o' g' l' => hK _ _ (h a' cp' w' o' g' l'))



end Go.Proofs.Ytlglncnhhgofoaa

/-
  The walks over what is told of a task: whether its sets are told at all, how many, a place; the last set of a row.
-/
namespace Go.Proofs.Ytlglncnhhgofoaa
open Go.RowKit Go.Maps

/-- What is promised of a task here: short, few sets. -/
structure l_Told (x : TV) : Prop where
  c1 : 1 ≤ x.c
  c30 : x.c ≤ 1073741824
  n64 : x.us.length ≤ 64
  us : ∀ u ∈ x.us, 0 ≤ u ∧ u < 256
theorem Good.told {i s : Int} {x : TV} (h : Good i s x) (hs : s ≤ 8) : l_Told x :=
  ⟨h.c1, by have := h.cd; have := h.dt; have := h.t24; omega, by have := h.us5; omega, fun u hu => ⟨(h.us u hu).1, by have := (h.us u hu).2; omega⟩⟩

set_option maxRecDepth 100000 in
set_option maxHeartbeats 2000000 in
theorem told_any (x : TV) (h : l_Told x) (w : World) : Calls Try.prog 78 #[.agg #[.int .i64 x.id, .int .i64 x.c, .int .i64 x.d, .int .i64 x.t, .int .i64 x.p, .slice x.a1 x.ch.length x.c1, .slice x.a2 x.us.length x.c2]] w fun e w' => e = .returned (.bool true) ∧ Below w.heap.size w w' := by
  have h1 := h.c1
  have h2 : x.c ≤ 1073741824 := h.c30
  have h3 : (x.us.length : Int) ≤ 64 := by have := h.n64; omega
  have d1 : decide (1 ≤ x.c) = true := decide_eq_true h1
  have d2 : decide (x.c ≤ 1073741824) = true := decide_eq_true h2
  have d3 : decide ((x.us.length : Int) ≤ 64) = true := decide_eq_true h3
  clear h
  generalize x.us.length = n at *
  generalize x.c = c at *
  go_enter Try.func78, Try.ntmps78
  go_wp2_with fail
  go_ret
  exact ⟨rfl, (by repeat (first | exact Below.refl _ _ | (with_reducible assumption) | refine bw_alloc ?_ _ | refine bw_drew ?_))⟩
set_option maxRecDepth 100000 in
set_option maxHeartbeats 2000000 in
theorem round_any (x : TV) (h : l_Told x) (w : World) : Calls Try.prog 82 #[.agg #[.int .i64 x.id, .int .i64 x.c, .int .i64 x.d, .int .i64 x.t, .int .i64 x.p, .slice x.a1 x.ch.length x.c1, .slice x.a2 x.us.length x.c2]] w fun e w' => e = .returned (.int .i64 x.us.length) ∧ Below w.heap.size w w' := by
  have h3 : x.us.length ≤ 64 := h.n64
  have e1 : IntKind.i64.wrap (x.us.length : Int) = x.us.length := IntWalk.i64_in _ (by omega)
  clear h
  generalize x.us.length = n at *
  go_enter Try.func82, Try.ntmps82
  go_wp2_with fail
  go_ret
  exact ⟨rfl, (by repeat (first | exact Below.refl _ _ | (with_reducible assumption) | refine bw_alloc ?_ _ | refine bw_drew ?_))⟩
set_option maxRecDepth 100000 in
set_option maxHeartbeats 2000000 in
theorem place_any (x : TV) (h : l_Told x) (C p : Nat) (hC : x.c = (C : Int)) (w : World) : Calls Try.prog 102 #[.agg #[.int .i64 x.id, .int .i64 x.c, .int .i64 x.d, .int .i64 x.t, .int .i64 x.p, .slice x.a1 x.ch.length x.c1, .slice x.a2 x.us.length x.c2], .int .i64 (p : Int)] w fun e w' => e = .returned (.int .i64 (min p C : Nat)) ∧ Below w.heap.size w w' := by
  rw [hC]
  clear h hC
  have h0 : ¬ (p : Int) < 0 := by omega
  by_cases hp : C < p
  · have h1 : (C : Int) < (p : Int) := by omega
    rw [Nat.min_eq_right (by omega : C ≤ p)]
    go_enter Try.func102, Try.ntmps102
    go_wp2_with fail
    go_ret
    exact ⟨by first | rfl | (simp; done) | (simp; omega), (by repeat (first | exact Below.refl _ _ | (with_reducible assumption) | refine bw_alloc ?_ _ | refine bw_drew ?_))⟩
  · have h1 : ¬ (C : Int) < (p : Int) := by omega
    rw [Nat.min_eq_left (by omega : p ≤ C)]
    go_enter Try.func102, Try.ntmps102
    go_wp2_with fail
    go_ret
    exact ⟨by first | rfl | (simp; done) | (simp; omega), (by repeat (first | exact Below.refl _ _ | (with_reducible assumption) | refine bw_alloc ?_ _ | refine bw_drew ?_))⟩

/-- What is told of a set. -/
def SetBack (p : Nat → Bool) (w : World) (e : Ending) (w' : World) : Prop := e = .returned (.agg #[.int .u64 (wd p 0), .int .u64 (wd p 1), .int .u64 (wd p 2), .int .u64 (wd p 3)]) ∧ Below w.heap.size w w'
theorem wordsAt_0 (x0 x1 x2 x3 : Nat) : (#[.int .u64 x0, .int .u64 x1, .int .u64 x2, .int .u64 x3] : Array Value)[0]? = some (.int .u64 x0) := rfl
set_option maxRecDepth 100000 in
set_option maxHeartbeats 4000000 in
theorem last_any (l : List (Nat → Bool)) (p : Nat → Bool) (n : Nat) (hn : l.length = n + 1) (hl : l[n]? = some p) (hs : n ≤ 1000000) (a : Option Addr) (c : Nat) (w : World) (hv : SView w a l) : Calls Try.prog 98 #[.slice a (n + 1 : Nat) c] w (SetBack p w) := by
  obtain ⟨g, o, rfl, ⟨c0, c1, c2, c3⟩⟩ := hv.at_ hl
  have g0 := block_of_cell c0
  have e1 : IntKind.i64.wrap (((n + 1 : Nat) : Int) - 1) = n := by rw [show ((n + 1 : Nat) : Int) - 1 = n by omega]; exact IntWalk.i64_in _ (by omega)
  have e2 : IntKind.i64.wrap ((n : Int) + 1 - 1) = n := by rw [show (n : Int) + 1 - 1 = n by omega]; exact IntWalk.i64_in _ (by omega)
  have e3 : (n : Int) < (n : Int) + 1 := by omega
  have e4 : (0 : Int) ≤ n := by omega
  clear hv hl hn
  unfold SetBack
  generalize wd p 0 = x0 at *
  generalize wd p 1 = x1 at *
  generalize wd p 2 = x2 at *
  generalize wd p 3 = x3 at *
  go_enter Try.func98, Try.ntmps98
  go_wp2_with fail
  refine bodyPost_ret (v := .agg #[.int .u64 x0, .int .u64 x1, .int .u64 x2, .int .u64 x3]) ?_ rfl ⟨rfl, (by repeat (first | exact Below.refl _ _ | (with_reducible assumption) | refine bw_alloc ?_ _ | refine bw_drew ?_))⟩
  have q0 := World.cell?_alloc_new w #[.int .u64 x0, .int .u64 x1, .int .u64 x2, .int .u64 x3] 47
  simp [results, Try.results98, go_sem, q0]
end Go.Proofs.Ytlglncnhhgofoaa

/-
  The walk over the sets of a row that belong to one, told one by one.
-/
namespace Go.Proofs.Ytlglncnhhgofoaa
open Go.RowKit Go.Maps Go.Shelf
attribute [local go_sem] Oper.semAt_some

/-- What is kept: what is walked over, and some blocks of cells. -/
def KpS (S : Nat → Prop) (W W' : World) : Prop := KeepsWalks W W' ∧ ∀ k cs T fr, S k → W.heap[k]? = some (.cells cs T fr) → W'.heap[k]? = some (.cells cs T fr)
theorem kpS_t {S : Nat → Prop} {A B C : World} (h : KpS S A B) (k : KpS S B C) : KpS S A C := ⟨h.1.trans k.1, fun i cs T fr q z => k.2 i cs T fr q (h.2 i cs T fr q z)⟩
theorem kpS_b {S : Nat → Prop} {B : Nat} (W : World) (l : Nat) (o o' : Obj) (_ : B ≤ l) (h : W.heap[l]? = some o) (hc : o.isCells = false) (hw : o.isWalk = false) : KpS S W (W.putObj l o') := by
  refine ⟨KeepsWalks.putObj _ h hw, fun k cs T fr _ z => ?_⟩
  by_cases e : k = l
  · subst e
    rw [z] at h
    cases h
    cases hc
  · exact (World.putObj_heap_other e).trans z
/-- The sets of the first k that belong to o. -/
def ofsN (L : Nat → Int) (o : Int) (k : Nat) : List Int := ((List.range k).filter (fun i => decide (L i = o))).map (fun i : Nat => (i : Int))
theorem ofs_yes {L : Nat → Int} {o : Int} {k : Nat} (h : L k = o) : ofsN L o (k + 1) = ofsN L o k ++ [(k : Int)] := by unfold ofsN; rw [List.range_succ, List.filter_append]; simp [h]
theorem ofs_no {L : Nat → Int} {o : Int} {k : Nat} (h : ¬ L k = o) : ofsN L o (k + 1) = ofsN L o k := by unfold ofsN; rw [List.range_succ, List.filter_append]; simp [h]
theorem ofs_len (L : Nat → Int) (o : Int) (k : Nat) : (ofsN L o k).length ≤ k := by
  unfold ofsN; rw [List.length_map]; exact Nat.le_trans (List.length_filter_le _ _) (by simp)
/-- What the one that tells reads: its two boxes, the cache. -/
structure IterC (W : World) (Bc Bo b r n : Nat) (L : Nat → Int) (o : Int) : Prop where
  bc : W.heap[Bc]? = some (.cells #[.pointer (some ⟨b, 0, none⟩)] 44 (0, 0))
  bo : W.heap[Bo]? = some (.cells #[.int .i64 o] 3 (0, 0))
  ch : Ch CT W b r n L
def IterS (Bc Bo b r : Nat) (k : Nat) : Prop := k = Bc ∨ k = Bo ∨ k = b ∨ k = r
theorem IterC.kept {W W' : World} {Bc Bo b r n : Nat} {L : Nat → Int} {o : Int} (h : IterC W Bc Bo b r n L o) (hk : KpS (IterS Bc Bo b r) W W') : IterC W' Bc Bo b r n L o := by
  obtain ⟨cur, hb, h1, h2⟩ := h.ch.row
  exact ⟨hk.2 _ _ _ _ (.inl rfl) h.bc, hk.2 _ _ _ _ (.inr (.inl rfl)) h.bo, ⟨hk.2 _ _ _ _ (.inr (.inr (.inl rfl))) h.ch.str, ⟨cur, hk.2 _ _ _ _ (.inr (.inr (.inr rfl))) hb, h1, h2⟩, h.ch.ne, h.ch.few, h.ch.wf⟩⟩
theorem IterC.below {W W' : World} {Bc Bo b r n : Nat} {L : Nat → Int} {o : Int} (h : IterC W Bc Bo b r n L o) (hk : Below W.heap.size W W') : IterC W' Bc Bo b r n L o :=
  ⟨kept_obj hk h.bc, kept_obj hk h.bo, h.ch.below hk⟩
theorem grown_drew (W : World) : W.grownBy W.drew none := ⟨rfl, rfl, rfl, Nat.le_refl _, fun _ _ _ => rfl⟩
/-- One answer or the other one. -/
theorem told_or {e : Ending} {A B : Prop} (h : (e = .returned (.bool true) ∧ A) ∨ (e = .returned (.bool false) ∧ B)) : ∃ q, e = .returned (.bool q) ∧ Hid ((q = true → A) ∧ (q = false → B)) := by
  rcases h with ⟨h, a⟩ | ⟨h, b⟩
  · exact ⟨true, h, fun _ => a, fun q => by cases q⟩
  · exact ⟨false, h, fun q => by (cases q), fun _ => b⟩
theorem sets_fn : Fence.wide.fn 72 := trivial

/-- A set's number. -/
abbrev SetNo := { x : Int // x ≤ 255 }
theorem stops_of {n m : Nat} {lb : Array Value} {Kp : World → World → Prop} {S : List Int → Prop} {N : Nat} {gf : Nat} {w : World}
    (h : ∀ (l : Nat) (J Jx : List Int → World → Prop) (W : World), Below w.heap.size w W → AbidesFrom W.heap.size J →
      (∀ pre x W1, x ≤ 255 → J pre W1 → pre.length < N → YieldAt Fence.wide (n - 1) Try.prog l #[.int .i64 x] W1 fun e W' => (e = .returned (.bool true) ∧ J (pre ++ [x]) W' ∧ Kp W1 W') ∨ (e = .returned (.bool false) ∧ Jx (pre ++ [x]) W')) →
      J [] W → CallsIn Fence.wide n Try.prog gf (#[.func (.yield l) #[] #[]] ++ lb) W fun e W' => (∃ v, e = .returned v) ∧ ((∃ ys, S ys ∧ J ys W') ∨ (∃ pre, True ∧ Jx pre W'))) :
    SeqStopsK Fence.wide n Try.prog gf lb (fun x : SetNo => #[.int .i64 x.1]) Kp (fun ys => S (ys.map Subtype.val)) (fun _ => True) N w := fun l J Jx W hW hJ _ hY h0 => by
  refine (h l (fun pre W => ∃ ys : List SetNo, ys.map Subtype.val = pre ∧ J ys W) (fun pre W => ∃ ys : List SetNo, ys.map Subtype.val = pre ∧ Jx ys W) W hW (fun s X Y row ⟨ys, e, hs⟩ hg hr => ⟨ys, e, hJ ys X Y row hs hg hr⟩) ?_ ⟨[], rfl, h0⟩).mono ?_
  · rintro pre x W1 hx ⟨ys, rfl, hs⟩ hlt
    refine (hY ys ⟨x, hx⟩ W1 hs (by simpa using hlt)).mono ?_
    rintro e W' (⟨he, hj, hk⟩ | ⟨he, hj⟩)
    · exact .inl ⟨he, ⟨ys ++ [⟨x, hx⟩], by simp, hj⟩, hk⟩
    · exact .inr ⟨he, ⟨ys ++ [⟨x, hx⟩], by simp, hj⟩⟩
  · rintro e W' ⟨he, ⟨_, hS, ys, rfl, hj⟩ | ⟨_, _, ys, rfl, hj⟩⟩
    · exact ⟨he, .inl ⟨ys, hS, hj⟩⟩
    · exact ⟨he, .inr ⟨ys, trivial, hj⟩⟩
end Go.Proofs.Ytlglncnhhgofoaa

/-
  The walks over the ticks from 0 on, and those below an end, the last one first, told one by one.
-/
namespace Go.Proofs.Ytlglncnhhgofoaa
open Go.RowKit Go.Maps Go.Shelf
attribute [local go_sem] Oper.semAt_some

theorem up_pre {k m : Nat} (h : k ≤ m) : upT k <+: upT m := by
  rw [← upT_take m k h]; exact List.take_prefix _ _
theorem down_pre {C k m : Nat} (h : k ≤ m) : downT C k <+: downT C m := by
  rw [← downT_take C m k h]; exact List.take_prefix _ _
/-- What tells ticks. -/
def Tells (gf : Nat) (lb : Array Value) (S : Nat → Prop) (l : List Nat) (w : World) : Prop :=
  ∀ n, 1 ≤ n → SeqStopsK Fence.wide n Try.prog gf lb (fun x : Nat => #[.int .i64 (x : Int)]) (KpS S) (fun ys => ys = l) (fun pre => pre <+: l) 2000000000 w

set_option maxRecDepth 200000000000 in
set_option maxHeartbeats 4000000 in
theorem rising1_in (n : Nat) (hn : 1 ≤ n) (l Be m : Nat) (hm : m ≤ 1073741824) (S : Nat → Prop) (hS : S Be) (J Jx : List Nat → World → Prop) (W : World)
    (hY : ∀ pre (x : Nat) W1, J pre W1 → pre.length < 2000000000 → YieldAt Fence.wide (n - 1) Try.prog l #[.int .i64 (x : Int)] W1 fun e W' =>
      (e = .returned (.bool true) ∧ J (pre ++ [x]) W' ∧ KpS S W1 W') ∨ (e = .returned (.bool false) ∧ Jx (pre ++ [x]) W'))
    (hB : W.heap[Be]? = some (.cells #[.int .i64 (m : Int)] 2 (0, 0))) (h0 : J [] W) :
    CallsIn Fence.wide n Try.prog 99 #[.func (.yield l) #[] #[], .pointer (some ⟨Be, 0, none⟩)] W fun e W' => (∃ v, e = .returned v) ∧
      ((∃ ys, ys = upT m ∧ J ys W') ∨ (∃ pre, pre <+: upT m ∧ Jx pre W')) := by
  have HY := Lib.hid hY
  have HB := Lib.hid hB
  have H0 : Hid (J (upT 0) W) := h0
  clear hY hB h0
  refine callsIn_of_wp Try.func99 rfl trivial ?_ rfl
  simp only [Try.ntmps99, List.size_toArray, List.length_cons, List.length_nil, Nat.reduceAdd, Nat.reduceSub, Array.replicate_succ, Array.replicate_zero, List.push_toArray, List.append_toArray, List.nil_append, List.cons_append]
  gi_wp2
  gi_loopw [3] (fun u wr => ∃ k : Nat, k ≤ m ∧ u = .int .i64 k ∧ Hid (J (upT k) wr) ∧ Hid (wr.heap[Be]? = some (.cells #[.int .i64 (m : Int)] 2 (0, 0)))) (fun u _ => (m - intOf u).toNat)
  case atStart => exact ⟨0, by omega, rfl, H0, HB⟩
  case round =>
    obtain ⟨k, hk, rfl, HJk, HI⟩ := hrel
    have k0 : wr.cell? ⟨Be, 0, none⟩ = some (.int .i64 (m : Int)) := by rw [blk_cell HI.out]; rfl
    by_cases hlt : k < m
    · have hlt' : (k : Int) < (m : Int) := by omega
      obtain ⟨fn, tmps, assign, body, hy, hR⟩ := HY.out (upT k) k wr HJk.out (by rw [upT_len]; omega)
      have HR := Lib.hid hR
      clear HJk hR
      gi_wp2_with ((refine HR.out.mono ?_); rintro e W3 h3; obtain ⟨q, rfl, H3⟩ := told_or h3; clear h3)
      · have HX := Lib.hid (H3.out.1 (by assumption))
        clear H3
        go_roundw
        case rel => exact ⟨k + 1, by omega, by go_num, by rw [upT_succ]; exact HX.out.1, HX.out.2.2 _ _ _ _ hS HI.out⟩
        case measure => simp [intOf]; omega
      · have HX := Lib.hid (H3.out.2 (by assumption))
        clear H3
        go_end0
        exact ⟨⟨_, rfl⟩, .inr ⟨_, by have := up_pre (k := k + 1) (m := m) (by omega); rwa [upT_succ] at this, HX.out⟩⟩
    · obtain rfl : k = m := by omega
      gi_wp2
      refine ⟨fun _ h => (by cases h), ?_⟩
      gi_wp2
      go_end0
      exact ⟨⟨_, rfl⟩, .inl ⟨_, rfl, HJk.out⟩⟩
set_option maxRecDepth 200000000000 in
set_option maxHeartbeats 4000000 in
theorem falling1_in (n : Nat) (hn : 1 ≤ n) (l Be Bf C a : Nat) (hC : C ≤ 1073741824) (ha : a ≤ C) (S : Nat → Prop) (hS : S Be) (hS2 : S Bf) (J Jx : List Nat → World → Prop) (W : World)
    (hY : ∀ pre (x : Nat) W1, J pre W1 → pre.length < 2000000000 → YieldAt Fence.wide (n - 1) Try.prog l #[.int .i64 (x : Int)] W1 fun e W' =>
      (e = .returned (.bool true) ∧ J (pre ++ [x]) W' ∧ KpS S W1 W') ∨ (e = .returned (.bool false) ∧ Jx (pre ++ [x]) W'))
    (hB : W.heap[Be]? = some (.cells #[.int .i64 (C : Int)] 2 (0, 0))) (hB2 : W.heap[Bf]? = some (.cells #[.int .i64 (a : Int)] 2 (0, 0))) (h0 : J [] W) :
    CallsIn Fence.wide n Try.prog 100 #[.func (.yield l) #[] #[], .pointer (some ⟨Be, 0, none⟩), .pointer (some ⟨Bf, 0, none⟩)] W fun e W' => (∃ v, e = .returned v) ∧
      ((∃ ys, ys = downT C (C - a) ∧ J ys W') ∨ (∃ pre, pre <+: downT C (C - a) ∧ Jx pre W')) := by
  have HY := Lib.hid hY
  have HB := Lib.hid hB
  have HB2 := Lib.hid hB2
  have e0 : W.cell? ⟨Be, 0, none⟩ = some (.int .i64 (C : Int)) := by rw [blk_cell hB]; rfl
  have e1 : IntKind.i64.wrap ((C : Int) - 1) = (C : Int) - 1 := IntWalk.i64_in _ (by omega)
  have H0 : Hid (J (downT C 0) W) := h0
  clear hY hB hB2 h0
  refine callsIn_of_wp Try.func100 rfl trivial ?_ rfl
  simp only [Try.ntmps100, List.size_toArray, List.length_cons, List.length_nil, Nat.reduceAdd, Nat.reduceSub, Array.replicate_succ, Array.replicate_zero, List.push_toArray, List.append_toArray, List.nil_append, List.cons_append]
  gi_wp2
  gi_loopw [4] (fun u wr => ∃ k : Nat, k ≤ C - a ∧ u = .int .i64 ((C : Int) - 1 - k) ∧ Hid (J (downT C k) wr) ∧ Hid (wr.heap[Bf]? = some (.cells #[.int .i64 (a : Int)] 2 (0, 0)))) (fun u _ => (intOf u + 1 - a).toNat)
  case atStart => exact ⟨0, by omega, by simp, H0, HB2⟩
  case round =>
    obtain ⟨k, hk, rfl, HJk, HI⟩ := hrel
    clear e0 e1
    have k0 : wr.cell? ⟨Bf, 0, none⟩ = some (.int .i64 (a : Int)) := by rw [blk_cell HI.out]; rfl
    by_cases hlt : k < C - a
    · obtain ⟨x, hx⟩ : ∃ x : Nat, x = C - 1 - k := ⟨_, rfl⟩
      have hxe : (C : Int) - 1 - k = (x : Int) := by omega
      have hlt' : (a : Int) ≤ (x : Int) := by omega
      have hx1 : IntKind.i64.wrap ((x : Int) - 1) = (x : Int) - 1 := IntWalk.i64_in _ (by omega)
      obtain ⟨fn, tmps, assign, body, hy, hR⟩ := HY.out (downT C k) x wr HJk.out (by rw [downT_len]; omega)
      have HXE := Lib.hid hx
      rw [hxe]
      clear hx
      have HR := Lib.hid hR
      clear HJk hR
      gi_wp2_with ((refine HR.out.mono ?_); rintro e W3 h3; obtain ⟨q, rfl, H3⟩ := told_or h3; clear h3)
      · have HX := Lib.hid (H3.out.1 (by assumption))
        clear H3
        go_roundw
        case rel => exact ⟨k + 1, by omega, by congr 1; omega, by rw [downT_succ, ← HXE.out]; exact HX.out.1, HX.out.2.2 _ _ _ _ hS2 HI.out⟩
        case measure => simp [intOf]; omega
      · have HX := Lib.hid (H3.out.2 (by assumption))
        clear H3
        go_end0
        exact ⟨⟨_, rfl⟩, .inr ⟨_, by have := down_pre (C := C) (k := k + 1) (m := C - a) (by omega); rwa [downT_succ, ← HXE.out] at this, HX.out⟩⟩
    · obtain rfl : k = C - a := by omega
      have hlt' : ¬ (a : Int) ≤ (C : Int) - 1 - ((C - a : Nat) : Int) := by omega
      gi_wp2
      refine ⟨fun _ h => (by cases h), ?_⟩
      gi_wp2
      go_end0
      exact ⟨⟨_, rfl⟩, .inl ⟨_, rfl, HJk.out⟩⟩

theorem tells_of {gf : Nat} {lb : Array Value} {S : Nat → Prop} {q : List Nat} {w : World}
    (h : ∀ n, 1 ≤ n → ∀ (l : Nat) (J Jx : List Nat → World → Prop) (W : World), Below w.heap.size w W →
      (∀ pre (x : Nat) W1, J pre W1 → pre.length < 2000000000 → YieldAt Fence.wide (n - 1) Try.prog l #[.int .i64 (x : Int)] W1 fun e W' => (e = .returned (.bool true) ∧ J (pre ++ [x]) W' ∧ KpS S W1 W') ∨ (e = .returned (.bool false) ∧ Jx (pre ++ [x]) W')) →
      J [] W → CallsIn Fence.wide n Try.prog gf (#[.func (.yield l) #[] #[]] ++ lb) W fun e W' => (∃ v, e = .returned v) ∧ ((∃ ys, ys = q ∧ J ys W') ∨ (∃ pre, pre <+: q ∧ Jx pre W'))) : Tells gf lb S q w :=
  fun n hn l J Jx W hW _ _ hY h0 => h n hn l J Jx W hW hY h0
theorem rising_tells (Be m : Nat) (hm : m ≤ 1073741824) (w : World) (hB : w.heap[Be]? = some (.cells #[.int .i64 (m : Int)] 2 (0, 0))) :
    Tells 99 #[.pointer (some ⟨Be, 0, none⟩)] (fun k => k = Be) (upT m) w :=
  tells_of fun n hn l J Jx W hW hY h0 => rising1_in n hn l Be m hm (fun k => k = Be) rfl J Jx W hY (kept_obj hW hB) h0
theorem falling_tells (Be Bf C a : Nat) (hC : C ≤ 1073741824) (ha : a ≤ C) (w : World) (hB : w.heap[Be]? = some (.cells #[.int .i64 (C : Int)] 2 (0, 0))) (hB2 : w.heap[Bf]? = some (.cells #[.int .i64 (a : Int)] 2 (0, 0))) :
    Tells 100 #[.pointer (some ⟨Be, 0, none⟩), .pointer (some ⟨Bf, 0, none⟩)] (fun k => k = Be ∨ k = Bf) (downT C (C - a)) w :=
  tells_of fun n hn l J Jx W hW hY h0 => falling1_in n hn l Be Bf C a hC ha (fun k => k = Be ∨ k = Bf) (.inl rfl) (.inr rfl) J Jx W hY (kept_obj hW hB) (kept_obj hW hB2) h0
theorem Tells.below {gf : Nat} {lb : Array Value} {S : Nat → Prop} {q : List Nat} {w w' : World} (h : Tells gf lb S q w) (hb : Below w.heap.size w w') : Tells gf lb S q w' :=
  fun n hn l J Jx W hW a b c d => h n hn l J Jx W (below_up hb hW) a b c d
set_option maxRecDepth 200000000000 in
/-- The one that tells the ticks from 0 on. -/
theorem rising_any (m : Nat) (w : World) : Calls Try.prog 80 #[.int .i64 (m : Int)] w fun e w' => e = .returned (.func (.func 99) #[] #[.pointer (some ⟨w.heap.size, 0, none⟩)]) ∧ w' = w.alloc (.cells #[.int .i64 (m : Int)] 2) := by
  have hmf : ∀ (fn : Fn) (first cap : Array Value) (w : World), (Instr.makeFunc fn first cap).run Try.prog w = .ok (.func fn first cap) w := fun _ _ _ _ => rfl
  go_enter Try.func80, Try.ntmps80
  go_wp2
  go_ret
  exact ⟨rfl, rfl⟩
set_option maxRecDepth 200000000000 in
/-- The one that tells the ticks below an end. -/
theorem falling_any (C a : Nat) (w : World) : Calls Try.prog 81 #[.int .i64 (C : Int), .int .i64 (a : Int)] w fun e w' => e = .returned (.func (.func 100) #[] #[.pointer (some ⟨w.heap.size, 0, none⟩), .pointer (some ⟨w.heap.size + 1, 0, none⟩)]) ∧ w' = (w.alloc (.cells #[.int .i64 (C : Int)] 2)).alloc (.cells #[.int .i64 (a : Int)] 2) := by
  have hmf : ∀ (fn : Fn) (first cap : Array Value) (w : World), (Instr.makeFunc fn first cap).run Try.prog w = .ok (.func fn first cap) w := fun _ _ _ _ => rfl
  go_enter Try.func81, Try.ntmps81
  go_wp2
  go_ret
  exact ⟨rfl, rfl⟩
end Go.Proofs.Ytlglncnhhgofoaa

/-
  The walks over the document's own answers: one number put in, taken out.
-/
namespace Go.Proofs.Ytlglncnhhgofoaa
open Go.RowKit

theorem set4_results {w : World} {b y0 y1 y2 y3 : Nat} (h : Four w b y0 y1 y2 y3) (x0 x1 x2 x3 : Nat) :
    ((((w.setCell ⟨b, 0, none⟩ (.int .u64 x0)).setCell ⟨b, 1, none⟩ (.int .u64 x1)).setCell ⟨b, 2, none⟩ (.int .u64 x2)).setCell ⟨b, 3, none⟩ (.int .u64 x3)).cell? ⟨b, 0, none⟩ = some (.int .u64 x0) ∧
    ((((w.setCell ⟨b, 0, none⟩ (.int .u64 x0)).setCell ⟨b, 1, none⟩ (.int .u64 x1)).setCell ⟨b, 2, none⟩ (.int .u64 x2)).setCell ⟨b, 3, none⟩ (.int .u64 x3)).cell? ⟨b, 1, none⟩ = some (.int .u64 x1) ∧
    ((((w.setCell ⟨b, 0, none⟩ (.int .u64 x0)).setCell ⟨b, 1, none⟩ (.int .u64 x1)).setCell ⟨b, 2, none⟩ (.int .u64 x2)).setCell ⟨b, 3, none⟩ (.int .u64 x3)).cell? ⟨b, 2, none⟩ = some (.int .u64 x2) ∧
    ((((w.setCell ⟨b, 0, none⟩ (.int .u64 x0)).setCell ⟨b, 1, none⟩ (.int .u64 x1)).setCell ⟨b, 2, none⟩ (.int .u64 x2)).setCell ⟨b, 3, none⟩ (.int .u64 x3)).cell? ⟨b, 3, none⟩ = some (.int .u64 x3) := by
  obtain ⟨s0, s1, s2, s3, _, _, _, _⟩ := h.set4 x0 x1 x2 x3
  unfold set4 at s0 s1 s2 s3
  exact ⟨s0, s1, s2, s3⟩

set_option maxHeartbeats 2000000 in
theorem rwith_low (x0 x1 x2 x3 : Nat) (i : Int) (h : i < 0) (w : World)
    (C : Hid (∀ w, Calls Try.prog 64 #[.agg #[.int .u64 x0, .int .u64 x1, .int .u64 x2, .int .u64 x3], .int .i64 i] w fun e w' => e = .returned (.bool false) ∧ Below w.heap.size w w')) :
    Calls Try.prog 39 #[.agg #[.int .u64 x0, .int .u64 x1, .int .u64 x2, .int .u64 x3], .int .i64 i] w fun e w' => e = .returned (.agg #[.int .u64 x0, .int .u64 x1, .int .u64 x2, .int .u64 x3]) ∧ Below w.heap.size w w' := by
  have FA := Lib.hid ((Four.new w x0 x1 x2 x3 47).alloc (.cells #[.int .u64 0, .int .u64 0, .int .u64 0, .int .u64 0] 47))
  have FZ := Four.new (w.alloc (.cells #[.int .u64 x0, .int .u64 x1, .int .u64 x2, .int .u64 x3] 47)) 0 0 0 0 47
  rw [World.size_alloc] at FZ
  have FZ := Lib.hid FZ
  have HB := Lib.hid (((Below.refl w.heap.size w).alloc (Nat.le_refl _) (.cells #[.int .u64 x0, .int .u64 x1, .int .u64 x2, .int .u64 x3] 47)).alloc (by simp) (.cells #[.int .u64 0, .int .u64 0, .int .u64 0, .int .u64 0] 47))
  go_enter Try.func39, Try.ntmps39
  go_wp2_with (go_at_call 64; (refine (C.out _).mono ?_); rintro e w1 ⟨rfl, hw1⟩; have FA1 := Lib.hid (FA.out.kept hw1); have FZ1 := Lib.hid (FZ.out.kept hw1); have HB1 := Lib.hid (below_next hw1 HB.out (Nat.le_refl _)); obtain ⟨a0, a1, a2, a3, c0, c1, c2, c3⟩ := FA1.out; obtain ⟨z0, z1, z2, z3, v0, v1, v2, v3⟩ := FZ1.out; clear hw1)
  refine bodyPost_ret (v := .agg #[.int .u64 x0, .int .u64 x1, .int .u64 x2, .int .u64 x3]) ?_ rfl ⟨rfl, below_set4 HB1.out (by simp) x0 x1 x2 x3⟩
  obtain ⟨s0, s1, s2, s3⟩ := set4_results FZ1.out x0 x1 x2 x3
  simp [results, Try.results39, go_sem, s0, s1, s2, s3]

set_option maxHeartbeats 2000000 in
theorem rwith_high (x0 x1 x2 x3 : Nat) (i : Int) (h0 : 0 ≤ i) (h : 255 < i) (w : World)
    (C : Hid (∀ w, Calls Try.prog 64 #[.agg #[.int .u64 x0, .int .u64 x1, .int .u64 x2, .int .u64 x3], .int .i64 i] w fun e w' => e = .returned (.bool false) ∧ Below w.heap.size w w')) :
    Calls Try.prog 39 #[.agg #[.int .u64 x0, .int .u64 x1, .int .u64 x2, .int .u64 x3], .int .i64 i] w fun e w' => e = .returned (.agg #[.int .u64 x0, .int .u64 x1, .int .u64 x2, .int .u64 x3]) ∧ Below w.heap.size w w' := by
  have FA := Lib.hid ((Four.new w x0 x1 x2 x3 47).alloc (.cells #[.int .u64 0, .int .u64 0, .int .u64 0, .int .u64 0] 47))
  have FZ := Four.new (w.alloc (.cells #[.int .u64 x0, .int .u64 x1, .int .u64 x2, .int .u64 x3] 47)) 0 0 0 0 47
  rw [World.size_alloc] at FZ
  have FZ := Lib.hid FZ
  have HB := Lib.hid (((Below.refl w.heap.size w).alloc (Nat.le_refl _) (.cells #[.int .u64 x0, .int .u64 x1, .int .u64 x2, .int .u64 x3] 47)).alloc (by simp) (.cells #[.int .u64 0, .int .u64 0, .int .u64 0, .int .u64 0] 47))
  go_enter Try.func39, Try.ntmps39
  go_wp2_with (go_at_call 64; (refine (C.out _).mono ?_); rintro e w1 ⟨rfl, hw1⟩; have FA1 := Lib.hid (FA.out.kept hw1); have FZ1 := Lib.hid (FZ.out.kept hw1); have HB1 := Lib.hid (below_next hw1 HB.out (Nat.le_refl _)); obtain ⟨a0, a1, a2, a3, c0, c1, c2, c3⟩ := FA1.out; obtain ⟨z0, z1, z2, z3, v0, v1, v2, v3⟩ := FZ1.out; clear hw1)
  refine bodyPost_ret (v := .agg #[.int .u64 x0, .int .u64 x1, .int .u64 x2, .int .u64 x3]) ?_ rfl ⟨rfl, below_set4 HB1.out (by simp) x0 x1 x2 x3⟩
  obtain ⟨s0, s1, s2, s3⟩ := set4_results FZ1.out x0 x1 x2 x3
  simp [results, Try.results39, go_sem, s0, s1, s2, s3]

set_option maxHeartbeats 2000000 in
theorem rwith_same (x0 x1 x2 x3 : Nat) (i : Int) (h0 : 0 ≤ i) (h : i ≤ 255) (w : World)
    (C : Hid (∀ w, Calls Try.prog 64 #[.agg #[.int .u64 x0, .int .u64 x1, .int .u64 x2, .int .u64 x3], .int .i64 i] w fun e w' => e = .returned (.bool true) ∧ Below w.heap.size w w')) :
    Calls Try.prog 39 #[.agg #[.int .u64 x0, .int .u64 x1, .int .u64 x2, .int .u64 x3], .int .i64 i] w fun e w' => e = .returned (.agg #[.int .u64 x0, .int .u64 x1, .int .u64 x2, .int .u64 x3]) ∧ Below w.heap.size w w' := by
  have FA := Lib.hid ((Four.new w x0 x1 x2 x3 47).alloc (.cells #[.int .u64 0, .int .u64 0, .int .u64 0, .int .u64 0] 47))
  have FZ := Four.new (w.alloc (.cells #[.int .u64 x0, .int .u64 x1, .int .u64 x2, .int .u64 x3] 47)) 0 0 0 0 47
  rw [World.size_alloc] at FZ
  have FZ := Lib.hid FZ
  have HB := Lib.hid (((Below.refl w.heap.size w).alloc (Nat.le_refl _) (.cells #[.int .u64 x0, .int .u64 x1, .int .u64 x2, .int .u64 x3] 47)).alloc (by simp) (.cells #[.int .u64 0, .int .u64 0, .int .u64 0, .int .u64 0] 47))
  go_enter Try.func39, Try.ntmps39
  go_wp2_with (go_at_call 64; (refine (C.out _).mono ?_); rintro e w1 ⟨rfl, hw1⟩; have FA1 := Lib.hid (FA.out.kept hw1); have FZ1 := Lib.hid (FZ.out.kept hw1); have HB1 := Lib.hid (below_next hw1 HB.out (Nat.le_refl _)); obtain ⟨a0, a1, a2, a3, c0, c1, c2, c3⟩ := FA1.out; obtain ⟨z0, z1, z2, z3, v0, v1, v2, v3⟩ := FZ1.out; clear hw1)
  refine bodyPost_ret (v := .agg #[.int .u64 x0, .int .u64 x1, .int .u64 x2, .int .u64 x3]) ?_ rfl ⟨rfl, below_set4 HB1.out (by simp) x0 x1 x2 x3⟩
  obtain ⟨s0, s1, s2, s3⟩ := set4_results FZ1.out x0 x1 x2 x3
  simp [results, Try.results39, go_sem, s0, s1, s2, s3]

set_option maxHeartbeats 2000000 in
theorem rwith_0 (x0 x1 x2 x3 : Nat) (i : Int) (_h0 : 0 ≤ i) (_h255 : i ≤ 255) (h1 : i / 64 = 0) (j : Nat) (hj : j < 64) (h2 : i % 64 = j) (y : Nat) (hy : x0 + 2 ^ j = y) (hl : y < 18446744073709551616) (w : World)
    (C : Hid (∀ w, Calls Try.prog 64 #[.agg #[.int .u64 x0, .int .u64 x1, .int .u64 x2, .int .u64 x3], .int .i64 i] w fun e w' => e = .returned (.bool false) ∧ Below w.heap.size w w')) :
    Calls Try.prog 39 #[.agg #[.int .u64 x0, .int .u64 x1, .int .u64 x2, .int .u64 x3], .int .i64 i] w fun e w' => e = .returned (.agg #[.int .u64 y, .int .u64 x1, .int .u64 x2, .int .u64 x3]) ∧ Below w.heap.size w w' := by
  have FA := Lib.hid ((Four.new w x0 x1 x2 x3 47).alloc (.cells #[.int .u64 0, .int .u64 0, .int .u64 0, .int .u64 0] 47))
  have FZ := Four.new (w.alloc (.cells #[.int .u64 x0, .int .u64 x1, .int .u64 x2, .int .u64 x3] 47)) 0 0 0 0 47
  rw [World.size_alloc] at FZ
  have FZ := Lib.hid FZ
  have HB := Lib.hid (((Below.refl w.heap.size w).alloc (Nat.le_refl _) (.cells #[.int .u64 x0, .int .u64 x1, .int .u64 x2, .int .u64 x3] 47)).alloc (by simp) (.cells #[.int .u64 0, .int .u64 0, .int .u64 0, .int .u64 0] 47))
  have hs : IntKind.u64.wrap ((x0 : Int) + ((2 ^ j : Nat) : Int)) = (y : Int) := by rw [← Int.natCast_add, hy]; exact u64_nat y hl
  have pw := pow_wrap hj
  clear hl hy
  generalize (2 : Nat) ^ j = z at pw hs
  go_enter Try.func39, Try.ntmps39
  go_wp2_with (go_at_call 64; (refine (C.out _).mono ?_); rintro e w1 ⟨rfl, hw1⟩; have FA1 := Lib.hid (FA.out.kept hw1); have FZ1 := Lib.hid (FZ.out.kept hw1); have HB1 := Lib.hid (below_next hw1 HB.out (Nat.le_refl _)); obtain ⟨a0, a1, a2, a3, c0, c1, c2, c3⟩ := FA1.out; obtain ⟨z0, z1, z2, z3, v0, v1, v2, v3⟩ := FZ1.out; clear hw1)
  refine bodyPost_ret (v := .agg #[.int .u64 y, .int .u64 x1, .int .u64 x2, .int .u64 x3]) ?_ rfl ⟨rfl, below_set4 (HB1.out.setCell (p := ⟨w.heap.size, 0, none⟩) (Nat.le_refl _) _) (by simp) y x1 x2 x3⟩
  obtain ⟨s0, s1, s2, s3⟩ := set4_results (FZ1.out.far (p := ⟨w.heap.size, 0, none⟩) (by simp) (.int .u64 y)) y x1 x2 x3
  simp [results, Try.results39, go_sem, s0, s1, s2, s3]

set_option maxHeartbeats 2000000 in
theorem rwith_1 (x0 x1 x2 x3 : Nat) (i : Int) (_h0 : 0 ≤ i) (_h255 : i ≤ 255) (h1 : i / 64 = 1) (j : Nat) (hj : j < 64) (h2 : i % 64 = j) (y : Nat) (hy : x1 + 2 ^ j = y) (hl : y < 18446744073709551616) (w : World)
    (C : Hid (∀ w, Calls Try.prog 64 #[.agg #[.int .u64 x0, .int .u64 x1, .int .u64 x2, .int .u64 x3], .int .i64 i] w fun e w' => e = .returned (.bool false) ∧ Below w.heap.size w w')) :
    Calls Try.prog 39 #[.agg #[.int .u64 x0, .int .u64 x1, .int .u64 x2, .int .u64 x3], .int .i64 i] w fun e w' => e = .returned (.agg #[.int .u64 x0, .int .u64 y, .int .u64 x2, .int .u64 x3]) ∧ Below w.heap.size w w' := by
  have FA := Lib.hid ((Four.new w x0 x1 x2 x3 47).alloc (.cells #[.int .u64 0, .int .u64 0, .int .u64 0, .int .u64 0] 47))
  have FZ := Four.new (w.alloc (.cells #[.int .u64 x0, .int .u64 x1, .int .u64 x2, .int .u64 x3] 47)) 0 0 0 0 47
  rw [World.size_alloc] at FZ
  have FZ := Lib.hid FZ
  have HB := Lib.hid (((Below.refl w.heap.size w).alloc (Nat.le_refl _) (.cells #[.int .u64 x0, .int .u64 x1, .int .u64 x2, .int .u64 x3] 47)).alloc (by simp) (.cells #[.int .u64 0, .int .u64 0, .int .u64 0, .int .u64 0] 47))
  have hs : IntKind.u64.wrap ((x1 : Int) + ((2 ^ j : Nat) : Int)) = (y : Int) := by rw [← Int.natCast_add, hy]; exact u64_nat y hl
  have pw := pow_wrap hj
  clear hl hy
  generalize (2 : Nat) ^ j = z at pw hs
  go_enter Try.func39, Try.ntmps39
  go_wp2_with (go_at_call 64; (refine (C.out _).mono ?_); rintro e w1 ⟨rfl, hw1⟩; have FA1 := Lib.hid (FA.out.kept hw1); have FZ1 := Lib.hid (FZ.out.kept hw1); have HB1 := Lib.hid (below_next hw1 HB.out (Nat.le_refl _)); obtain ⟨a0, a1, a2, a3, c0, c1, c2, c3⟩ := FA1.out; obtain ⟨z0, z1, z2, z3, v0, v1, v2, v3⟩ := FZ1.out; clear hw1)
  refine bodyPost_ret (v := .agg #[.int .u64 x0, .int .u64 y, .int .u64 x2, .int .u64 x3]) ?_ rfl ⟨rfl, below_set4 (HB1.out.setCell (p := ⟨w.heap.size, 1, none⟩) (Nat.le_refl _) _) (by simp) x0 y x2 x3⟩
  obtain ⟨s0, s1, s2, s3⟩ := set4_results (FZ1.out.far (p := ⟨w.heap.size, 1, none⟩) (by simp) (.int .u64 y)) x0 y x2 x3
  simp [results, Try.results39, go_sem, s0, s1, s2, s3]

set_option maxHeartbeats 2000000 in
theorem rwith_2 (x0 x1 x2 x3 : Nat) (i : Int) (_h0 : 0 ≤ i) (_h255 : i ≤ 255) (h1 : i / 64 = 2) (j : Nat) (hj : j < 64) (h2 : i % 64 = j) (y : Nat) (hy : x2 + 2 ^ j = y) (hl : y < 18446744073709551616) (w : World)
    (C : Hid (∀ w, Calls Try.prog 64 #[.agg #[.int .u64 x0, .int .u64 x1, .int .u64 x2, .int .u64 x3], .int .i64 i] w fun e w' => e = .returned (.bool false) ∧ Below w.heap.size w w')) :
    Calls Try.prog 39 #[.agg #[.int .u64 x0, .int .u64 x1, .int .u64 x2, .int .u64 x3], .int .i64 i] w fun e w' => e = .returned (.agg #[.int .u64 x0, .int .u64 x1, .int .u64 y, .int .u64 x3]) ∧ Below w.heap.size w w' := by
  have FA := Lib.hid ((Four.new w x0 x1 x2 x3 47).alloc (.cells #[.int .u64 0, .int .u64 0, .int .u64 0, .int .u64 0] 47))
  have FZ := Four.new (w.alloc (.cells #[.int .u64 x0, .int .u64 x1, .int .u64 x2, .int .u64 x3] 47)) 0 0 0 0 47
  rw [World.size_alloc] at FZ
  have FZ := Lib.hid FZ
  have HB := Lib.hid (((Below.refl w.heap.size w).alloc (Nat.le_refl _) (.cells #[.int .u64 x0, .int .u64 x1, .int .u64 x2, .int .u64 x3] 47)).alloc (by simp) (.cells #[.int .u64 0, .int .u64 0, .int .u64 0, .int .u64 0] 47))
  have hs : IntKind.u64.wrap ((x2 : Int) + ((2 ^ j : Nat) : Int)) = (y : Int) := by rw [← Int.natCast_add, hy]; exact u64_nat y hl
  have pw := pow_wrap hj
  clear hl hy
  generalize (2 : Nat) ^ j = z at pw hs
  go_enter Try.func39, Try.ntmps39
  go_wp2_with (go_at_call 64; (refine (C.out _).mono ?_); rintro e w1 ⟨rfl, hw1⟩; have FA1 := Lib.hid (FA.out.kept hw1); have FZ1 := Lib.hid (FZ.out.kept hw1); have HB1 := Lib.hid (below_next hw1 HB.out (Nat.le_refl _)); obtain ⟨a0, a1, a2, a3, c0, c1, c2, c3⟩ := FA1.out; obtain ⟨z0, z1, z2, z3, v0, v1, v2, v3⟩ := FZ1.out; clear hw1)
  refine bodyPost_ret (v := .agg #[.int .u64 x0, .int .u64 x1, .int .u64 y, .int .u64 x3]) ?_ rfl ⟨rfl, below_set4 (HB1.out.setCell (p := ⟨w.heap.size, 2, none⟩) (Nat.le_refl _) _) (by simp) x0 x1 y x3⟩
  obtain ⟨s0, s1, s2, s3⟩ := set4_results (FZ1.out.far (p := ⟨w.heap.size, 2, none⟩) (by simp) (.int .u64 y)) x0 x1 y x3
  simp [results, Try.results39, go_sem, s0, s1, s2, s3]

set_option maxHeartbeats 2000000 in
theorem rwith_3 (x0 x1 x2 x3 : Nat) (i : Int) (_h0 : 0 ≤ i) (_h255 : i ≤ 255) (h1 : i / 64 = 3) (j : Nat) (hj : j < 64) (h2 : i % 64 = j) (y : Nat) (hy : x3 + 2 ^ j = y) (hl : y < 18446744073709551616) (w : World)
    (C : Hid (∀ w, Calls Try.prog 64 #[.agg #[.int .u64 x0, .int .u64 x1, .int .u64 x2, .int .u64 x3], .int .i64 i] w fun e w' => e = .returned (.bool false) ∧ Below w.heap.size w w')) :
    Calls Try.prog 39 #[.agg #[.int .u64 x0, .int .u64 x1, .int .u64 x2, .int .u64 x3], .int .i64 i] w fun e w' => e = .returned (.agg #[.int .u64 x0, .int .u64 x1, .int .u64 x2, .int .u64 y]) ∧ Below w.heap.size w w' := by
  have FA := Lib.hid ((Four.new w x0 x1 x2 x3 47).alloc (.cells #[.int .u64 0, .int .u64 0, .int .u64 0, .int .u64 0] 47))
  have FZ := Four.new (w.alloc (.cells #[.int .u64 x0, .int .u64 x1, .int .u64 x2, .int .u64 x3] 47)) 0 0 0 0 47
  rw [World.size_alloc] at FZ
  have FZ := Lib.hid FZ
  have HB := Lib.hid (((Below.refl w.heap.size w).alloc (Nat.le_refl _) (.cells #[.int .u64 x0, .int .u64 x1, .int .u64 x2, .int .u64 x3] 47)).alloc (by simp) (.cells #[.int .u64 0, .int .u64 0, .int .u64 0, .int .u64 0] 47))
  have hs : IntKind.u64.wrap ((x3 : Int) + ((2 ^ j : Nat) : Int)) = (y : Int) := by rw [← Int.natCast_add, hy]; exact u64_nat y hl
  have pw := pow_wrap hj
  clear hl hy
  generalize (2 : Nat) ^ j = z at pw hs
  go_enter Try.func39, Try.ntmps39
  go_wp2_with (go_at_call 64; (refine (C.out _).mono ?_); rintro e w1 ⟨rfl, hw1⟩; have FA1 := Lib.hid (FA.out.kept hw1); have FZ1 := Lib.hid (FZ.out.kept hw1); have HB1 := Lib.hid (below_next hw1 HB.out (Nat.le_refl _)); obtain ⟨a0, a1, a2, a3, c0, c1, c2, c3⟩ := FA1.out; obtain ⟨z0, z1, z2, z3, v0, v1, v2, v3⟩ := FZ1.out; clear hw1)
  refine bodyPost_ret (v := .agg #[.int .u64 x0, .int .u64 x1, .int .u64 x2, .int .u64 y]) ?_ rfl ⟨rfl, below_set4 (HB1.out.setCell (p := ⟨w.heap.size, 3, none⟩) (Nat.le_refl _) _) (by simp) x0 x1 x2 y⟩
  obtain ⟨s0, s1, s2, s3⟩ := set4_results (FZ1.out.far (p := ⟨w.heap.size, 3, none⟩) (by simp) (.int .u64 y)) x0 x1 x2 y
  simp [results, Try.results39, go_sem, s0, s1, s2, s3]

set_option maxHeartbeats 2000000 in
theorem rwithout_same (x0 x1 x2 x3 : Nat) (i : Int)  (w : World)
    (C : Hid (∀ w, Calls Try.prog 64 #[.agg #[.int .u64 x0, .int .u64 x1, .int .u64 x2, .int .u64 x3], .int .i64 i] w fun e w' => e = .returned (.bool false) ∧ Below w.heap.size w w')) :
    Calls Try.prog 86 #[.agg #[.int .u64 x0, .int .u64 x1, .int .u64 x2, .int .u64 x3], .int .i64 i] w fun e w' => e = .returned (.agg #[.int .u64 x0, .int .u64 x1, .int .u64 x2, .int .u64 x3]) ∧ Below w.heap.size w w' := by
  have FA := Lib.hid ((Four.new w x0 x1 x2 x3 47).alloc (.cells #[.int .u64 0, .int .u64 0, .int .u64 0, .int .u64 0] 47))
  have FZ := Four.new (w.alloc (.cells #[.int .u64 x0, .int .u64 x1, .int .u64 x2, .int .u64 x3] 47)) 0 0 0 0 47
  rw [World.size_alloc] at FZ
  have FZ := Lib.hid FZ
  have HB := Lib.hid (((Below.refl w.heap.size w).alloc (Nat.le_refl _) (.cells #[.int .u64 x0, .int .u64 x1, .int .u64 x2, .int .u64 x3] 47)).alloc (by simp) (.cells #[.int .u64 0, .int .u64 0, .int .u64 0, .int .u64 0] 47))
  go_enter Try.func86, Try.ntmps86
  go_wp2_with (go_at_call 64; (refine (C.out _).mono ?_); rintro e w1 ⟨rfl, hw1⟩; have FA1 := Lib.hid (FA.out.kept hw1); have FZ1 := Lib.hid (FZ.out.kept hw1); have HB1 := Lib.hid (below_next hw1 HB.out (Nat.le_refl _)); obtain ⟨a0, a1, a2, a3, c0, c1, c2, c3⟩ := FA1.out; obtain ⟨z0, z1, z2, z3, v0, v1, v2, v3⟩ := FZ1.out; clear hw1)
  refine bodyPost_ret (v := .agg #[.int .u64 x0, .int .u64 x1, .int .u64 x2, .int .u64 x3]) ?_ rfl ⟨rfl, below_set4 HB1.out (by simp) x0 x1 x2 x3⟩
  obtain ⟨s0, s1, s2, s3⟩ := set4_results FZ1.out x0 x1 x2 x3
  simp [results, Try.results86, go_sem, s0, s1, s2, s3]

set_option maxHeartbeats 2000000 in
theorem rwithout_0 (x0 x1 x2 x3 : Nat) (i : Int) (_h0 : 0 ≤ i) (_h255 : i ≤ 255) (h1 : i / 64 = 0) (j : Nat) (hj : j < 64) (h2 : i % 64 = j) (y : Nat) (hy : x0 = y + 2 ^ j) (hl : y < 18446744073709551616) (w : World)
    (C : Hid (∀ w, Calls Try.prog 64 #[.agg #[.int .u64 x0, .int .u64 x1, .int .u64 x2, .int .u64 x3], .int .i64 i] w fun e w' => e = .returned (.bool true) ∧ Below w.heap.size w w')) :
    Calls Try.prog 86 #[.agg #[.int .u64 x0, .int .u64 x1, .int .u64 x2, .int .u64 x3], .int .i64 i] w fun e w' => e = .returned (.agg #[.int .u64 y, .int .u64 x1, .int .u64 x2, .int .u64 x3]) ∧ Below w.heap.size w w' := by
  have FA := Lib.hid ((Four.new w x0 x1 x2 x3 47).alloc (.cells #[.int .u64 0, .int .u64 0, .int .u64 0, .int .u64 0] 47))
  have FZ := Four.new (w.alloc (.cells #[.int .u64 x0, .int .u64 x1, .int .u64 x2, .int .u64 x3] 47)) 0 0 0 0 47
  rw [World.size_alloc] at FZ
  have FZ := Lib.hid FZ
  have HB := Lib.hid (((Below.refl w.heap.size w).alloc (Nat.le_refl _) (.cells #[.int .u64 x0, .int .u64 x1, .int .u64 x2, .int .u64 x3] 47)).alloc (by simp) (.cells #[.int .u64 0, .int .u64 0, .int .u64 0, .int .u64 0] 47))
  have hs : IntKind.u64.wrap ((x0 : Int) - ((2 ^ j : Nat) : Int)) = (y : Int) := by rw [hy, Int.natCast_add, Int.add_sub_cancel]; exact u64_nat y hl
  have pw := pow_wrap hj
  clear hl hy
  generalize (2 : Nat) ^ j = z at pw hs
  go_enter Try.func86, Try.ntmps86
  go_wp2_with (go_at_call 64; (refine (C.out _).mono ?_); rintro e w1 ⟨rfl, hw1⟩; have FA1 := Lib.hid (FA.out.kept hw1); have FZ1 := Lib.hid (FZ.out.kept hw1); have HB1 := Lib.hid (below_next hw1 HB.out (Nat.le_refl _)); obtain ⟨a0, a1, a2, a3, c0, c1, c2, c3⟩ := FA1.out; obtain ⟨z0, z1, z2, z3, v0, v1, v2, v3⟩ := FZ1.out; clear hw1)
  refine bodyPost_ret (v := .agg #[.int .u64 y, .int .u64 x1, .int .u64 x2, .int .u64 x3]) ?_ rfl ⟨rfl, below_set4 (HB1.out.setCell (p := ⟨w.heap.size, 0, none⟩) (Nat.le_refl _) _) (by simp) y x1 x2 x3⟩
  obtain ⟨s0, s1, s2, s3⟩ := set4_results (FZ1.out.far (p := ⟨w.heap.size, 0, none⟩) (by simp) (.int .u64 y)) y x1 x2 x3
  simp [results, Try.results86, go_sem, s0, s1, s2, s3]

set_option maxHeartbeats 2000000 in
theorem rwithout_1 (x0 x1 x2 x3 : Nat) (i : Int) (_h0 : 0 ≤ i) (_h255 : i ≤ 255) (h1 : i / 64 = 1) (j : Nat) (hj : j < 64) (h2 : i % 64 = j) (y : Nat) (hy : x1 = y + 2 ^ j) (hl : y < 18446744073709551616) (w : World)
    (C : Hid (∀ w, Calls Try.prog 64 #[.agg #[.int .u64 x0, .int .u64 x1, .int .u64 x2, .int .u64 x3], .int .i64 i] w fun e w' => e = .returned (.bool true) ∧ Below w.heap.size w w')) :
    Calls Try.prog 86 #[.agg #[.int .u64 x0, .int .u64 x1, .int .u64 x2, .int .u64 x3], .int .i64 i] w fun e w' => e = .returned (.agg #[.int .u64 x0, .int .u64 y, .int .u64 x2, .int .u64 x3]) ∧ Below w.heap.size w w' := by
  have FA := Lib.hid ((Four.new w x0 x1 x2 x3 47).alloc (.cells #[.int .u64 0, .int .u64 0, .int .u64 0, .int .u64 0] 47))
  have FZ := Four.new (w.alloc (.cells #[.int .u64 x0, .int .u64 x1, .int .u64 x2, .int .u64 x3] 47)) 0 0 0 0 47
  rw [World.size_alloc] at FZ
  have FZ := Lib.hid FZ
  have HB := Lib.hid (((Below.refl w.heap.size w).alloc (Nat.le_refl _) (.cells #[.int .u64 x0, .int .u64 x1, .int .u64 x2, .int .u64 x3] 47)).alloc (by simp) (.cells #[.int .u64 0, .int .u64 0, .int .u64 0, .int .u64 0] 47))
  have hs : IntKind.u64.wrap ((x1 : Int) - ((2 ^ j : Nat) : Int)) = (y : Int) := by rw [hy, Int.natCast_add, Int.add_sub_cancel]; exact u64_nat y hl
  have pw := pow_wrap hj
  clear hl hy
  generalize (2 : Nat) ^ j = z at pw hs
  go_enter Try.func86, Try.ntmps86
  go_wp2_with (go_at_call 64; (refine (C.out _).mono ?_); rintro e w1 ⟨rfl, hw1⟩; have FA1 := Lib.hid (FA.out.kept hw1); have FZ1 := Lib.hid (FZ.out.kept hw1); have HB1 := Lib.hid (below_next hw1 HB.out (Nat.le_refl _)); obtain ⟨a0, a1, a2, a3, c0, c1, c2, c3⟩ := FA1.out; obtain ⟨z0, z1, z2, z3, v0, v1, v2, v3⟩ := FZ1.out; clear hw1)
  refine bodyPost_ret (v := .agg #[.int .u64 x0, .int .u64 y, .int .u64 x2, .int .u64 x3]) ?_ rfl ⟨rfl, below_set4 (HB1.out.setCell (p := ⟨w.heap.size, 1, none⟩) (Nat.le_refl _) _) (by simp) x0 y x2 x3⟩
  obtain ⟨s0, s1, s2, s3⟩ := set4_results (FZ1.out.far (p := ⟨w.heap.size, 1, none⟩) (by simp) (.int .u64 y)) x0 y x2 x3
  simp [results, Try.results86, go_sem, s0, s1, s2, s3]

set_option maxHeartbeats 2000000 in
theorem rwithout_2 (x0 x1 x2 x3 : Nat) (i : Int) (_h0 : 0 ≤ i) (_h255 : i ≤ 255) (h1 : i / 64 = 2) (j : Nat) (hj : j < 64) (h2 : i % 64 = j) (y : Nat) (hy : x2 = y + 2 ^ j) (hl : y < 18446744073709551616) (w : World)
    (C : Hid (∀ w, Calls Try.prog 64 #[.agg #[.int .u64 x0, .int .u64 x1, .int .u64 x2, .int .u64 x3], .int .i64 i] w fun e w' => e = .returned (.bool true) ∧ Below w.heap.size w w')) :
    Calls Try.prog 86 #[.agg #[.int .u64 x0, .int .u64 x1, .int .u64 x2, .int .u64 x3], .int .i64 i] w fun e w' => e = .returned (.agg #[.int .u64 x0, .int .u64 x1, .int .u64 y, .int .u64 x3]) ∧ Below w.heap.size w w' := by
  have FA := Lib.hid ((Four.new w x0 x1 x2 x3 47).alloc (.cells #[.int .u64 0, .int .u64 0, .int .u64 0, .int .u64 0] 47))
  have FZ := Four.new (w.alloc (.cells #[.int .u64 x0, .int .u64 x1, .int .u64 x2, .int .u64 x3] 47)) 0 0 0 0 47
  rw [World.size_alloc] at FZ
  have FZ := Lib.hid FZ
  have HB := Lib.hid (((Below.refl w.heap.size w).alloc (Nat.le_refl _) (.cells #[.int .u64 x0, .int .u64 x1, .int .u64 x2, .int .u64 x3] 47)).alloc (by simp) (.cells #[.int .u64 0, .int .u64 0, .int .u64 0, .int .u64 0] 47))
  have hs : IntKind.u64.wrap ((x2 : Int) - ((2 ^ j : Nat) : Int)) = (y : Int) := by rw [hy, Int.natCast_add, Int.add_sub_cancel]; exact u64_nat y hl
  have pw := pow_wrap hj
  clear hl hy
  generalize (2 : Nat) ^ j = z at pw hs
  go_enter Try.func86, Try.ntmps86
  go_wp2_with (go_at_call 64; (refine (C.out _).mono ?_); rintro e w1 ⟨rfl, hw1⟩; have FA1 := Lib.hid (FA.out.kept hw1); have FZ1 := Lib.hid (FZ.out.kept hw1); have HB1 := Lib.hid (below_next hw1 HB.out (Nat.le_refl _)); obtain ⟨a0, a1, a2, a3, c0, c1, c2, c3⟩ := FA1.out; obtain ⟨z0, z1, z2, z3, v0, v1, v2, v3⟩ := FZ1.out; clear hw1)
  refine bodyPost_ret (v := .agg #[.int .u64 x0, .int .u64 x1, .int .u64 y, .int .u64 x3]) ?_ rfl ⟨rfl, below_set4 (HB1.out.setCell (p := ⟨w.heap.size, 2, none⟩) (Nat.le_refl _) _) (by simp) x0 x1 y x3⟩
  obtain ⟨s0, s1, s2, s3⟩ := set4_results (FZ1.out.far (p := ⟨w.heap.size, 2, none⟩) (by simp) (.int .u64 y)) x0 x1 y x3
  simp [results, Try.results86, go_sem, s0, s1, s2, s3]

set_option maxHeartbeats 2000000 in
theorem rwithout_3 (x0 x1 x2 x3 : Nat) (i : Int) (_h0 : 0 ≤ i) (_h255 : i ≤ 255) (h1 : i / 64 = 3) (j : Nat) (hj : j < 64) (h2 : i % 64 = j) (y : Nat) (hy : x3 = y + 2 ^ j) (hl : y < 18446744073709551616) (w : World)
    (C : Hid (∀ w, Calls Try.prog 64 #[.agg #[.int .u64 x0, .int .u64 x1, .int .u64 x2, .int .u64 x3], .int .i64 i] w fun e w' => e = .returned (.bool true) ∧ Below w.heap.size w w')) :
    Calls Try.prog 86 #[.agg #[.int .u64 x0, .int .u64 x1, .int .u64 x2, .int .u64 x3], .int .i64 i] w fun e w' => e = .returned (.agg #[.int .u64 x0, .int .u64 x1, .int .u64 x2, .int .u64 y]) ∧ Below w.heap.size w w' := by
  have FA := Lib.hid ((Four.new w x0 x1 x2 x3 47).alloc (.cells #[.int .u64 0, .int .u64 0, .int .u64 0, .int .u64 0] 47))
  have FZ := Four.new (w.alloc (.cells #[.int .u64 x0, .int .u64 x1, .int .u64 x2, .int .u64 x3] 47)) 0 0 0 0 47
  rw [World.size_alloc] at FZ
  have FZ := Lib.hid FZ
  have HB := Lib.hid (((Below.refl w.heap.size w).alloc (Nat.le_refl _) (.cells #[.int .u64 x0, .int .u64 x1, .int .u64 x2, .int .u64 x3] 47)).alloc (by simp) (.cells #[.int .u64 0, .int .u64 0, .int .u64 0, .int .u64 0] 47))
  have hs : IntKind.u64.wrap ((x3 : Int) - ((2 ^ j : Nat) : Int)) = (y : Int) := by rw [hy, Int.natCast_add, Int.add_sub_cancel]; exact u64_nat y hl
  have pw := pow_wrap hj
  clear hl hy
  generalize (2 : Nat) ^ j = z at pw hs
  go_enter Try.func86, Try.ntmps86
  go_wp2_with (go_at_call 64; (refine (C.out _).mono ?_); rintro e w1 ⟨rfl, hw1⟩; have FA1 := Lib.hid (FA.out.kept hw1); have FZ1 := Lib.hid (FZ.out.kept hw1); have HB1 := Lib.hid (below_next hw1 HB.out (Nat.le_refl _)); obtain ⟨a0, a1, a2, a3, c0, c1, c2, c3⟩ := FA1.out; obtain ⟨z0, z1, z2, z3, v0, v1, v2, v3⟩ := FZ1.out; clear hw1)
  refine bodyPost_ret (v := .agg #[.int .u64 x0, .int .u64 x1, .int .u64 x2, .int .u64 y]) ?_ rfl ⟨rfl, below_set4 (HB1.out.setCell (p := ⟨w.heap.size, 3, none⟩) (Nat.le_refl _) _) (by simp) x0 x1 x2 y⟩
  obtain ⟨s0, s1, s2, s3⟩ := set4_results (FZ1.out.far (p := ⟨w.heap.size, 3, none⟩) (by simp) (.int .u64 y)) x0 x1 x2 y
  simp [results, Try.results86, go_sem, s0, s1, s2, s3]

theorem with_no {p : Nat → Bool} {i : Int} (h : hasP p i = true ∨ i < 0 ∨ 255 < i) {k : Nat} (hk : k < 4) : wd (orP p (oneP i)) k = wd p k :=
  wd_congr (fun x hx => by
    unfold orP oneP
    by_cases e : (x : Int) = i
    · subst e
      rcases h with h | h | h
      · have : p x = true := by simpa [hasP, show (x : Int) ≤ 255 by omega] using h
        simp [this]
      · omega
      · omega
    · simp [e]) hk
theorem with_yes {p : Nat → Bool} {i : Int} {k j : Nat} (hi : i = ((64 * k + j : Nat) : Int)) (hj : j < 64) (hk : k < 4) (h : hasP p i = false) :
    wd p k + 2 ^ j = wd (orP p (oneP i)) k ∧ ∀ k', k' ≠ k → wd (orP p (oneP i)) k' = wd p k' := by
  refine ⟨?_, fun k' hk' => wd_or_far fun j' hj' => by omega⟩
  have h3 : p (64 * k + j) = false := by
    have := h
    unfold hasP at this
    rw [decide_eq_true (⟨by omega, by omega⟩ : 0 ≤ i ∧ i ≤ 255), Bool.true_and] at this
    rw [show 64 * k + j = i.toNat by omega]; exact this
  rw [hi]; exact wd_put hj h3

theorem rwith_any (p : Nat → Bool) (i : Int) (w : World) :
    Calls Try.prog 39 #[.agg #[.int .u64 (wd p 0), .int .u64 (wd p 1), .int .u64 (wd p 2), .int .u64 (wd p 3)], .int .i64 i] w fun e w' => e = .returned (.agg #[.int .u64 (wd (orP p (oneP i)) 0), .int .u64 (wd (orP p (oneP i)) 1), .int .u64 (wd (orP p (oneP i)) 2), .int .u64 (wd (orP p (oneP i)) 3)]) ∧ Below w.heap.size w w' := by
  have C := Lib.hid (fun w => rhas_any p i w)
  rcases (show i < 0 ∨ (0 ≤ i ∧ 255 < i) ∨ (0 ≤ i ∧ i ≤ 255) by omega) with h | ⟨h0, h⟩ | ⟨h0, h1⟩
  · rw [hasP_out (.inl h)] at C
    rw [with_no (.inr (.inl h)) (k := 0) (by omega), with_no (.inr (.inl h)) (k := 1) (by omega), with_no (.inr (.inl h)) (k := 2) (by omega), with_no (.inr (.inl h)) (k := 3) (by omega)]
    exact rwith_low _ _ _ _ i h w C
  · rw [hasP_out (.inr h)] at C
    rw [with_no (.inr (.inr h)) (k := 0) (by omega), with_no (.inr (.inr h)) (k := 1) (by omega), with_no (.inr (.inr h)) (k := 2) (by omega), with_no (.inr (.inr h)) (k := 3) (by omega)]
    exact rwith_high _ _ _ _ i h0 h w C
  · cases hp : hasP p i with
    | true =>
      rw [hp] at C
      rw [with_no (.inl hp) (k := 0) (by omega), with_no (.inl hp) (k := 1) (by omega), with_no (.inl hp) (k := 2) (by omega), with_no (.inl hp) (k := 3) (by omega)]
      exact rwith_same _ _ _ _ i h0 h1 w C
    | false =>
      rw [hp] at C
      obtain ⟨j, hj⟩ : ∃ j : Nat, i % 64 = j := ⟨(i % 64).toNat, by omega⟩
      have hj' : j < 64 := by omega
      rcases (show i / 64 = 0 ∨ i / 64 = 1 ∨ i / 64 = 2 ∨ i / 64 = 3 by omega) with g | g | g | g
      · obtain ⟨e, f⟩ := with_yes (k := 0) (j := j) (by omega) hj' (by omega) hp
        rw [f 1 (by omega), f 2 (by omega), f 3 (by omega)]
        exact rwith_0 _ _ _ _ i h0 h1 g j hj' hj _ e (wd_lt _ _) w C
      · obtain ⟨e, f⟩ := with_yes (k := 1) (j := j) (by omega) hj' (by omega) hp
        rw [f 0 (by omega), f 2 (by omega), f 3 (by omega)]
        exact rwith_1 _ _ _ _ i h0 h1 g j hj' hj _ e (wd_lt _ _) w C
      · obtain ⟨e, f⟩ := with_yes (k := 2) (j := j) (by omega) hj' (by omega) hp
        rw [f 0 (by omega), f 1 (by omega), f 3 (by omega)]
        exact rwith_2 _ _ _ _ i h0 h1 g j hj' hj _ e (wd_lt _ _) w C
      · obtain ⟨e, f⟩ := with_yes (k := 3) (j := j) (by omega) hj' (by omega) hp
        rw [f 0 (by omega), f 1 (by omega), f 2 (by omega)]
        exact rwith_3 _ _ _ _ i h0 h1 g j hj' hj _ e (wd_lt _ _) w C

theorem rwithout_any (p : Nat → Bool) (i : Int) (w : World) :
    Calls Try.prog 86 #[.agg #[.int .u64 (wd p 0), .int .u64 (wd p 1), .int .u64 (wd p 2), .int .u64 (wd p 3)], .int .i64 i] w fun e w' => e = .returned (.agg #[.int .u64 (wd (minusP p (oneP i)) 0), .int .u64 (wd (minusP p (oneP i)) 1), .int .u64 (wd (minusP p (oneP i)) 2), .int .u64 (wd (minusP p (oneP i)) 3)]) ∧ Below w.heap.size w w' := by
  have C := Lib.hid (fun w => rhas_any p i w)
  cases hp : hasP p i with
  | false =>
    rw [hp] at C
    rw [has_no hp (k := 0) (by omega), has_no hp (k := 1) (by omega), has_no hp (k := 2) (by omega), has_no hp (k := 3) (by omega)]
    exact rwithout_same _ _ _ _ i w C
  | true =>
    rw [hp] at C
    obtain ⟨k, j, hk, hj, hi, e, f⟩ := has_yes hp
    rcases (show k = 0 ∨ k = 1 ∨ k = 2 ∨ k = 3 by omega) with rfl | rfl | rfl | rfl
    · rw [f 1 (by omega), f 2 (by omega), f 3 (by omega)]
      exact rwithout_0 _ _ _ _ i (by omega) (by omega) (by omega) j hj (by omega) _ e (wd_lt _ _) w C
    · rw [f 0 (by omega), f 2 (by omega), f 3 (by omega)]
      exact rwithout_1 _ _ _ _ i (by omega) (by omega) (by omega) j hj (by omega) _ e (wd_lt _ _) w C
    · rw [f 0 (by omega), f 1 (by omega), f 3 (by omega)]
      exact rwithout_2 _ _ _ _ i (by omega) (by omega) (by omega) j hj (by omega) _ e (wd_lt _ _) w C
    · rw [f 0 (by omega), f 1 (by omega), f 2 (by omega)]
      exact rwithout_3 _ _ _ _ i (by omega) (by omega) (by omega) j hj (by omega) _ e (wd_lt _ _) w C

end Go.Proofs.Ytlglncnhhgofoaa

/-
  The walks over the document's own answers: what is in both sets, in the first one alone; the set of a row.
-/
namespace Go.Proofs.Ytlglncnhhgofoaa
open Go.RowKit

/-- What is left when the first n have been looked at. -/
def andC (p q : Nat → Bool) (n : Nat) (x : Nat) : Bool := p x && (decide (n ≤ x) || q x)
def minusC (p q : Nat → Bool) (n : Nat) (x : Nat) : Bool := p x && !(decide (x < n) && q x)

theorem hasP_nat {p : Nat → Bool} {n : Nat} (h : n < 256) : hasP p (n : Int) = p n := by
  unfold hasP; rw [decide_eq_true (⟨by omega, by omega⟩ : (0 : Int) ≤ n ∧ (n : Int) ≤ 255)]; simp

theorem andC_start (p q : Nat → Bool) (k : Nat) : wd (andC p q 0) k = wd p k := natOf_congr fun j _ => by simp [andC]
theorem minusC_start (p q : Nat → Bool) (k : Nat) : wd (minusC p q 0) k = wd p k := natOf_congr fun j _ => by simp [minusC]
theorem andC_end (p q : Nat → Bool) {k : Nat} (hk : k < 4) : wd (andC p q 256) k = wd (andP p q) k := wd_congr (fun x hx => by simp [andC, andP, show ¬ 256 ≤ x by omega]) hk
theorem minusC_end (p q : Nat → Bool) {k : Nat} (hk : k < 4) : wd (minusC p q 256) k = wd (minusP p q) k := wd_congr (fun x hx => by simp [minusC, minusP, hx]) hk
theorem andC_drop (p q : Nat → Bool) {n : Nat} (h : q n = false) (k : Nat) : wd (minusP (andC p q n) (oneP n)) k = wd (andC p q (n + 1)) k := natOf_congr fun j _ => by
  unfold andC minusP oneP
  rcases Nat.lt_trichotomy (64 * k + j) n with g | g | g
  · rw [decide_eq_false (show ¬ ((64 * k + j : Nat) : Int) = (n : Int) by omega)]; simp [show ¬ n ≤ 64 * k + j by omega, show ¬ n + 1 ≤ 64 * k + j by omega]
  · rw [g]; simp [h]
  · rw [decide_eq_false (show ¬ ((64 * k + j : Nat) : Int) = (n : Int) by omega)]; simp [show n ≤ 64 * k + j by omega, show n + 1 ≤ 64 * k + j by omega]
theorem andC_keep (p q : Nat → Bool) {n : Nat} (h : q n = true) (k : Nat) : wd (andC p q n) k = wd (andC p q (n + 1)) k := natOf_congr fun j _ => by
  unfold andC
  rcases Nat.lt_trichotomy (64 * k + j) n with g | g | g
  · simp [show ¬ n ≤ 64 * k + j by omega, show ¬ n + 1 ≤ 64 * k + j by omega]
  · rw [g]; simp [h]
  · simp [show n ≤ 64 * k + j by omega, show n + 1 ≤ 64 * k + j by omega]
theorem minusC_drop (p q : Nat → Bool) {n : Nat} (h : q n = true) (k : Nat) : wd (minusP (minusC p q n) (oneP n)) k = wd (minusC p q (n + 1)) k := natOf_congr fun j _ => by
  unfold minusC minusP oneP
  rcases Nat.lt_trichotomy (64 * k + j) n with g | g | g
  · rw [decide_eq_false (show ¬ ((64 * k + j : Nat) : Int) = (n : Int) by omega)]; simp [show 64 * k + j < n by omega, show 64 * k + j < n + 1 by omega]
  · rw [g]; simp [h]
  · rw [decide_eq_false (show ¬ ((64 * k + j : Nat) : Int) = (n : Int) by omega)]; simp [show ¬ 64 * k + j < n by omega, show ¬ 64 * k + j < n + 1 by omega]
theorem minusC_keep (p q : Nat → Bool) {n : Nat} (h : q n = false) (k : Nat) : wd (minusC p q n) k = wd (minusC p q (n + 1)) k := natOf_congr fun j _ => by
  unfold minusC
  rcases Nat.lt_trichotomy (64 * k + j) n with g | g | g
  · simp [show 64 * k + j < n by omega, show 64 * k + j < n + 1 by omega]
  · rw [g]; simp [h]
  · simp [show ¬ 64 * k + j < n by omega, show ¬ 64 * k + j < n + 1 by omega]

structure Loop3 (w wr : World) (x b : Nat → Nat) : Prop where
  x : Four wr w.heap.size (x 0) (x 1) (x 2) (x 3)
  y : Four wr (w.heap.size + 1) (b 0) (b 1) (b 2) (b 3)
  z : Four wr (w.heap.size + 1 + 1) 0 0 0 0
  below : Below w.heap.size w wr

set_option maxRecDepth 100000 in
set_option maxHeartbeats 2000000 in
theorem rand_any (p q : Nat → Bool) (w : World) :
    Calls Try.prog 66 #[.agg #[.int .u64 (wd p 0), .int .u64 (wd p 1), .int .u64 (wd p 2), .int .u64 (wd p 3)], .agg #[.int .u64 (wd q 0), .int .u64 (wd q 1), .int .u64 (wd q 2), .int .u64 (wd q 3)]] w fun e w' => e = .returned (.agg #[.int .u64 (wd (andP p q) 0), .int .u64 (wd (andP p q) 1), .int .u64 (wd (andP p q) 2), .int .u64 (wd (andP p q) 3)]) ∧ Below w.heap.size w w' := by
  have LAST := Lib.hid (And.intro (@andC_end p q 0 (by omega)) (And.intro (@andC_end p q 1 (by omega)) (And.intro (@andC_end p q 2 (by omega)) (@andC_end p q 3 (by omega)))))
  have FIRST := Lib.hid (andC_start p q)
  have H := Lib.hid (fun (n : Nat) (h : n < 256) w => (show Calls Try.prog 64 #[.agg #[.int .u64 (wd q 0), .int .u64 (wd q 1), .int .u64 (wd q 2), .int .u64 (wd q 3)], .int .i64 n] w fun e w' => e = .returned (.bool (q n)) ∧ Below w.heap.size w w' by have := rhas_any q n w; rw [hasP_nat h] at this; exact this))
  have WO := Lib.hid (fun (n : Nat) w => rwithout_any (andC p q n) n w)
  have KEEP := Lib.hid (fun (n : Nat) => @andC_keep p q n)
  have DROP := Lib.hid (fun (n : Nat) => @andC_drop p q n)
  generalize hr : wd (andP p q) = r at LAST ⊢
  clear hr
  generalize wd q = b at H ⊢
  generalize hp : wd p = a at FIRST ⊢
  clear hp
  generalize hc : (fun n => wd (andC p q n)) = c
  have hc' : ∀ n, wd (andC p q n) = c n := fun n => congrFun hc n
  clear hc
  simp only [hc'] at LAST FIRST WO KEEP DROP
  clear hc'
  go_enter Try.func66, Try.ntmps66
  go_wp2
  go_loopw [5] (fun i wr => ∃ k : Nat, k ≤ 256 ∧ i = .int .i64 k ∧ Hid (Loop3 w wr (c k) b)) (fun i _ => (256 - intOf i).toNat)
  case atStart =>
    refine ⟨0, by omega, rfl, ⟨?_, ?_, ?_, ?_⟩⟩
    · rw [FIRST.out, FIRST.out, FIRST.out, FIRST.out]; exact ((Four.new w _ _ _ _ _).alloc _).alloc _
    · simpa using (Four.new (w.alloc _) (b 0) (b 1) (b 2) (b 3) _).alloc _
    · simpa using Four.new ((w.alloc _).alloc _) 0 0 0 0 _
    · exact (((Below.refl _ _).alloc (Nat.le_refl _) _).alloc (by simp) _).alloc (by simp; omega) _
  case round =>
    obtain ⟨k, hk, rfl, HL⟩ := hrel
    have FX := Lib.hid HL.out.x
    have FY := Lib.hid HL.out.y
    have FZ := Lib.hid HL.out.z
    have HB := Lib.hid HL.out.below
    obtain ⟨y0, y1, y2, y3, _, _, _, _⟩ := FY.out
    clear FIRST HL
    by_cases hlt : k < 256
    · have C := Lib.hid (H.out k hlt)
      have D := Lib.hid (WO.out k)
      have KP := Lib.hid (KEEP.out k)
      have DR := Lib.hid (DROP.out k)
      clear H WO KEEP DROP LAST
      cases hq : q k with
      | true =>
        rw [hq] at C
        have e := Lib.hid (KP.out hq)
        clear hq KP DR D
        go_wp2_with (go_at_call 64; (refine (C.out _).mono ?_); rintro e w1 ⟨rfl, hw1⟩; have FX1 := Lib.hid (Four.next hw1 FX.out); have FY1 := Lib.hid (Four.next hw1 FY.out); have FZ1 := Lib.hid (Four.next hw1 FZ.out); have HB1 := Lib.hid (below_next hw1 HB.out (Nat.le_refl _)); clear hw1)
        go_roundw
        case rel => exact ⟨k + 1, by omega, by go_num, ⟨by rw [← e.out, ← e.out, ← e.out, ← e.out]; exact FX1.out, FY1.out, FZ1.out, HB1.out⟩⟩
        case measure => simp [intOf]; omega
      | false =>
        rw [hq] at C
        have e := Lib.hid (DR.out hq)
        clear hq KP DR
        generalize wd (minusP (andC p q k) (oneP k)) = v at D e
        go_wp2_with (first | (go_at_call 64; (refine (C.out _).mono ?_); rintro e w1 ⟨rfl, hw1⟩; have FX1 := Lib.hid (Four.next hw1 FX.out); have FY1 := Lib.hid (Four.next hw1 FY.out); have FZ1 := Lib.hid (Four.next hw1 FZ.out); have HB1 := Lib.hid (below_next hw1 HB.out (Nat.le_refl _)); obtain ⟨x0, x1, x2, x3, _, _, _, _⟩ := FX1.out; clear hw1) | (go_at_call 86; (refine (D.out _).mono ?_); rintro e w2 ⟨rfl, hw2⟩; have FX2 := Lib.hid (Four.next hw2 FX1.out); have FY2 := Lib.hid (Four.next hw2 FY1.out); have FZ2 := Lib.hid (Four.next hw2 FZ1.out); have HB2 := Lib.hid (below_next hw2 HB1.out (Nat.le_refl _)); obtain ⟨s0, s1, s2, s3, t0, t1, t2, t3⟩ := FX2.out; clear hw2))
        go_roundw
        case rel =>
          refine ⟨k + 1, by omega, by go_num, ⟨?_, FY2.out.far4 (by simp) (v 0) (v 1) (v 2) (v 3), FZ2.out.far4 (by omega) (v 0) (v 1) (v 2) (v 3), below_set4 HB2.out (by simp) (v 0) (v 1) (v 2) (v 3)⟩⟩
          rw [← e.out, ← e.out, ← e.out, ← e.out]
          exact FX2.out.set4 (v 0) (v 1) (v 2) (v 3)
        case measure => simp [intOf]; omega
    · obtain rfl : k = 256 := by omega
      obtain ⟨x0, x1, x2, x3, _, _, _, _⟩ := FX.out
      obtain ⟨z0, z1, z2, z3, v0, v1, v2, v3⟩ := FZ.out
      rw [LAST.out.1] at x0
      rw [LAST.out.2.1] at x1
      rw [LAST.out.2.2.1] at x2
      rw [LAST.out.2.2.2] at x3
      go_wp2
      refine bodyPost_ret (v := .agg #[.int .u64 (r 0), .int .u64 (r 1), .int .u64 (r 2), .int .u64 (r 3)]) ?_ rfl ⟨rfl, below_set4 HB.out (by omega) (r 0) (r 1) (r 2) (r 3)⟩
      obtain ⟨s0, s1, s2, s3⟩ := set4_results FZ.out (r 0) (r 1) (r 2) (r 3)
      simp [results, Try.results66, go_sem, s0, s1, s2, s3]
end Go.Proofs.Ytlglncnhhgofoaa

/-
  The walks over the document's own answers: the set of a row, what is in one of two.
-/
namespace Go.Proofs.Ytlglncnhhgofoaa
open Go.RowKit

/-- What has been put in when the first n have been looked at. -/
def orC (p q : Nat → Bool) (n : Nat) (x : Nat) : Bool := p x || (decide (x < n) && q x)
theorem orC_start (p q : Nat → Bool) (k : Nat) : wd (orC p q 0) k = wd p k := natOf_congr fun j _ => by simp [orC]
theorem orC_end (p q : Nat → Bool) {k : Nat} (hk : k < 4) : wd (orC p q 256) k = wd (orP p q) k := wd_congr (fun x hx => by simp [orC, orP, hx]) hk
theorem orC_put (p q : Nat → Bool) {n : Nat} (h : q n = true) (k : Nat) : wd (orP (orC p q n) (oneP n)) k = wd (orC p q (n + 1)) k := natOf_congr fun j _ => by
  unfold orC orP oneP
  rcases Nat.lt_trichotomy (64 * k + j) n with g | g | g
  · rw [decide_eq_false (show ¬ ((64 * k + j : Nat) : Int) = (n : Int) by omega)]; simp [show 64 * k + j < n by omega, show 64 * k + j < n + 1 by omega]
  · rw [g]; simp [h]
  · rw [decide_eq_false (show ¬ ((64 * k + j : Nat) : Int) = (n : Int) by omega)]; simp [show ¬ 64 * k + j < n by omega, show ¬ 64 * k + j < n + 1 by omega]
theorem orC_keep (p q : Nat → Bool) {n : Nat} (h : q n = false) (k : Nat) : wd (orC p q n) k = wd (orC p q (n + 1)) k := natOf_congr fun j _ => by
  unfold orC
  rcases Nat.lt_trichotomy (64 * k + j) n with g | g | g
  · simp [show 64 * k + j < n by omega, show 64 * k + j < n + 1 by omega]
  · rw [g]; simp [h]
  · simp [show ¬ 64 * k + j < n by omega, show ¬ 64 * k + j < n + 1 by omega]

structure Loop2 (w wr : World) (x : Nat → Nat) : Prop where
  x : Four wr (w.heap.size + 1) (x 0) (x 1) (x 2) (x 3)
  z : Four wr w.heap.size 0 0 0 0
  below : Below w.heap.size w wr

set_option maxRecDepth 100000 in
set_option maxHeartbeats 2000000 in
theorem ror_any (l : List (Nat → Bool)) (hl : (l.length : Int) ≤ 1000000) (cap : Nat) (ao : Option Addr) (w : World) (hs : Sets w w.heap.size ao l) :
    Calls Try.prog 62 #[.slice ao l.length cap] w fun e w' => e = .returned (.agg #[.int .u64 (wd (orN l l.length) 0), .int .u64 (wd (orN l l.length) 1), .int .u64 (wd (orN l l.length) 2), .int .u64 (wd (orN l l.length) 3)]) ∧ Below w.heap.size w w' := by
  have HS := Lib.hid hs
  clear hs
  go_enter Try.func62, Try.ntmps62
  go_wp2
  go_loopw [4] (fun i wr => ∃ k : Nat, k ≤ l.length ∧ i = .int .i64 k ∧ Hid (Loop2 w wr (wd (orN l k)))) (fun i _ => (l.length - intOf i).toNat)
  case atStart =>
    refine ⟨0, by omega, rfl, ⟨?_, ?_, ((Below.refl _ _).alloc (Nat.le_refl _) _).alloc (by simp) _⟩⟩
    · have := Four.new (w.alloc (.cells #[.int .u64 0, .int .u64 0, .int .u64 0, .int .u64 0] 47)) 0 0 0 0 47
      simpa [orN, wd_none] using this
    · exact (Four.new w 0 0 0 0 _).alloc _
  case round =>
    obtain ⟨k, hk, rfl, HL⟩ := hrel
    by_cases hlt : k < l.length
    · have NX : Hid (∀ j, j < 4 → wd (orC (orN l k) (l.getD k noneP) 256) j = wd (orN l (k + 1)) j) := fun j hj => orC_end _ _ hj
      have ST : Hid (wd (orN l k) = wd (orC (orN l k) (l.getD k noneP) 0)) := by show _ = _; funext j; rw [orC_start]
      go_wp2
      go_loopw [5] (fun i wi => ∃ n : Nat, n ≤ 256 ∧ i = .int .i64 n ∧ Hid (Loop2 w wi (wd (orC (orN l k) (l.getD k noneP) n)))) (fun i _ => (256 - intOf i).toNat)
      case atStart => exact ⟨0, by omega, rfl, by rw [← ST.out]; exact HL⟩
      case round =>
        clear HL ST
        obtain ⟨n, hn, rfl, HL⟩ := hrel
        by_cases hlt2 : n < 256
        · obtain ⟨b, off, rfl, hbb, hc⟩ : ∃ b off, ao = some ⟨b, off, none⟩ ∧ b < w.heap.size ∧ ∀ k, k < l.length → wr.cell? ⟨b, off + k * 4, none⟩ = some (.int .u64 (wd (l.getD k noneP) 0)) ∧ wr.cell? ⟨b, off + k * 4 + 1, none⟩ = some (.int .u64 (wd (l.getD k noneP) 1)) ∧ wr.cell? ⟨b, off + k * 4 + 2, none⟩ = some (.int .u64 (wd (l.getD k noneP) 2)) ∧ wr.cell? ⟨b, off + k * 4 + 3, none⟩ = some (.int .u64 (wd (l.getD k noneP) 3)) := by
            rcases HS.out.below HL.out.below with h | h
            · rw [h] at hlt; exact absurd hlt (Nat.not_lt_zero _)
            · exact h
          obtain ⟨c0, c1, c2, c3⟩ := hc k hlt
          have HX := Lib.hid HL.out.x
          have HZ := Lib.hid HL.out.z
          have HB := Lib.hid HL.out.below
          clear hc HL NX
          have C := Lib.hid (fun w => (show Calls Try.prog 64 #[.agg #[.int .u64 (wd (l.getD k noneP) 0), .int .u64 (wd (l.getD k noneP) 1), .int .u64 (wd (l.getD k noneP) 2), .int .u64 (wd (l.getD k noneP) 3)], .int .i64 n] w fun e w' => e = .returned (.bool (l.getD k noneP n)) ∧ Below w.heap.size w w' by have := rhas_any (l.getD k noneP) n w; rw [hasP_nat hlt2] at this; exact this))
          have D := Lib.hid (fun w => rwith_any (orC (orN l k) (l.getD k noneP) n) n w)
          have KP := Lib.hid (fun h => @orC_keep (orN l k) (l.getD k noneP) n h)
          have PT := Lib.hid (fun h => @orC_put (orN l k) (l.getD k noneP) n h)
          generalize wd (orP (orC (orN l k) (l.getD k noneP) n) (oneP n)) = v at D PT
          generalize hc : (fun n => wd (orC (orN l k) (l.getD k noneP) n)) = c
          have hc' : ∀ n, wd (orC (orN l k) (l.getD k noneP) n) = c n := fun n => congrFun hc n
          rw [hc'] at HX
          simp only [hc'] at D KP PT
          have HC := Lib.hid hc'
          clear hc hc'
          cases hq : l.getD k noneP n with
          | false =>
            have e := Lib.hid (KP.out hq)
            rw [hq] at C
            clear hq KP PT D
            generalize wd (l.getD k noneP) = q at c0 c1 c2 c3 C
            go_wp2_with (go_at_call 64; (refine (C.out _).mono ?_); rintro e w1 ⟨rfl, hw1⟩; have HX1 := Lib.hid (Four.next hw1 HX.out); have HZ1 := Lib.hid (Four.next hw1 HZ.out); have HB1 := Lib.hid (below_next hw1 HB.out (Nat.le_refl _)); clear hw1)
            go_roundw
            case rel => exact ⟨n + 1, by omega, by go_num, by rw [HC.out]; exact ⟨by rw [← e.out, ← e.out, ← e.out, ← e.out]; exact HX1.out, HZ1.out, HB1.out⟩⟩
            case measure => simp [intOf]; omega
          | true =>
            have e := Lib.hid (PT.out hq)
            rw [hq] at C
            clear hq KP PT
            generalize wd (l.getD k noneP) = q at c0 c1 c2 c3 C
            go_wp2_with (first | (go_at_call 64; (refine (C.out _).mono ?_); rintro e w1 ⟨rfl, hw1⟩; have HX1 := Lib.hid (Four.next hw1 HX.out); have HZ1 := Lib.hid (Four.next hw1 HZ.out); have HB1 := Lib.hid (below_next hw1 HB.out (Nat.le_refl _)); obtain ⟨x0, x1, x2, x3, _, _, _, _⟩ := HX1.out; clear hw1) | (go_at_call 39; (refine (D.out _).mono ?_); rintro e w2 ⟨rfl, hw2⟩; have HX2 := Lib.hid (Four.next hw2 HX1.out); have HZ2 := Lib.hid (Four.next hw2 HZ1.out); have HB2 := Lib.hid (below_next hw2 HB1.out (Nat.le_refl _)); obtain ⟨s0, s1, s2, s3, t0, t1, t2, t3⟩ := HX2.out; clear hw2))
            go_roundw
            case rel =>
              refine ⟨n + 1, by omega, by go_num, ?_⟩
              rw [HC.out]
              refine ⟨?_, HZ2.out.far4 (by omega) (v 0) (v 1) (v 2) (v 3), below_set4 HB2.out (by omega) (v 0) (v 1) (v 2) (v 3)⟩
              rw [← e.out, ← e.out, ← e.out, ← e.out]
              exact HX2.out.set4 (v 0) (v 1) (v 2) (v 3)
            case measure => simp [intOf]; omega
        · obtain rfl : n = 256 := by omega
          have HN : Hid (Loop2 w wr (wd (orN l (k + 1)))) := ⟨by rw [← NX.out 0 (by omega), ← NX.out 1 (by omega), ← NX.out 2 (by omega), ← NX.out 3 (by omega)]; exact HL.out.x, HL.out.z, HL.out.below⟩
          clear HL NX
          go_wp2
          go_roundw
          case rel => exact ⟨k + 1, by omega, by go_num, HN⟩
          case measure => simp [intOf]; omega
    · obtain rfl : k = l.length := by omega
      have HX := Lib.hid HL.out.x
      have HZ := Lib.hid HL.out.z
      have HB := Lib.hid HL.out.below
      obtain ⟨x0, x1, x2, x3, _, _, _, _⟩ := HX.out
      obtain ⟨z0, z1, z2, z3, v0, v1, v2, v3⟩ := HZ.out
      clear HL
      go_wp2
      refine bodyPost_ret (v := .agg #[.int .u64 (wd (orN l l.length) 0), .int .u64 (wd (orN l l.length) 1), .int .u64 (wd (orN l l.length) 2), .int .u64 (wd (orN l l.length) 3)]) ?_ rfl ⟨rfl, below_set4 HB.out (by omega) (wd (orN l l.length) 0) (wd (orN l l.length) 1) (wd (orN l l.length) 2) (wd (orN l l.length) 3)⟩
      obtain ⟨s0, s1, s2, s3⟩ := set4_results HZ.out (wd (orN l l.length) 0) (wd (orN l l.length) 1) (wd (orN l l.length) 2) (wd (orN l l.length) 3)
      simp [results, Try.results62, go_sem, s0, s1, s2, s3]

end Go.Proofs.Ytlglncnhhgofoaa
