/- Texts of this claim, put together: UP1, UP2, Shelf2, UPK, UP3, UP4, UP5, UP6, UP7. -/
import Derived.Test.YtpmllljlhopgbaaProg
import Derived.Test.YtpmllljlhopgbaaM2
import Derived.Deep.DeepCutAuto
import Derived.Shelf.SlGeneric
import Derived.Shelf.SlIterI.Sorted
import Derived.Shelf.SortM.Plain
import Derived.Shelf.SortM.SortNone
import Derived.Shelf.SlSortCmp.SmallK
import Derived.RangeFuncNested
import Derived.RangeFuncBound
import Derived.RangeFuncBox
import Derived.RangeFuncKeeps
import Derived.Shelf.Abstract
import Derived.Shelf.RegionOpen
import Derived.OwnWalkIn
import Derived.TacticsInMore
import Derived.LoopNIn
import Derived.LoopIn
set_option linter.unusedVariables false
set_option linter.unusedSimpArgs false

/-
  The walks over the program's times, over how many jobs may be released, and over the work that may come.
-/
namespace Go.Proofs.Ytpmllljlhopgbaa
open Go.RowKit Go.Maps

theorem ceilN_is {x : Dm} (ht : 0 < x.t) {X : Int} (hX : 0 ≤ X) : ceilN X x.t = ceilD x X := by
  unfold ceilN ceilD
  rw [if_neg (by omega)]
  have e := Int.mul_ediv_add_emod X x.t
  have e1 := Int.emod_nonneg X (show x.t ≠ 0 by omega)
  have e2 := Int.emod_lt_of_pos X ht
  generalize X / x.t = q at *
  generalize X % x.t = r at *
  split
  · rename_i h
    subst h
    refine ((Int.ediv_eq_iff_of_pos ht).2 ⟨?_, ?_⟩).symm <;> rw [Int.mul_comm] at e <;> omega
  · refine ((Int.ediv_eq_iff_of_pos ht).2 ⟨?_, ?_⟩).symm <;> rw [Int.add_mul, Int.mul_comm q] <;> omega

set_option maxRecDepth 100000 in
theorem utime_any (X : Int) (h0 : 1 ≤ X) (h1 : X ≤ 2147483648) (w : World) : Calls Try.prog 14 #[.int .i64 X] w fun e w' => e = .returned (.bool true) ∧ w = w' := by
  go_enter Try.func14, Try.ntmps14
  go_wp2
  go_ret
  exact ⟨rfl, rfl⟩

set_option maxRecDepth 100000 in
set_option maxHeartbeats 2000000 in
theorem ujobs_any (x : Dm) (hx : x.ok) (X : Int) (h0 : 1 ≤ X) (h1 : X ≤ 2147483649) (w : World) :
    Calls Try.prog 18 #[.agg #[.int .i64 x.c, .int .i64 x.d, .int .i64 x.t], .int .i64 X] w fun e w' => e = .returned (.int .u64 (ceilD x X)) ∧ Below w.heap.size w w' := by
  have ht : 0 < x.t := by have := hx.d1; have := hx.d2; omega
  have t2 := hx.t2
  have C := Lib.hid (fun v => ceil_any X x.t ⟨by omega, by omega⟩ ⟨by omega, by omega⟩ v)
  have eb : ceilB x.t = true := by simp [ceilB]; omega
  rw [ceilN_is ht (by omega), eb] at C
  have e1 : IntKind.u64.wrap X = X := IntWalk.u64_in _ (by omega)
  have e2 : IntKind.u64.wrap x.t = x.t := IntWalk.u64_in _ (by omega)
  clear eb hx ht t2
  go_enter Try.func18, Try.ntmps18
  go_wp2_with (go_at_call 33; (with_reducible refine (C.out _).mono ?_); rintro e w1 ⟨rfl, rfl⟩)
  go_ret
  exact ⟨rfl, (by repeat (first | exact Below.refl _ _ | (with_reducible assumption) | refine bw_alloc ?_ _ | refine bw_drew ?_))⟩

/-- Demands whose work is not above what a number holds. -/
structure Light (l : List Dm) : Prop where
  ok : ∀ x ∈ l, x.ok
  c : ∀ x ∈ l, x.c ≤ 1048576
  len : l.length ≤ 8
theorem Light.okL {l : List Dm} (h : Light l) : okL l = true := okL_iff.2 ⟨h.ok, by have := h.len; omega⟩
theorem work_light {l : List Dm} (h : Light l) {X : Int} (h0 : 0 ≤ X) (h1 : X ≤ 1000) : ∀ k, 0 ≤ workN l X k ∧ workN l X k ≤ (k : Int) * 1048576000
  | 0 => ⟨Int.le_refl _, by show (0 : Int) ≤ _; omega⟩
  | k + 1 => by
    have ih := work_light h h0 h1 k
    cases hx : l[k]? with
    | none => rw [work_end hx, Int.natCast_add, Int.add_mul]; omega
    | some x =>
      have hg := h.ok x (List.mem_of_getElem? hx)
      have hc := h.c x (List.mem_of_getElem? hx)
      have h2 := hg.d2; have h4 := hg.d1; have h5 := hg.c0
      have q1 := ceil_le (x := x) (by omega) h0
      have q0 := ceil_nonneg (x := x) (by omega) h0
      have m0 := Int.mul_nonneg h5 q0
      have := Int.mul_le_mul (show x.c ≤ 1048576 by omega) (show ceilD x X ≤ 1000 by omega) q0 (by omega)
      rw [work_next hx, Int.natCast_add, Int.add_mul]; omega

set_option maxRecDepth 100000 in
set_option maxHeartbeats 8000000 in
theorem uwork_gen {w : World} {a : Option Addr} {n c : Nat} {l : List Dm} (h : Dems w a n c l) (hg : Light l) (X : Int) (h0 : 1 ≤ X) (h1 : X ≤ 1000) : Calls Try.prog 12 #[.slice a n c, .int .i64 X] w fun e w' => e = .returned (.tuple #[.int .i64 (workA l X), .bool true]) ∧ Below w.heap.size w w' := by
  have HV := Lib.hid h.view
  have HL := Lib.hid h.len
  have HG := Lib.hid hg
  have RC := Lib.hid (fun v (hb : Below w.heap.size w v) => pchk_any l n c h.len h.n9 a v (h.view.below hb))
  rw [hg.okL] at RC
  have TC := Lib.hid (fun v => utime_any X h0 (by omega) v)
  have hn8 : n ≤ 8 := by have := h.len; have := hg.len; omega
  obtain ⟨res, hres⟩ : ∃ res, workA l X = res := ⟨_, rfl⟩
  have HRES : Hid (workN l X n = res ∧ 0 ≤ res ∧ res ≤ 8388608000) := by
    have h2 := work_light hg (X := X) (by omega) h1 l.length
    have := hg.len
    unfold workA at hres
    rw [← h.len, ← hres]
    exact ⟨rfl, h2.1, by omega⟩
  rw [hres]
  clear hres h hg
  go_enter Try.func12, Try.ntmps12
  go_upto_region 3 with (first
    | (go_at_call 13; (with_reducible refine (RC.out _ (by repeat (first | exact Below.refl _ _ | (with_reducible assumption) | refine bw_alloc ?_ _ | refine bw_drew ?_))).mono ?_); rintro e w1 ⟨rfl, bx1⟩; have HB1 := Lib.hid bx1; clear bx1)
    | (go_at_call 14; (with_reducible refine (TC.out _).mono ?_); rintro e w2 ⟨rfl, rfl⟩))
  clear RC TC
  go_upto_block 0 with fail
  go_cut [6] (fun u wx => u = .int .u64 res ∧ Hid (Below w.heap.size w wx))
  case first =>
    go_wp2
    go_loopw [6, 21] (fun g u wr => ∃ k : Nat, k ≤ n ∧ u = .int .i64 k ∧ g = .int .u64 (workN l X k) ∧ Hid (Below w1.heap.size w1 wr)) (fun _ u _ => (n - intOf u).toNat)
    case atStart => exact ⟨0, Nat.zero_le _, rfl, rfl, Lib.hid (by repeat (first | exact Below.refl _ _ | (with_reducible assumption) | refine bw_alloc ?_ _ | refine bw_drew ?_))⟩
    case round =>
      obtain ⟨k, hk, rfl, rfl, HB⟩ := hrel
      by_cases hlt : k < n
      · obtain ⟨x, hx⟩ := nth_of HL.out hlt
        obtain ⟨g, o, rfl, ⟨c0, c1, c2⟩⟩ := (HV.out.below (below_up HB1.out HB.out)).at_ hx
        have hk1 : (k : Int) < (n : Int) := by omega
        have hk0 : (0 : Int) ≤ (k : Int) := by omega
        have hxo := HG.out.ok x (List.mem_of_getElem? hx)
        have hxc := HG.out.c x (List.mem_of_getElem? hx)
        have x0 := hxo.c0; have x1 := hxo.d1; have x2 := hxo.d2
        have e1 : IntKind.u64.wrap x.c = x.c := IntWalk.u64_in _ (by omega)
        have q1 := ceil_le (x := x) (by omega) (show 0 ≤ X by omega)
        have q0 := ceil_nonneg (x := x) (by omega) (show 0 ≤ X by omega)
        have m0 := Int.mul_nonneg x0 q0
        have m1 := Int.mul_le_mul (show x.c ≤ 1048576 by omega) (show ceilD x X ≤ 1000 by omega) q0 (by omega)
        have r0 := work_light HG.out (X := X) (by omega) h1 k
        have HX := Lib.hid (work_next (X := X) hx)
        have JC := Lib.hid (fun v => ujobs_any x hxo X h0 (by omega) v)
        have MC := Lib.hid (fun v => mul_any x.c (ceilD x X) ⟨by omega, by omega⟩ ⟨by omega, by omega⟩ v)
        have eM : mulN x.c (ceilD x X) = x.c * ceilD x X := by unfold mulN; rw [if_pos (by omega)]
        have eB : mulB x.c (ceilD x X) = true := by unfold mulB; rw [decide_eq_true]; omega
        rw [eM, eB] at MC
        obtain ⟨p, hp⟩ : ∃ p, x.c * ceilD x X = p := ⟨_, rfl⟩
        obtain ⟨s, hs⟩ : ∃ s, workN l X k = s := ⟨_, rfl⟩
        obtain ⟨j, hj⟩ : ∃ j, ceilD x X = j := ⟨_, rfl⟩
        rw [hp] at m0 m1 MC HX
        rw [hs] at r0 HX
        rw [hs]
        rw [hj] at JC MC
        have AC := Lib.hid (fun v => add_any s p ⟨by omega, by omega⟩ ⟨by omega, by omega⟩ v)
        have eA : addN s p = s + p := by unfold addN; rw [if_pos (by omega)]
        have eC : addB s p = true := by unfold addB; rw [decide_eq_true]; omega
        rw [eA, eC] at AC
        have hle : ¬ 4611686018427387904 < s + p := by omega
        clear hx hxo hxc x0 x1 x2 q1 q0 m0 m1 r0 eM eB eA eC hp hs hj
        go_upto_region 7 with fail
        obtain ⟨v7, hv7⟩ : ∃ v7, wr.alloc (.cells #[.int .i64 x.c, .int .i64 x.d, .int .i64 x.t] 29) = v7 := ⟨_, rfl⟩
        have hbx : v7.heap[wr.heap.size]? = some (.cells #[.int .i64 x.c, .int .i64 x.d, .int .i64 x.t] 29 (0, 0)) := by rw [← hv7]; exact heap_alloc_new wr _
        have HB7 : Hid (Below wr.heap.size wr v7) := by rw [← hv7]; exact bw_alloc (Below.refl _ _) _
        have HBW : Hid (Below w1.heap.size w1 v7) := below_up HB.out HB7.out
        rw [hv7]
        clear hv7 c0 c1 c2 HB7
        generalize wr.heap.size = gx at hbx ⊢
        have MK : Hid (∀ w', Below v7.heap.size v7 w' → (w'.cell? ⟨gx, 0, none⟩ = some (.int .i64 x.c) ∧ w'.cell? ⟨gx, 1, none⟩ = some (.int .i64 x.d) ∧ w'.cell? ⟨gx, 2, none⟩ = some (.int .i64 x.t))) := fun w' hb => by
          have q := kept_obj hb hbx
          exact ⟨by rw [blk_cell q]; rfl, by rw [blk_cell q]; rfl, by rw [blk_cell q]; rfl⟩
        have bb := Below.refl v7.heap.size v7
        obtain ⟨t0, t1, t2⟩ := MK.out _ bb
        clear hbx
        go_cut [9, 10] (fun u b wx => u = .int .u64 p ∧ b = .bool true ∧ Hid (Below v7.heap.size v7 wx))
        case first =>
          go_region_held3 (fun w' => w'.cell? ⟨gx, 0, none⟩ = some (.int .i64 x.c) ∧ w'.cell? ⟨gx, 1, none⟩ = some (.int .i64 x.d) ∧ w'.cell? ⟨gx, 2, none⟩ = some (.int .i64 x.t)) (exact MK.out _ (by repeat (first | exact Below.refl _ _ | (with_reducible assumption) | refine bw_alloc ?_ _ | refine bw_drew ?_))) (first
            | (go_at_call 18; (with_reducible refine (Calls.upV (V := v7) (by repeat (first | exact Below.refl _ _ | (with_reducible assumption) | refine bw_alloc ?_ _ | refine bw_drew ?_)) (JC.out _)).mono ?_); rintro e wx ⟨rfl, b0, bx⟩; clear b0)
            | (go_at_call 17; (with_reducible refine (MC.out _).mono ?_); rintro e wy ⟨rfl, rfl⟩))
          all_goals
            go_wp2_with fail
            go_meet
            exact ⟨rfl, rfl, by assumption⟩
        case rest =>
          obtain ⟨rfl, rfl, H9⟩ := hcut
          clear MK bb t0 t1 t2 JC MC
          go_wp2_with (go_at_call 19; (with_reducible refine (AC.out _).mono ?_); rintro e wz ⟨rfl, rfl⟩)
          go_roundw
          case rel => exact ⟨k + 1, by omega, by go_num, by rw [HX.out], Lib.hid (below_up HBW.out H9.out)⟩
          case measure => simp [intOf]; omega
      · obtain rfl : k = n := by omega
        have HBB := Lib.hid (below_up HB1.out HB.out)
        have hre := HRES.out.1
        clear HB1 HB HL HG
        go_wp2
        go_meet
        exact ⟨by rw [hre], HBB⟩
  case rest =>
    obtain ⟨rfl, HB⟩ := hcut
    have h2 := HRES.out.2
    have e1 : IntKind.i64.wrap res = res := IntWalk.i64_in _ (by omega)
    clear HRES h2
    go_wp2
    go_ret2
    exact ⟨rfl, HB.out⟩
end Go.Proofs.Ytpmllljlhopgbaa

/-
  The walks over how far work goes, over the shares that are left, and over which period is shorter.
-/
namespace Go.Proofs.Ytpmllljlhopgbaa
open Go.RowKit Go.Maps

set_option maxRecDepth 100000 in
set_option maxHeartbeats 4000000 in
theorem ureach_any (work share : Int) (h0 : 0 ≤ work) (h1 : work ≤ 4611686018427387904) (h2 : 0 ≤ share) (h3 : share ≤ 1152921504606846976) (w : World) :
    Calls Try.prog 28 #[.int .u64 work, .int .u64 share] w fun e w' => e = .returned (.int .i64 (rchI work share)) ∧ Below w.heap.size w w' := by
  have MC := Lib.hid (fun v => muldiv_any work 1152921504606846976 share ⟨h0, by omega⟩ ⟨by omega, by omega⟩ ⟨h2, by omega⟩ v)
  unfold rchI
  by_cases q0 : work = 0
  · rw [if_pos q0]
    have z1 : (work == 0) = true := beq_iff_eq.2 q0
    subst q0
    clear MC h0 h1 h2 h3 z1
    go_enter Try.func28, Try.ntmps28
    go_wp2
    go_ret
    exact ⟨rfl, (by repeat (first | exact Below.refl _ _ | (with_reducible assumption) | refine bw_alloc ?_ _ | refine bw_drew ?_))⟩
  · rw [if_neg q0]
    have z1 : (work == 0) = false := beq_eq_false_iff_ne.2 q0
    have hn0 : 0 ≤ mdN work 1152921504606846976 share := by
      unfold mdN
      split
      · exact Int.ediv_nonneg (Int.mul_nonneg h0 (by decide)) h2
      · omega
    obtain ⟨r, hr⟩ : ∃ r, mdR work 1152921504606846976 share = r := ⟨_, rfl⟩
    obtain ⟨m, hm⟩ : ∃ m, mdN work 1152921504606846976 share = m := ⟨_, rfl⟩
    obtain ⟨b, hb⟩ : ∃ b, mdB work 1152921504606846976 share = b := ⟨_, rfl⟩
    rw [hm, hr, hb] at MC
    rw [hm] at hn0
    rw [hm, hb]
    clear hm hr hb h0 h1 h2 h3
    cases b with
    | false =>
      rw [if_neg (fun z => by cases z.1)]
      go_enter Try.func28, Try.ntmps28
      go_wp2_with (go_at_call 40; (with_reducible refine (MC.out _).mono ?_); rintro e w1 ⟨rfl, hb1⟩)
      go_ret
      exact ⟨rfl, hb1⟩
    | true =>
      by_cases q1 : m ≤ 2147483648
      · rw [if_pos ⟨rfl, q1⟩]
        have q2 : ¬ 2147483648 < m := by omega
        have e1 : IntKind.i64.wrap m = m := IntWalk.i64_in _ (by omega)
        go_enter Try.func28, Try.ntmps28
        go_wp2_with (go_at_call 40; (with_reducible refine (MC.out _).mono ?_); rintro e w1 ⟨rfl, hb1⟩)
        go_ret
        exact ⟨rfl, hb1⟩
      · rw [if_neg (fun z => q1 z.2)]
        have q2 : 2147483648 < m := by omega
        go_enter Try.func28, Try.ntmps28
        go_wp2_with (go_at_call 40; (with_reducible refine (MC.out _).mono ?_); rintro e w1 ⟨rfl, hb1⟩)
        go_ret
        exact ⟨rfl, hb1⟩

theorem mdN_u64 {a b c : Int} (ha : 0 ≤ a * b) (hc : 0 ≤ c) : U64 (mdN a b c) := by
  unfold mdN
  split
  · rename_i h
    have h1 : a * b / c < 18446744073709551616 := Int.ediv_lt_of_lt_mul (by omega) (by omega)
    have h2 : 0 ≤ a * b / c := Int.ediv_nonneg ha hc
    exact ⟨h2, by omega⟩
  · exact ⟨by omega, by omega⟩
/-- What is left behind each of the first ones. -/
def leftL (S : List Dm) : Nat → List Int
  | 0 => [1152921504606846976]
  | k + 1 => leftL S k ++ [1152921504606846976 - flN S (k + 1)]
theorem leftL_len (S : List Dm) : ∀ k, (leftL S k).length = k + 1
  | 0 => rfl
  | k + 1 => by rw [leftL, List.length_append, leftL_len S k]; rfl
theorem leftL_at (S : List Dm) : ∀ {k j : Nat}, j ≤ k → (leftL S k)[j]? = some (1152921504606846976 - flN S j)
  | 0, j, h => by
    obtain rfl : j = 0 := by omega
    rfl
  | k + 1, j, h => by
    rw [leftL]
    rcases Nat.lt_or_ge k j with q | q
    · obtain rfl : j = k + 1 := by omega
      rw [List.getElem?_append_right (by rw [leftL_len]; omega), leftL_len]
      simp
    · rw [List.getElem?_append_left (by rw [leftL_len]; omega)]
      exact leftL_at S q
/-- What the shares come to. -/
structure SharesBack (S : List Dm) (w : World) (e : Ending) (w' : World) : Prop where
  low : Below w.heap.size w w'
  got : (flN S S.length ≤ 1152921504606846976 ∧ ∃ g c, e = .returned (.tuple #[.slice (some ⟨g, 0, none⟩) (S.length + 1) c, .bool true]) ∧ OwnU w' 43 w.heap.size (.slice (some ⟨g, 0, none⟩) (S.length + 1) c) (leftL S S.length)) ∨
    (1152921504606846976 < flN S S.length ∧ e = .returned (.tuple #[.slice none 0 0, .bool false]))
theorem ownU_one (w : World) (x : Int) (T : TypeId) : OwnU (w.alloc (.cells #[.int .u64 x] T)) T w.heap.size (.slice (some ⟨w.heap.size, 0, none⟩) 1 1) [x] :=
  ⟨rfl, .inr ⟨w.heap.size, 1, #[.int .u64 x], rfl, Nat.le_refl _, heap_alloc_new w _, Nat.le_refl _, by decide, rfl, rfl⟩⟩
theorem OwnU.some {w : World} {e : TypeId} {B n c : Nat} {a : Option Addr} {l : List Int} (h : OwnU w e B (.slice a n c) l) (hn : 0 < n) : ∃ g, a = some ⟨g, 0, none⟩ := by
  rcases h.2 with ⟨q, _⟩ | ⟨g, cap, cur, q, _⟩
  · cases q; omega
  · cases q; exact ⟨g, rfl⟩

set_option maxRecDepth 100000 in
set_option maxHeartbeats 8000000 in
theorem ushares_any {w : World} {a : Option Addr} {n c : Nat} {S : List Dm} (h : Dems w a n c S) (hok : ∀ x ∈ S, x.ok) (hl : S.length ≤ 64) : Calls Try.prog 26 #[.slice a n c] w (SharesBack S w) := by
  have HV := Lib.hid h.view
  have HL := Lib.hid h.len
  have HOK := Lib.hid hok
  have hn64 : n ≤ 64 := by have := h.len; omega
  clear h hok hl
  go_enter Try.func26, Try.ntmps26
  go_upto_block 0 with fail
  have HO1 : Hid (OwnU (w.alloc (.cells #[.int .u64 1152921504606846976] 43)) 43 w.heap.size (.slice (some ⟨w.heap.size, 0, none⟩) 1 1) (leftL S 0)) := ownU_one w _ _
  have HB1 : Hid (Below w.heap.size w (w.alloc (.cells #[.int .u64 1152921504606846976] 43))) := (by repeat (first | exact Below.refl _ _ | (with_reducible assumption) | refine bw_alloc ?_ _ | refine bw_drew ?_))
  go_wp2
  go_loopw [4, 14] (fun g u wr => ∃ (k : Nat) (a' : Option Addr) (c' : Nat), k ≤ n ∧ u = .int .i64 k ∧ g = .slice a' (k + 1) c' ∧ Hid (flN S k ≤ 1152921504606846976) ∧ Hid (OwnU wr 43 w.heap.size (.slice a' (k + 1) c') (leftL S k)) ∧ Hid (Below w.heap.size w wr)) (fun _ u _ => (n - intOf u).toNat)
  case atStart => exact ⟨0, _, _, Nat.zero_le _, rfl, rfl, by show (0 : Int) ≤ _; decide, HO1, HB1⟩
  case round =>
    obtain ⟨k, a', c', hk, rfl, rfl, HF, HO, HB⟩ := hrel
    clear HO1 HB1
    by_cases hlt : k < n
    · obtain ⟨x, hx⟩ := nth_of HL.out hlt
      obtain ⟨g, o, rfl, ⟨c0, c1, c2⟩⟩ := (HV.out.below HB.out).at_ hx
      obtain ⟨g2, rfl⟩ := HO.out.some (Nat.succ_pos _)
      have hk1 : (k : Int) < (n : Int) := by omega
      have hk0 : (0 : Int) ≤ (k : Int) := by omega
      have hk2 : (k : Int) < ((k + 1 : Nat) : Int) := by omega
      have hxo := HOK.out x (List.mem_of_getElem? hx)
      have x0 := hxo.c0; have x1 := hxo.c1; have x2 := hxo.d1; have x3 := hxo.d2; have x4 := hxo.t2
      have f0 := flI_nonneg hxo
      have HX := Lib.hid (fl_next hx)
      have HMO : Hid (flN S (k + 1) ≤ flN S S.length) := fl_mono HOK.out (by have := HL.out; omega)
      have n0 := fl_nonneg HOK.out k
      have e1 : IntKind.u64.wrap x.c = x.c := IntWalk.u64_in _ (by omega)
      have e2 : IntKind.u64.wrap x.t = x.t := IntWalk.u64_in _ (by omega)
      have MC := Lib.hid (fun v => muldiv_any x.c 1152921504606846976 x.t ⟨by omega, by omega⟩ ⟨by omega, by omega⟩ ⟨by omega, by omega⟩ v)
      have hmd : (mdB x.c 1152921504606846976 x.t = true ∧ mdN x.c 1152921504606846976 x.t = flI x ∧ flI x ≤ 18446744073709551615) ∨ (mdB x.c 1152921504606846976 x.t = false ∧ 1152921504606846976 < flI x) := by
        unfold mdB mdN flI
        by_cases q : x.c * 1152921504606846976 / 18446744073709551616 < x.t
        · refine .inl ⟨decide_eq_true q, if_pos q, ?_⟩
          have : x.c * 1152921504606846976 / x.t < 18446744073709551616 := Int.ediv_lt_of_lt_mul (by omega) (by omega)
          omega
        · refine .inr ⟨decide_eq_false q, ?_⟩
          have : 1152921504606846976 + 1 ≤ x.c * 1152921504606846976 / x.t := (Int.le_ediv_iff_mul_le (by omega)).2 (by omega)
          omega
      obtain ⟨r, hr⟩ : ∃ r, mdR x.c 1152921504606846976 x.t = r := ⟨_, rfl⟩
      obtain ⟨m, hm⟩ : ∃ m, mdN x.c 1152921504606846976 x.t = m := ⟨_, rfl⟩
      obtain ⟨b, hb⟩ : ∃ b, mdB x.c 1152921504606846976 x.t = b := ⟨_, rfl⟩
      have hmu : U64 (mdN x.c 1152921504606846976 x.t) := mdN_u64 (by omega) (by omega)
      rw [hm, hr, hb] at MC
      rw [hm] at hmu
      rw [hm, hb] at hmd
      obtain ⟨F, hF⟩ : ∃ F, flI x = F := ⟨_, rfl⟩
      rw [hF] at hmd HX f0
      have HNX : Hid ((leftL S (k + 1)) = leftL S k ++ [1152921504606846976 - flN S (k + 1)]) := by show _ = _; rfl
      obtain ⟨L, hL⟩ : ∃ L, leftL S k = L := ⟨_, rfl⟩
      have HLN : Hid (L.length = k + 1) := by show _ = _; rw [← hL]; exact leftL_len S k
      have hat : ∀ v, Below wr.heap.size wr v → v.cell? ⟨g2, k, none⟩ = some (.int .u64 (1152921504606846976 - flN S k)) := fun v hb => by
        obtain ⟨a9, c9, e9, hu, _⟩ := HO.out.slice
        obtain ⟨rfl, _, rfl⟩ := Value.slice.inj e9
        obtain ⟨g8, o8, e8, hc⟩ := (hu.below hb).at_ (leftL_at S (Nat.le_refl k))
        obtain ⟨rfl, rfl⟩ : g2 = g8 ∧ 0 = o8 := by simpa using e8
        rw [Nat.zero_add] at hc
        exact hc
      have HAT := Lib.hid hat
      obtain ⟨f, hf⟩ : ∃ f, flN S k = f := ⟨_, rfl⟩
      obtain ⟨f2, hf2⟩ : ∃ f2, flN S (k + 1) = f2 := ⟨_, rfl⟩
      rw [hf, hf2] at HX
      rw [hf] at HF n0 HAT
      rw [hf2] at HMO HNX
      rw [hL] at HO HNX
      have hff := HF.out
      have hfx := HX.out
      have SC := Lib.hid (fun v => sub_any (1152921504606846976 - f) m ⟨by omega, by omega⟩ hmu v)
      clear hx hxo hm hr hb hF hL hat x0 x1 x2 x3 x4 hmu
      have HF3 := Lib.hid hf2
      clear hf hf2
      have HSZ : Hid (w.heap.size ≤ wr.heap.size) := HB.out.size
      go_upto_region 5 with fail
      obtain ⟨v7, hv7⟩ : ∃ v7, wr.alloc (.cells #[.int .i64 x.c, .int .i64 x.d, .int .i64 x.t] 29) = v7 := ⟨_, rfl⟩
      have hbx : v7.heap[wr.heap.size]? = some (.cells #[.int .i64 x.c, .int .i64 x.d, .int .i64 x.t] 29 (0, 0)) := by rw [← hv7]; exact heap_alloc_new wr _
      have HB7 : Hid (Below wr.heap.size wr v7) := by rw [← hv7]; exact bw_alloc (Below.refl _ _) _
      have t0 : v7.cell? ⟨wr.heap.size, 0, none⟩ = some (.int .i64 x.c) := by rw [blk_cell hbx]; rfl
      have t2 : v7.cell? ⟨wr.heap.size, 2, none⟩ = some (.int .i64 x.t) := by rw [blk_cell hbx]; rfl
      rw [hv7]
      clear hv7 c0 c1 c2 hbx
      generalize wr.heap.size = gx at t0 t2 ⊢
      rcases hmd with ⟨rfl, rfl, hF1⟩ | ⟨rfl, hF1⟩
      · by_cases hle : m ≤ 1152921504606846976 - f
        · have eN : subN (1152921504606846976 - f) m = 1152921504606846976 - f2 := by unfold subN; rw [if_pos hle]; omega
          have eB : subB (1152921504606846976 - f) m = true := decide_eq_true hle
          have HF2 : Hid (f2 ≤ 1152921504606846976) := by show _ ≤ _; omega
          obtain ⟨lf, hlf⟩ : ∃ lf, 1152921504606846976 - f2 = lf := ⟨_, rfl⟩
          rw [hlf] at eN HNX
          rw [eN, eB] at SC
          clear hlf eN eB
          go_upto_region 8 with (go_at_call 40; (with_reducible refine (MC.out _).mono ?_); rintro e v8 ⟨rfl, b8⟩; have HB8 := Lib.hid (below_up HB7.out b8); clear b8)
          have c8 := HAT.out _ HB8.out
          go_upto_region 11 with (go_at_call 41; (with_reducible refine (SC.out _).mono ?_); rintro e v9 ⟨rfl, rfl⟩)

          go_wp2_with ((at_builtin; refine wp_uints numU (m := 1) (l := [lf]) rfl _ _ rfl rfl rfl ((HO.out.below HB8.out).below (by repeat (first | exact Below.refl _ _ | (with_reducible assumption) | refine bw_alloc ?_ _ | refine bw_drew ?_))) (Nat.le_trans (Nat.le_trans HSZ.out HB8.out.size) ((by repeat (first | exact Below.refl _ _ | (with_reducible assumption) | refine bw_alloc ?_ _ | refine bw_drew ?_)) : Below v8.heap.size v8 _).size) (uints_new v8 _ _) rfl (by have := HLN.out; omega) (fun z => by cases z) (k + 1 + 1) (by rw [HLN.out]) ?_; intro a6 c6 w6 o6 n6 l6; rw [← HNX.out] at o6; have HO6 := Lib.hid o6; have HB6 : Hid (Below w.heap.size w w6) := ((below_up HB.out HB8.out).trans (((by repeat (first | exact Below.refl _ _ | (with_reducible assumption) | refine bw_alloc ?_ _ | refine bw_drew ?_)) : Below v8.heap.size v8 _).mono (Nat.le_trans HSZ.out HB8.out.size))).grown n6 (Nat.le_trans (Nat.le_trans HSZ.out HB8.out.size) ((by repeat (first | exact Below.refl _ _ | (with_reducible assumption) | refine bw_alloc ?_ _ | refine bw_drew ?_)) : Below v8.heap.size v8 _).size) (fun q hq => (OwnU.new ((HO.out.below HB8.out).below (by repeat (first | exact Below.refl _ _ | (with_reducible assumption) | refine bw_alloc ?_ _ | refine bw_drew ?_))) hq).1); clear o6 n6 l6))
          go_roundw
          case rel => exact ⟨k + 1, a6, c6, by omega, by go_num, rfl, by show flN S (k + 1) ≤ _; rw [HF3.out]; exact HF2.out, HO6, HB6⟩
          case measure => simp [intOf]; omega
        · have eN : subB (1152921504606846976 - f) m = false := decide_eq_false hle
          obtain ⟨d, hd⟩ : ∃ d, subN (1152921504606846976 - f) m = d := ⟨_, rfl⟩
          rw [hd, eN] at SC
          have HW : Hid (1152921504606846976 < flN S S.length) := by show _ < _; have := HMO.out; omega
          clear hd
          go_upto_region 8 with (go_at_call 40; (with_reducible refine (MC.out _).mono ?_); rintro e v8 ⟨rfl, b8⟩; have HB8 := Lib.hid (below_up HB7.out b8); clear b8)
          have c8 := HAT.out _ HB8.out
          go_wp2_with (go_at_call 41; (with_reducible refine (SC.out _).mono ?_); rintro e v9 ⟨rfl, rfl⟩)
          go_ret2
          exact ⟨below_up HB.out HB8.out, .inr ⟨HW.out, rfl⟩⟩
      · have HW : Hid (1152921504606846976 < flN S S.length) := by show _ < _; have := HMO.out; omega
        go_wp2_with (go_at_call 40; (with_reducible refine (MC.out _).mono ?_); rintro e v8 ⟨rfl, b8⟩; have HB8 := Lib.hid (below_up HB7.out b8); clear b8)
        go_ret2
        exact ⟨below_up HB.out HB8.out, .inr ⟨HW.out, rfl⟩⟩
    · obtain rfl : k = n := by omega
      obtain ⟨g2, rfl⟩ := HO.out.some (Nat.succ_pos _)
      have HEL := HL.out
      go_wp2
      go_ret2
      exact ⟨HB.out, .inl ⟨by rw [HEL]; exact HF.out, g2, c', by rw [HEL]; rfl, by rw [HEL]; exact HO.out⟩⟩
end Go.Proofs.Ytpmllljlhopgbaa

/-
  DERIVED: THE SHELF's CONTRACTS AT THIS DUMP, IN PLAIN WORDS (tools/lay-plain.mjs out of 'TryShelf.lean', which tools/lay-shelf.mjs wrote): THE SAME DECLARATIONS UNDER THE SAME NAMES: 'import', 'namespace', 'open', 'def', 'theorem' AND NOTHING ELSE: no command of the shelf's: FOR A HAND-IN. Each laying: the table of numbers ('.._ren') and one theorem, a field a fact of the dump's own or the kernel's comparison; each contract: ONE APPLICATION.
-/
namespace Go.Proofs
open Go.Shelf
def Try.keysL_ren : Go.Shelf.Ren := ⟨fun | 7 => 30 | 10 => 44 | n => n, fun | 23 => 62 | 26 => 2 | 3 => 61 | 28 => 65 | 0 => 0 | 27 => 64 | 33 => 39 | 4 => 4 | n => n, fun | n => n⟩
theorem Try.keysL : Go.Proofs.SlLaysZI.n7 Try.prog Try.keysL_ren := {
  mixed := by kernel_rfl
  f7 := ⟨Try.f30.name, by decide, Try.func30.trans (congrArg some (by kernel_rfl))⟩
  f10 := ⟨Try.f44.name, by decide, Try.func44.trans (congrArg some (by kernel_rfl))⟩
  t0 := Try.underlying0
  a0 := Try.isAgg0
  z0 := Try.sizeOf0
  v0 := Try.zeroValue0
  t4 := Try.underlying4
  a4 := Try.isAgg4
  z4 := Try.sizeOf4
  v4 := Try.zeroValue4
  t23 := Try.underlying62
  a23 := Try.isAgg62
  z23 := Try.sizeOf62
  v23 := Try.zeroValue62
  t26 := Try.underlying2
  a26 := Try.isAgg2
  z26 := Try.sizeOf2
  v26 := Try.zeroValue2
  t27 := Try.underlying64
  a27 := Try.isAgg64
  z27 := Try.sizeOf64
  v27 := Try.zeroValue64
  t28 := Try.underlying65
  a28 := Try.isAgg65
  z28 := Try.sizeOf65
  v28 := Try.zeroValue65
  t33 := Try.underlying39
  a33 := Try.isAgg39
  z33 := Try.sizeOf39
  v33 := Try.zeroValue39 }
def Try.sortedL_ren : Go.Shelf.Ren := ⟨fun | 6 => 29 | 8 => 42 | 9 => 43 | 11 => 50 | 13 => 47 | 12 => 51 | 23 => 60 | 24 => 61 | 14 => 63 | 15 => 64 | 16 => 65 | 17 => 66 | 18 => 67 | 19 => 68 | 20 => 69 | 21 => 70 | 22 => 71 | 25 => 77 | 26 => 73 | 27 => 74 | 28 => 78 | 29 => 79 | 30 => 39 | 31 => 81 | n => n, fun | 26 => 2 | 28 => 65 | 24 => 44 | 0 => 0 | 3 => 3 | 37 => 76 | 48 => 91 | 50 => 43 | 4 => 4 | 40 => 84 | 39 => 83 | 45 => 88 | 5 => 5 | 9 => 9 | 51 => 101 | 55 => 105 | 57 => 109 | 58 => 110 | 33 => 39 | n => n, fun | n => n⟩
theorem Try.sortedL : Go.Proofs.SlLaysZI.n6 Try.prog Try.sortedL_ren := {
  mixed := by kernel_rfl
  f6 := ⟨Try.f29.name, by decide, Try.func29.trans (congrArg some (by kernel_rfl))⟩
  f8 := ⟨Try.f42.name, by decide, Try.func42.trans (congrArg some (by kernel_rfl))⟩
  f11 := ⟨Try.f50.name, by decide, Try.func50.trans (congrArg some (by kernel_rfl))⟩
  t0 := Try.underlying0
  a0 := Try.isAgg0
  z0 := Try.sizeOf0
  v0 := Try.zeroValue0
  t24 := Try.underlying44
  a24 := Try.isAgg44
  z24 := Try.sizeOf44
  v24 := Try.zeroValue44
  t26 := Try.underlying2
  a26 := Try.isAgg2
  z26 := Try.sizeOf2
  v26 := Try.zeroValue2
  t28 := Try.underlying65
  a28 := Try.isAgg65
  z28 := Try.sizeOf65
  v28 := Try.zeroValue65
  i26 := by kernel_rfl }
def Try.sortL_ren : Go.Shelf.Ren := ⟨fun | 5 => 43 | 8 => 47 | 7 => 51 | 19 => 60 | 20 => 61 | 10 => 63 | 11 => 64 | 12 => 65 | 13 => 66 | 14 => 67 | 15 => 68 | 16 => 69 | 17 => 70 | 18 => 71 | 30 => 77 | 31 => 73 | 32 => 74 | 33 => 78 | 34 => 79 | 35 => 39 | 40 => 81 | n => n, fun | 23 => 44 | 25 => 2 | 3 => 3 | 32 => 76 | 22 => 44 | 0 => 0 | 44 => 91 | 46 => 43 | 4 => 4 | 36 => 84 | 35 => 83 | 41 => 88 | 5 => 5 | 9 => 9 | 53 => 101 | 57 => 105 | 63 => 109 | 64 => 110 | n => n, fun | n => n⟩
theorem Try.sortL : Go.Proofs.SlLaysM.n5 Try.prog Try.sortL_ren := {
  mixed := by kernel_rfl
  f5 := ⟨Try.f43.name, by decide, Try.func43.trans (congrArg some (by kernel_rfl))⟩
  f7 := ⟨Try.f51.name, by decide, Try.func51.trans (congrArg some (by kernel_rfl))⟩
  f8 := Try.func47.trans (congrArg some (by kernel_rfl))
  f10 := ⟨Try.f63.name, by decide, Try.func63.trans (congrArg some (by kernel_rfl))⟩
  f11 := ⟨Try.f64.name, by decide, Try.func64.trans (congrArg some (by kernel_rfl))⟩
  f12 := ⟨Try.f65.name, by decide, Try.func65.trans (congrArg some (by kernel_rfl))⟩
  f13 := ⟨Try.f66.name, by decide, Try.func66.trans (congrArg some (by kernel_rfl))⟩
  f14 := ⟨Try.f67.name, by decide, Try.func67.trans (congrArg some (by kernel_rfl))⟩
  f15 := ⟨Try.f68.name, by decide, Try.func68.trans (congrArg some (by kernel_rfl))⟩
  f16 := ⟨Try.f69.name, by decide, Try.func69.trans (congrArg some (by kernel_rfl))⟩
  f17 := ⟨Try.f70.name, by decide, Try.func70.trans (congrArg some (by kernel_rfl))⟩
  f18 := ⟨Try.f71.name, by decide, Try.func71.trans (congrArg some (by kernel_rfl))⟩
  f19 := Try.func60.trans (congrArg some (by kernel_rfl))
  f20 := Try.func61.trans (congrArg some (by kernel_rfl))
  f30 := ⟨Try.f77.name, by decide, Try.func77.trans (congrArg some (by kernel_rfl))⟩
  f31 := Try.func73.trans (congrArg some (by kernel_rfl))
  f32 := Try.func74.trans (congrArg some (by kernel_rfl))
  f33 := ⟨Try.f78.name, by decide, Try.func78.trans (congrArg some (by kernel_rfl))⟩
  f34 := ⟨Try.f79.name, by decide, Try.func79.trans (congrArg some (by kernel_rfl))⟩
  f35 := ⟨Try.f39.name, by decide, Try.func39.trans (congrArg some (by kernel_rfl))⟩
  f40 := ⟨Try.f81.name, by decide, Try.func81.trans (congrArg some (by kernel_rfl))⟩
  t0 := Try.underlying0
  a0 := Try.isAgg0
  z0 := Try.sizeOf0
  v0 := Try.zeroValue0
  t3 := Try.underlying3
  a3 := Try.isAgg3
  z3 := Try.sizeOf3
  v3 := Try.zeroValue3
  t4 := Try.underlying4
  a4 := Try.isAgg4
  z4 := Try.sizeOf4
  v4 := Try.zeroValue4
  t5 := Try.underlying5
  a5 := Try.isAgg5
  z5 := Try.sizeOf5
  v5 := Try.zeroValue5
  t9 := Try.underlying9
  a9 := Try.isAgg9
  z9 := Try.sizeOf9
  v9 := Try.zeroValue9
  t22 := Try.underlying44
  a22 := Try.isAgg44
  z22 := Try.sizeOf44
  v22 := Try.zeroValue44
  t23 := Try.underlying44
  a23 := Try.isAgg44
  z23 := Try.sizeOf44
  v23 := Try.zeroValue44
  t25 := Try.underlying2
  a25 := Try.isAgg2
  z25 := Try.sizeOf2
  v25 := Try.zeroValue2
  t32 := Try.underlying76
  a32 := Try.isAgg76
  z32 := Try.sizeOf76
  v32 := Try.zeroValue76
  t35 := Try.underlying83
  a35 := Try.isAgg83
  z35 := Try.sizeOf83
  v35 := Try.zeroValue83
  t36 := Try.underlying84
  a36 := Try.isAgg84
  z36 := Try.sizeOf84
  v36 := Try.zeroValue84
  t41 := Try.underlying88
  a41 := Try.isAgg88
  z41 := Try.sizeOf88
  v41 := Try.zeroValue88
  t44 := Try.underlying91
  a44 := Try.isAgg91
  z44 := Try.sizeOf91
  v44 := Try.zeroValue91
  t46 := Try.underlying43
  a46 := Try.isAgg43
  z46 := Try.sizeOf43
  v46 := Try.zeroValue43
  t53 := Try.underlying101
  a53 := Try.isAgg101
  z53 := Try.sizeOf101
  v53 := Try.zeroValue101
  t57 := Try.underlying105
  a57 := Try.isAgg105
  z57 := Try.sizeOf105
  v57 := Try.zeroValue105
  t63 := Try.underlying109
  a63 := Try.isAgg109
  z63 := Try.sizeOf109
  v63 := Try.zeroValue109
  t64 := Try.underlying110
  a64 := Try.isAgg110
  z64 := Try.sizeOf110
  v64 := Try.zeroValue110 }
def Try.sortF_ren : Go.Shelf.Ren := ⟨fun | 6 => 37 | 15 => 47 | 14 => 46 | 28 => 60 | 29 => 61 | 20 => 52 | 21 => 53 | 22 => 54 | 23 => 55 | 24 => 56 | 25 => 57 | 26 => 58 | 27 => 59 | 46 => 72 | 47 => 73 | 48 => 74 | 49 => 75 | 50 => 76 | 57 => 80 | n => n, fun | 22 => 24 | 24 => 29 | 25 => 56 | 3 => 3 | 39 => 76 | 0 => 0 | 53 => 91 | 55 => 43 | 4 => 4 | 46 => 84 | 45 => 83 | 50 => 88 | 5 => 5 | 9 => 9 | 66 => 101 | 70 => 105 | 76 => 109 | 77 => 110 | n => n, fun | n => n⟩
theorem Try.sortF : Go.Proofs.SlLaysF0.n6 Try.prog Try.sortF_ren := {
  mixed := by kernel_rfl
  f6 := ⟨Try.f37.name, by decide, Try.func37.trans (congrArg some (by kernel_rfl))⟩
  f14 := ⟨Try.f46.name, by decide, Try.func46.trans (congrArg some (by kernel_rfl))⟩
  f15 := Try.func47.trans (congrArg some (by kernel_rfl))
  f20 := ⟨Try.f52.name, by decide, Try.func52.trans (congrArg some (by kernel_rfl))⟩
  f21 := ⟨Try.f53.name, by decide, Try.func53.trans (congrArg some (by kernel_rfl))⟩
  f22 := ⟨Try.f54.name, by decide, Try.func54.trans (congrArg some (by kernel_rfl))⟩
  f23 := ⟨Try.f55.name, by decide, Try.func55.trans (congrArg some (by kernel_rfl))⟩
  f24 := ⟨Try.f56.name, by decide, Try.func56.trans (congrArg some (by kernel_rfl))⟩
  f25 := ⟨Try.f57.name, by decide, Try.func57.trans (congrArg some (by kernel_rfl))⟩
  f26 := ⟨Try.f58.name, by decide, Try.func58.trans (congrArg some (by kernel_rfl))⟩
  f27 := ⟨Try.f59.name, by decide, Try.func59.trans (congrArg some (by kernel_rfl))⟩
  f28 := Try.func60.trans (congrArg some (by kernel_rfl))
  f29 := Try.func61.trans (congrArg some (by kernel_rfl))
  f46 := ⟨Try.f72.name, by decide, Try.func72.trans (congrArg some (by kernel_rfl))⟩
  f47 := Try.func73.trans (congrArg some (by kernel_rfl))
  f48 := Try.func74.trans (congrArg some (by kernel_rfl))
  f49 := ⟨Try.f75.name, by decide, Try.func75.trans (congrArg some (by kernel_rfl))⟩
  f50 := ⟨Try.f76.name, by decide, Try.func76.trans (congrArg some (by kernel_rfl))⟩
  f57 := ⟨Try.f80.name, by decide, Try.func80.trans (congrArg some (by kernel_rfl))⟩
  t0 := Try.underlying0
  a0 := Try.isAgg0
  z0 := Try.sizeOf0
  v0 := Try.zeroValue0
  t3 := Try.underlying3
  a3 := Try.isAgg3
  z3 := Try.sizeOf3
  v3 := Try.zeroValue3
  t4 := Try.underlying4
  a4 := Try.isAgg4
  z4 := Try.sizeOf4
  v4 := Try.zeroValue4
  t5 := Try.underlying5
  a5 := Try.isAgg5
  z5 := Try.sizeOf5
  v5 := Try.zeroValue5
  t9 := Try.underlying9
  a9 := Try.isAgg9
  z9 := Try.sizeOf9
  v9 := Try.zeroValue9
  t22 := Try.underlying24
  a22 := Try.isAgg24
  z22 := Try.sizeOf24
  v22 := Try.zeroValue24
  t25 := Try.underlying56
  a25 := Try.isAgg56
  z25 := Try.sizeOf56
  v25 := Try.zeroValue56
  t39 := Try.underlying76
  a39 := Try.isAgg76
  z39 := Try.sizeOf76
  v39 := Try.zeroValue76
  t45 := Try.underlying83
  a45 := Try.isAgg83
  z45 := Try.sizeOf83
  v45 := Try.zeroValue83
  t46 := Try.underlying84
  a46 := Try.isAgg84
  z46 := Try.sizeOf84
  v46 := Try.zeroValue84
  t50 := Try.underlying88
  a50 := Try.isAgg88
  z50 := Try.sizeOf88
  v50 := Try.zeroValue88
  t53 := Try.underlying91
  a53 := Try.isAgg91
  z53 := Try.sizeOf91
  v53 := Try.zeroValue91
  t55 := Try.underlying43
  a55 := Try.isAgg43
  z55 := Try.sizeOf43
  v55 := Try.zeroValue43
  t66 := Try.underlying101
  a66 := Try.isAgg101
  z66 := Try.sizeOf101
  v66 := Try.zeroValue101
  t70 := Try.underlying105
  a70 := Try.isAgg105
  z70 := Try.sizeOf105
  v70 := Try.zeroValue105
  t76 := Try.underlying109
  a76 := Try.isAgg109
  z76 := Try.sizeOf109
  v76 := Try.zeroValue109
  t77 := Try.underlying110
  a77 := Try.isAgg110
  z77 := Try.sizeOf110
  v77 := Try.zeroValue110 }
end Go.Proofs

/-
  What a round of a range over a function keeps.
-/
namespace Go.Proofs.Ytpmllljlhopgbaa
open Go.RowKit Go.Maps Go.Shelf

/-- What a round keeps: all blocks of cells but some. -/
def KpN (N : Nat → Prop) (X Y : World) : Prop := (∀ k cs T fr, ¬ N k → X.heap[k]? = some (.cells cs T fr) → Y.heap[k]? = some (.cells cs T fr)) ∧ X.heap.size ≤ Y.heap.size
theorem kpN_t {N : Nat → Prop} {A B C : World} (h : KpN N A B) (k : KpN N B C) : KpN N A C := ⟨fun i cs T fr q z => k.1 i cs T fr q (h.1 i cs T fr q z), Nat.le_trans h.2 k.2⟩
theorem kpN_b {N : Nat → Prop} {B : Nat} (W : World) (l : Nat) (o o' : Obj) (_ : B ≤ l) (h : W.heap[l]? = some o) (hc : o.isCells = false) (_ : o.isWalk = false) : KpN N W (W.putObj l o') := by
  refine ⟨fun k cs T fr _ z => ?_, by simp [World.putObj]⟩
  by_cases e : k = l
  · subst e
    rw [z] at h
    cases h
    cases hc
  · exact (World.putObj_heap_other e).trans z
theorem kpN_below {N : Nat → Prop} {X Y : World} (h : Below X.heap.size X Y) : KpN N X Y := ⟨fun k cs T fr _ z => kept_obj h z, h.size⟩
theorem kpN_low {D : Nat} {X Y : World} (h : Below D X Y) : KpN (fun k => D ≤ k) X Y := ⟨fun k cs T fr hk z => (h.block k (by omega)).trans z, h.size⟩
theorem kf_below {D : Nat} {X Y : World} (h : Below X.heap.size X Y) : KeepsFrom D X Y := ⟨h.size, fun k o _ hk _ => kept_obj h hk⟩
theorem grown_none {X Y : World} (h : Below X.heap.size X Y) : X.grownBy Y none := ⟨h.os, h.tape, h.output, h.size, fun k hk _ => h.block k hk⟩
theorem told_or {e : Ending} {A B : Prop} (h : (e = .returned (.bool true) ∧ A) ∨ (e = .returned (.bool false) ∧ B)) : ∃ q, e = .returned (.bool q) ∧ Hid ((q = true → A) ∧ (q = false → B)) := by
  rcases h with ⟨rfl, h⟩ | ⟨rfl, h⟩
  · exact ⟨true, rfl, fun _ => h, fun e => by cases e⟩
  · exact ⟨false, rfl, fun e => (by cases e), fun _ => h⟩
theorem cell_block {w : World} {b o : Nat} {v : Value} (h : w.cell? ⟨b, o, none⟩ = some v) : ∃ cs T fr, w.heap[b]? = some (.cells cs T fr) := by
  unfold World.cell? at h
  cases e : w.heap[b]? with
  | none => rw [e] at h; cases h
  | some ob =>
    rw [e] at h
    cases ob with
    | cells cs T fr => exact ⟨cs, T, fr, rfl⟩
    | _ => simp at h
theorem GView.kp {N : Nat → Prop} {X Y : World} {a : Option Addr} {l : List Dm} (h : GView X a l) (hk : KpN N X Y) (hn : ∀ b o i, a = some ⟨b, o, i⟩ → ¬ N b) : GView Y a l := by
  rcases h with rfl | ⟨b, o, rfl, hc⟩
  · exact .inl rfl
  · refine .inr ⟨b, o, rfl, fun j u hj => ?_⟩
    have hh := hc j u hj
    obtain ⟨cs, T, fr, e⟩ := cell_block hh
    rw [blk_cell (hk.1 b cs T fr (hn b o none rfl) e)]
    rw [blk_cell e] at hh; exact hh
theorem Dems.kp {N : Nat → Prop} {X Y : World} {a : Option Addr} {n c : Nat} {l : List Dm} (h : Dems X a n c l) (hk : KpN N X Y) (hn : 0 < l.length → ∀ b o i, a = some ⟨b, o, i⟩ → ¬ N b) : Dems Y a n c l := by
  refine ⟨h.len, ?_, h.le, h.small, h.wf⟩
  cases l with
  | nil => exact .inl rfl
  | cons z l => exact h.view.kp hk (hn (by simp))
theorem GView.off {w : World} {a : Option Addr} {l : List Dm} (h : GView w a l) : 0 < l.length → ∀ b o i, a = some ⟨b, o, i⟩ → b < w.heap.size := by
  intro h0 b o i e
  cases l with
  | nil => simp at h0
  | cons z l =>
    rcases h with e' | ⟨g, o', rfl, hc⟩
    · cases e'
    · cases e
      obtain ⟨cs, T, fr, e⟩ := cell_block (hc 0 (.int .i64 z.c) rfl)
      exact lt_of_block e
end Go.Proofs.Ytpmllljlhopgbaa

/-
  The walks over what tells the values of a row, and over what collects them.
-/
namespace Go.Proofs.Ytpmllljlhopgbaa
open Go.RowKit Go.Maps Go.Shelf
attribute [local go_sem] Oper.semAt_some

/-- What it reads: its box, the demands. -/
structure VC (W : World) (Bl : Nat) (N : Nat → Prop) (a : Option Addr) (m c : Nat) (l : List Dm) : Prop where
  bl : W.heap[Bl]? = some (.cells #[.slice a m c] 24 (0, 0))
  nl : ¬ N Bl
  dems : Dems W a m c l
  off : 0 < l.length → ∀ b o i, a = some ⟨b, o, i⟩ → ¬ N b
theorem VC.below {W W' : World} {Bl : Nat} {N : Nat → Prop} {a : Option Addr} {m c : Nat} {l : List Dm} (h : VC W Bl N a m c l) (hb : Below W.heap.size W W') : VC W' Bl N a m c l :=
  ⟨kept_obj hb h.bl, h.nl, h.dems.below hb, h.off⟩
theorem VC.kp {W W' : World} {Bl : Nat} {N : Nat → Prop} {a : Option Addr} {m c : Nat} {l : List Dm} (h : VC W Bl N a m c l) (hk : KpN N W W') : VC W' Bl N a m c l :=
  ⟨hk.1 _ _ _ _ h.nl h.bl, h.nl, h.dems.kp hk h.off, h.off⟩

set_option maxRecDepth 100000 in
set_option maxHeartbeats 8000000 in
theorem values1_in (n : Nat) (hn : 1 ≤ n) (y : Nat) (l : List Dm) (m c : Nat) (hm : m ≤ 64) (a : Option Addr) (Bl : Nat) (N : Nat → Prop)
    (J Jx : List Dm → World → Prop) (W : World) (hJ : ∀ q X Y, J q X → Below X.heap.size X Y → J q Y)
    (hY : ∀ pre x W1, J pre W1 → pre.length < 64 → YieldAt Fence.wide (n - 1) Try.prog y #[.agg #[.int .i64 x.c, .int .i64 x.d, .int .i64 x.t]] W1 fun e W' =>
      (e = .returned (.bool true) ∧ J (pre ++ [x]) W' ∧ KpN N W1 W') ∨ (e = .returned (.bool false) ∧ Jx (pre ++ [x]) W'))
    (hC : VC W Bl N a m c l) (h0 : J [] W) :
    CallsIn Fence.wide n Try.prog 38 #[.func (.yield y) #[] #[], .pointer (some ⟨Bl, 0, none⟩)] W fun e W' => (∃ v, e = .returned v) ∧
      ((∃ ys, ys = l ∧ J ys W') ∨ (∃ pre : List Dm, True ∧ Jx pre W')) := by
  have HY := Lib.hid hY
  have HJ := Lib.hid hJ
  have HC := Lib.hid hC
  have HNN1 := Lib.hid hn
  have HL := Lib.hid hC.dems.len
  have H0 : Hid (J [] W) := h0
  have k0 : W.cell? ⟨Bl, 0, none⟩ = some (.slice a m c) := by rw [blk_cell hC.bl]; rfl
  clear hY hJ hC h0 hn
  refine callsIn_of_wp Try.func38 rfl trivial ?_ rfl
  simp only [Try.ntmps38, List.size_toArray, List.length_cons, List.length_nil, Nat.reduceAdd, Nat.reduceSub, Array.replicate_succ, Array.replicate_zero, List.push_toArray, List.append_toArray, List.nil_append, List.cons_append]
  have hn := HNN1.out
  gi_wp2
  gi_loopw [7] (fun u wr => ∃ k : Nat, k ≤ m ∧ u = .int .i64 k ∧ Hid (VC wr Bl N a m c l) ∧ Hid (J (l.take k) wr)) (fun u _ => (m - intOf u).toNat)
  case atStart => exact ⟨0, Nat.zero_le _, rfl, HC, H0⟩
  case round =>
    obtain ⟨k, hk, rfl, HCr, HJr⟩ := hrel
    clear HC H0 k0
    by_cases hlt : k < m
    · obtain ⟨x, hx⟩ := nth_of HL.out hlt
      obtain ⟨g, o, rfl, ⟨c0, c1, c2⟩⟩ := HCr.out.dems.view.at_ hx
      have hk1 : (k : Int) < (m : Int) := by omega
      have hk0 : (0 : Int) ≤ (k : Int) := by omega
      have HTK : Hid (l.take (k + 1) = l.take k ++ [x]) := by show _ = _; rw [List.take_add_one, hx]; rfl
      have HLT : Hid ((l.take k).length < 64) := by show _ < _; rw [List.length_take]; omega
      have HB7 : Hid (Below wr.heap.size wr (wr.alloc (.cells #[.int .i64 x.c, .int .i64 x.d, .int .i64 x.t] 29))) := (by repeat (first | exact Below.refl _ _ | (with_reducible assumption) | refine bw_alloc ?_ _ | refine bw_drew ?_))
      obtain ⟨fn, tmps, assign, body, hy, hR⟩ := HY.out (l.take k) x (wr.alloc (.cells #[.int .i64 x.c, .int .i64 x.d, .int .i64 x.t] 29)) (HJ.out _ _ _ HJr.out HB7.out) HLT.out
      have HR := Lib.hid hR
      clear hR hx
      gi_wp2_with ((refine HR.out.mono ?_); rintro e W3 h3; obtain ⟨q, rfl, H3⟩ := told_or h3; clear h3)
      · have HT := Lib.hid (H3.out.2 (by cases q with | false => rfl | true => exact absurd ‹(!true) = true› (by decide)))
        (try simp only [Exit.inBlock, Exit.then])
        refine bodyPost_ret (results_none rfl _ _ _) rfl ?_
        exact ⟨⟨_, rfl⟩, .inr ⟨_, trivial, HT.out⟩⟩
      · have HT := Lib.hid (H3.out.1 (by cases q with | true => rfl | false => first | exact absurd rfl (by assumption) | exact absurd ‹(!false) = false› (by decide)))
        go_roundw
        case rel => exact ⟨k + 1, by omega, by go_num, (HCr.out.below HB7.out).kp HT.out.2, by rw [HTK.out]; exact HT.out.1⟩
        case measure => simp [intOf]; omega
    · obtain rfl : k = m := by omega
      have HE : Hid (J l wr) := by have := HJr.out; rwa [List.take_of_length_le (by have := HL.out; omega)] at this
      clear HJr
      gi_wp2
      go_end0
      exact ⟨⟨_, rfl⟩, .inl ⟨l, rfl, HE.out⟩⟩

theorem values_stops (n : Nat) (hn : 1 ≤ n) (l : List Dm) (m c : Nat) (hm : m ≤ 64) (a : Option Addr) (Bl : Nat) (N : Nat → Prop) (w : World) (hC : VC w Bl N a m c l) :
    SeqStopsK Fence.wide n Try.prog 38 #[.pointer (some ⟨Bl, 0, none⟩)] (fun x : Dm => #[.agg #[.int .i64 x.c, .int .i64 x.d, .int .i64 x.t]]) (KpN N)
      (fun ys => ys = l) (fun _ => True) 64 w :=
  fun y J Jx W hW hA _ hY h0 => values1_in n hn y l m c hm a Bl N J Jx W (fun q X Y h hb => hA q X Y none h (grown_none hb) (fun r e => by cases e)) hY (hC.below hW) h0
set_option maxRecDepth 100000 in
theorem values_any (a : Option Addr) (n c : Nat) (w : World) : Calls Try.prog 23 #[.slice a n c] w fun e w' =>
    e = .returned (.func (.func 38) #[] #[.pointer (some ⟨w.heap.size, 0, none⟩)]) ∧ w' = w.alloc (.cells #[.slice a n c] 24) := by
  have hmf : ∀ (fn : Fn) (first cap : Array Value) (w : World), (Instr.makeFunc fn first cap).run Try.prog w = .ok (.func fn first cap) w := fun _ _ _ _ => rfl
  go_enter Try.func23, Try.ntmps23
  go_wp2
  go_ret
  exact ⟨rfl, rfl⟩

theorem wpI_gappend {F : Fence} {n : Nat} {ops : Array Oper} {rest : List Oper} {o : Oper} {a : Act} {Q : Exit → Act → World → Prop} {w : World} (hgd : o.guard = none) (s x : Operand)
    (ho : o.op = .call { callee := .builtin .append, args := #[s, x], argTypes := #[24, 24] }) {B m c : Nat} {v : Value} {q l : List Dm} {ad : Option Addr} (hs : a.eval s = v) (hx : a.eval x = .slice ad m c)
    (hown : OwnG w B v q) (hB : B ≤ w.heap.size) (hv : GView w ad l) (hl : l.length = m) (hsm : q.length + m ≤ 1000000) (hn : ad = none → m = 0) (N : Nat) (hN : q.length + m = N)
    (h : ∀ a' cp' w', OwnG w' B (.slice a' N cp') (q ++ l) → w.grownBy w' v.ownBlock → wpListIn F n Try.prog ops Q rest (a.put o.dst (.slice a' N cp')) w') : wpListIn F n Try.prog ops Q (o :: rest) a w := by
  refine wpListIn_plain hgd fun K hK' => ?_
  obtain ⟨v', w', hr, h2, h3, _⟩ := append_gview (c := c) hown hB hv hl hsm hn o.type
  obtain ⟨a', cp', hv', _⟩ := h2.slice
  rw [List.length_append, hl, hN] at hv'
  subst hv'
  unfold Oper.wpIn
  refine ⟨?_, ?_⟩
  · simp [Oper.about, ho, resolve, Target.leads, Sem.run_pure]
  · rw [Oper.semAt_plain F _ _ (by rw [ho]; intro c hc'; cases hc')]
    simp [execOp, ho, resolve, invoke, builtin, hs, hx, hr, Result.andThen]
    exact hK' _ _ (h a' cp' w' h2 h3)

/-- A range over a function whose variable lies in a box of its own. -/
theorem range_box {α : Type} {n : Nat} {P : Program} {g : Operand} {ps : Array Tmp} {assign body : Code} {Q : Exit → Act → World → Prop} {a : Act} {w : World} (h1 : 1 ≤ n) {gf : Nat} {lb : Array Value}
    (hg : a.eval g = .func (.func gf) #[] lb) (eg : ∀ args w, (callFunc gf args).run P w = .ok (.enter gf args) w) {encs : α → Array Value} {Kp : World → World → Prop} {S Sp : List α → Prop} {N : Nat}
    (hseq : SeqStopsK Fence.wide (n - 1) P gf lb encs Kp S Sp N w) (hKt : ∀ {A B C : World}, Kp A B → Kp B C → Kp A C)
    (hKb : ∀ (W : World) (l : Nat) (o o' : Obj), w.heap.size ≤ l → W.heap[l]? = some o → o.isCells = false → o.isWalk = false → Kp W (W.putObj l o')) (hKa : ∀ X o, Kp X (World.alloc X o)) (hps : ∀ x, (encs x).size = ps.size)
    (T : TypeId) (cs : α → Array Value) (I : List α → World → Prop) (hI : OwnFrom w.heap.size I) (h0 : I [] w) {A1 : α → Nat → Act}
    (hassign : ∀ (l : Nat) (x : α) (W : World) (b : Nat) (K : Act → World → Prop), W.heap.size = b → K (A1 x b) (W.alloc (.cells (cs x) T)) →
      assign.wpIn (Fence.wide.inRound l) (n - 1 - 1) P (Exit.then K (fun _ _ _ => False)) { tmps := (ps.zip (encs x)).foldl (fun t (p, v) => t.setIfInBounds p v) a.tmps, defers := [] } W)
    (hbody : ∀ (l : Nat) (pre : List α) (x : α) (b : Nat) (W : World), I pre W → W.heap[b]? = some (.cells (cs x) T (0, 0)) → pre.length < N → body.wpIn (Fence.wide.inRound l) (n - 1 - 1) P (ownPostG w.heap.size Kp I (fun _ _ _ => False) (pre ++ [x]) W) (A1 x b) W)
    (hdone : ∀ (D : Nat) (xs : List α) (W : World), w.heap.size ≤ D → S xs → I xs W → W.heap[D]? = some (.deferred (some [])) → Q .normal { a with defers := { target := .collected D, args := #[] } :: a.defers } W) :
    (Code.rangeFunc g ps assign body).wpIn Fence.wide n P Q a w :=
  wpIn_rangeFunc_ownH rfl h1 hg trivial eg hseq (fun h k => hKt h k) hKb (Below.refl _ _) hps I (fun _ _ _ => False) hI (fun _ _ _ _ _ h _ _ => h) h0 (fun x a' W => ∃ b, a' = A1 x b ∧ W.heap[b]? = some (.cells (cs x) T (0, 0)))
    (fun x a' _ X Y row ⟨b, e, hb⟩ hg hr => ⟨b, e, (hg.block b (lt_of_block hb) (fun z => by
      obtain ⟨_, o, ho, hc⟩ := hr b z.symm
      rw [hb] at ho; cases ho; cases hc)).trans hb⟩)
    (fun l pre x W K hi hK => hassign l x W W.heap.size K rfl (hK _ _ (kf_below ((Below.refl _ _).alloc (Nat.le_refl _) _)) (hKa _ _) (hI.alloc _ hi) ⟨_, rfl, heap_alloc_new W _⟩))
    (fun l pre x a' W _ _ hi ⟨b, e, hb⟩ hlt => by subst e; exact hbody l pre x b W hi hb hlt) hdone (fun _ _ _ _ _ _ h _ => h.elim)

/-- What came so far, in a row of its own in a box. -/
def ApI (w : World) (pre : List Dm) (W : World) : Prop := (∃ a' c', Go.Boxed W w.heap.size 24 (.slice a' pre.length c') ∧ OwnG W w.heap.size (.slice a' pre.length c') pre) ∧ Below w.heap.size w W
theorem apI_own {w : World} {D : Nat} (hD : w.heap.size ≤ D) : OwnFrom D (ApI w) := fun pre X Y row ⟨⟨a', c', hb, ho⟩, hl⟩ hg hr => by
  refine ⟨⟨a', c', hb.kept hg (fun e' => ?_), ?_⟩, ownFrom_below (β := Unit) (Nat.le_refl _) hD () X Y row hl hg hr⟩
  · obtain ⟨_, o, ho, hc⟩ := hr _ e'.symm
    rw [show X.heap[w.heap.size]? = _ from hb] at ho; cases ho; cases hc
  · refine World.ownsRow.kept ho hg ?_
    rcases ho.2 with ⟨e, _⟩ | ⟨g, cap, cur, e, _, hgb, _⟩
    · rw [e]; exact .inl rfl
    · refine .inr fun e' => ?_
      rw [e] at e'
      obtain ⟨_, o, ho, hc⟩ := hr g (by simpa [Value.ownBlock] using e'.symm)
      rw [hgb] at ho; cases ho; cases hc
/-- A row of its own. -/
structure CollBack (w : World) (l : List Dm) (e : Ending) (w' : World) : Prop where
  low : Below w.heap.size w w'
  got : ∃ a' c', e = .returned (.slice a' l.length c') ∧ OwnG w' w.heap.size (.slice a' l.length c') l
set_option maxRecDepth 100000 in
set_option maxHeartbeats 8000000 in
theorem uappend_any {w : World} {a : Option Addr} {n c : Nat} {l : List Dm} (h : Dems w a n c l) (hn : n ≤ 64) (Bl : Nat) (hb : w.heap[Bl]? = some (.cells #[.slice a n c] 24 (0, 0))) :
    Calls Try.prog 45 #[.slice none 0 0, .func (.func 38) #[] #[.pointer (some ⟨Bl, 0, none⟩)]] w (CollBack w l) := by
  have HL := Lib.hid h.len
  have hs0 : (w.alloc (.cells #[.slice none 0 0] 24)).heap.size = w.heap.size + 1 := by simp
  have hb0 : Below w.heap.size w (w.alloc (.cells #[.slice none 0 0] 24)) := (by repeat (first | exact Below.refl _ _ | (with_reducible assumption) | refine bw_alloc ?_ _ | refine bw_drew ?_))
  have HC : Hid (VC (w.alloc (.cells #[.slice none 0 0] 24)) Bl (fun k => w.heap.size ≤ k) a n c l) :=
    ⟨kept_obj hb0 hb, by have := lt_of_block hb; omega, h.below hb0, fun h0 b o i e => by have := h.view.off h0 b o i e; omega⟩
  have HI0 : Hid (ApI w [] (w.alloc (.cells #[.slice none 0 0] 24))) := ⟨⟨none, 0, Go.Boxed.new w _ _, OwnG.nil _ _⟩, hb0⟩
  have HS0 := Lib.hid hs0
  clear h hb hb0 hs0
  refine (callsIn_wide (n := 8)).1 ?_
  refine callsIn_of_wp_marks Try.func45 rfl trivial ?_ rfl
  simp only [Try.ntmps45, List.size_toArray, List.length_cons, List.length_nil, Nat.reduceAdd, Nat.reduceSub, Array.replicate_succ, Array.replicate_zero, List.push_toArray, List.append_toArray, List.nil_append, List.cons_append]
  gi_wp2
  generalize (w.alloc (.cells #[.slice none 0 0] 24)) = W0 at *
  apply range_box (n := 8) (by omega) (gf := 38) (lb := #[.pointer (some ⟨Bl, 0, none⟩)]) rfl (enters_of Try.func38 (by kernel_rfl) rfl)
    (values_stops 7 (by omega) l n c hn a Bl (fun k => w.heap.size ≤ k) W0 HC.out) kpN_t kpN_b (fun _ _ => kpN_below ((Below.refl _ _).alloc (Nat.le_refl _) _)) (fun _ => rfl) 29 (fun x : Dm => #[.int .i64 x.c, .int .i64 x.d, .int .i64 x.t])
    (ApI w) (apI_own (by have := HS0.out; omega)) HI0.out
  case hassign =>
    intro y x V b K hbV hK
    gi_wp2
    exact hK
  case hbody =>
    rintro y pre x b V ⟨⟨a', c', hbx, ho⟩, hl⟩ hcb hlt
    have HBX := Lib.hid hbx
    have HO := Lib.hid ho
    have HLW := Lib.hid hl
    have k0 := hbx.cell
    have f0 := hbx.frozen
    have t0 : V.cell? ⟨b, 0, none⟩ = some (.int .i64 x.c) := by rw [blk_cell hcb]; rfl
    have t1 : V.cell? ⟨b, 1, none⟩ = some (.int .i64 x.d) := by rw [blk_cell hcb]; rfl
    have t2 : V.cell? ⟨b, 2, none⟩ = some (.int .i64 x.t) := by rw [blk_cell hcb]; rfl
    have HSZ : Hid (w.heap.size ≤ V.heap.size) := hl.size
    have HLT : Hid (pre.length + 1 ≤ 1000000) := by show _ ≤ _; omega
    have HGV : Hid (GView (V.alloc (.cells #[.int .i64 x.c, .int .i64 x.d, .int .i64 x.t] 29)) (some ⟨V.heap.size, 0, none⟩) [x]) := .of_at ⟨by rw [World.cell?_alloc_new]; rfl, by rw [World.cell?_alloc_new]; rfl, by rw [World.cell?_alloc_new]; rfl⟩
    clear hbx ho hl hcb
    gi_wp2_with (gi_at_builtin; refine wpI_gappend (m := 1) (l := [x]) rfl _ _ rfl rfl rfl (HO.out.below (by repeat (first | exact Below.refl _ _ | (with_reducible assumption) | refine bw_alloc ?_ _ | refine bw_drew ?_))) (Nat.le_trans HSZ.out ((by repeat (first | exact Below.refl _ _ | (with_reducible assumption) | refine bw_alloc ?_ _ | refine bw_drew ?_)) : Below V.heap.size V _).size) HGV.out rfl HLT.out (fun z => by cases z) (pre.length + 1) rfl ?_; intro a6 c6 w6 o6 n6; have H6 := Lib.hid (Go.Boxed.appended (tmp := (.cells #[.int .i64 x.c, .int .i64 x.d, .int .i64 x.t] 29)) HBX.out (by decide) HO.out HSZ.out (Nat.le_refl _) o6 n6); have k6 := H6.out.1.cell; have f6 := H6.out.1.frozen; clear o6 n6)
    have h6 := H6.out
    exact ⟨h6.2.2.2.1.from _, kpN_low h6.2.2.2.2, ⟨⟨a6, c6, by rw [List.length_append, List.length_singleton]; exact h6.2.1, by rw [List.length_append, List.length_singleton]; exact h6.2.2.1⟩, HLW.out.trans h6.2.2.2.2⟩⟩
  case hdone =>
    rintro Dd xs V hDd rfl ⟨⟨a', c', hbx, ho⟩, hl⟩ hK
    have HBX := Lib.hid hbx
    have HO := Lib.hid ho
    have HLW := Lib.hid hl
    have HKD := Lib.hid hK
    have HDd := Lib.hid hDd
    have k0 := hbx.cell
    clear hbx ho hl hK hDd
    gi_wp2
    refine ⟨by simp, .inl ⟨_, _, rfl, run_takeDeferred (show V.heap[Dd]? = some (.deferred (some [])) from HKD.out), ?_⟩⟩
    exact ⟨_, results_tmp rfl _ _ _, ⟨HLW.out.trans (belowK_b (w := w) (Nat.le_refl _) V Dd _ _ (by have := HDd.out; have := HS0.out; omega) HKD.out rfl rfl), a', c', rfl, ownsRow_putObj HO.out _ HKD.out rfl⟩⟩
end Go.Proofs.Ytpmllljlhopgbaa

/-
  The walks over a row that is sorted by periods.
-/
namespace Go.Proofs.Ytpmllljlhopgbaa
open Go.RowKit Go.Maps Go.Shelf

instance dmInh : Inhabited Dm := ⟨⟨0, 0, 0⟩⟩
def cmpI (x y : Int) : Int := if x < y then -1 else if y < x then 1 else 0
def cmpT (x y : Dm) : Int := cmpI x.t y.t
theorem ltT (x y : Dm) : ltOf cmpT x y = decide (x.t < y.t) := by
  unfold ltOf cmpT cmpI
  by_cases h : x.t < y.t
  · rw [if_pos h]; simp [h]
  · rw [if_neg h]
    by_cases h2 : y.t < x.t
    · rw [if_pos h2]; simp [h]
    · rw [if_neg h2]; simp [h]
theorem swoT : Sort.SWO (ltOf cmpT) :=
  ⟨fun x => by rw [ltT]; simp, fun x y z h1 h2 => by rw [ltT, decide_eq_true_eq] at *; omega, fun x y z h1 h2 => by rw [ltT, decide_eq_false_iff_not] at *; omega⟩

set_option maxHeartbeats 400000 in
theorem unan_any (x : Int) (w : World) : Calls Try.prog 39 #[.int .i64 x] w fun e w' => e = .returned (.bool false) ∧ w = w' := by
  go_enter Try.func39, Try.ntmps39
  go_wp2
  go_ret
  exact ⟨rfl, rfl⟩
set_option maxHeartbeats 400000 in
theorem ucmp_any (x y : Int) (w : World) : Calls Try.prog 25 #[.int .i64 x, .int .i64 y] w fun e w' => e = .returned (.int .i64 (cmpI x y)) ∧ w = w' := by
  unfold cmpI
  rcases Int.lt_trichotomy x y with h | h | h
  · rw [if_pos h]
    go_enter Try.func25, Try.ntmps25
    go_wp2_with (go_at_call 39; (with_reducible refine (unan_any _ _).mono ?_); rintro e w' ⟨rfl, rfl⟩)
    go_ret
    exact ⟨rfl, rfl⟩
  · subst h
    have h1 : ¬ x < x := by omega
    rw [if_neg h1, if_neg h1]
    go_enter Try.func25, Try.ntmps25
    go_wp2_with (go_at_call 39; (with_reducible refine (unan_any _ _).mono ?_); rintro e w' ⟨rfl, rfl⟩)
    go_ret
    exact ⟨rfl, rfl⟩
  · have h1 : ¬ x < y := by omega
    rw [if_neg h1, if_pos h]
    go_enter Try.func25, Try.ntmps25
    go_wp2_with (go_at_call 39; (with_reducible refine (unan_any _ _).mono ?_); rintro e w' ⟨rfl, rfl⟩)
    go_ret
    exact ⟨rfl, rfl⟩

set_option maxRecDepth 100000 in
set_option maxHeartbeats 1000000 in
theorem ushort_any (x y : Dm) (W : World) : Calls Try.prog 24 #[.agg #[.int .i64 x.c, .int .i64 x.d, .int .i64 x.t], .agg #[.int .i64 y.c, .int .i64 y.d, .int .i64 y.t]] W fun e w' => e = .returned (.int .i64 (cmpT x y)) ∧ ∃ q os, w' = Sort.grow (W.drewN q) os := by
  have C := Lib.hid (ucmp_any x.t y.t)
  unfold cmpT
  generalize cmpI x.t y.t = r at C ⊢
  go_enter Try.func24, Try.ntmps24
  go_wp2_with (go_at_call 25; (with_reducible refine (C.out _).mono ?_); rintro e w1 ⟨rfl, rfl⟩)
  go_ret
  exact ⟨rfl, 0, _, by rw [Sort.alloc_eq_grow, Sort.alloc_eq_grow, Sort.grow_grow]; rfl⟩
theorem shortLays (blk off size : Nat) (w : World) : CmpLays Try.prog 24 #[] gcells 3 cmpT blk off size w :=
  fun _ _ _ _ x y => ushort_any x y _

theorem gcells_one (x : Dm) : ∀ v ∈ gcells x, v.oneCell' = true := by
  intro u h
  simp [gcells] at h
  rcases h with rfl | rfl | rfl <;> rfl
theorem gflat_get (l : List Dm) (t : Nat) (ht : t < l.length * 3) : (gflat l)[t]? = some (((gcells l[t / 3]!)[t % 3]!)) := by
  have h7 : t / 3 < l.length := by omega
  have h := gflat_at l (t / 3) l[t / 3]! (by simp [h7]) (t % 3) (by omega)
  rw [show t / 3 * 3 + t % 3 = t by omega] at h
  rw [h]
  have this : t % 3 < (gcells (l[t / 3]!)).length := by rw [gcells_len]; omega
  rw [getElem!_pos (gcells (l[t / 3]!)) (t % 3) this, List.getElem?_eq_getElem this]
theorem gflatK_flat (d : Array Dm) (t : Nat) (ht : t < d.size * 3) : (gflat d.toList)[t]? = some ((Sort.flatK gcells 3 d)[t]!) := by
  rw [gflat_get d.toList t (by simpa using ht), Sort.get_flatK gcells 3 d t ht]
  congr 3
  have h7 : t / 3 < d.size := by omega
  simp [h7]
theorem gholds_of {w : World} {B blk cap : Nat} {d : Array Dm} (h : OwnG w B (.slice (some ⟨blk, 0, none⟩) d.size cap) d.toList) : Sort.HoldsK gcells 3 w blk 0 d := by
  rcases h with ⟨h0, q | ⟨g, cap', cur, e, hb, h3, h1, h2, h4, h5⟩⟩
  · cases q.1
  · cases e
    intro j hj
    rw [Sort.size_flatK] at hj
    have hf := gflatK_flat d j hj
    have h5' := h5
    rw [← h5', List.getElem?_take, if_pos (by simpa using hj)] at hf
    rw [Nat.zero_add]
    exact ⟨by rw [blk_cell h3]; simpa using hf, blk_free h3 j⟩
theorem gsorted_own {w : World} {B blk cap : Nat} {d d' : Array Dm} (h : OwnG w B (.slice (some ⟨blk, 0, none⟩) d.size cap) d.toList) (hs : d'.size = d.size) (n : Nat) (os : Array Obj) :
    OwnG (sortWorldK gcells 3 w blk 0 n d' os) B (.slice (some ⟨blk, 0, none⟩) d.size cap) d'.toList ∧ Below B w (sortWorldK gcells 3 w blk 0 n d' os) ∧ blk < w.heap.size := by
  rcases h with ⟨h0, q | ⟨g, cap', cur, e, hb, h3, h1, h2, h4, h5⟩⟩
  · cases q.1
  · cases e
    have hbl := lt_of_block h3
    have hh : ∀ k, k < w.heap.size → (sortWorldK gcells 3 w blk 0 n d' os).heap[k]? = (w.heap.modify blk (Sort.onCells (Sort.putCells id 0 (Sort.flatK gcells 3 d'))))[k]? := by
      intro k hk
      show (w.heap.modify blk _ ++ os)[k]? = _
      rw [Array.getElem?_append_left (by simpa using hk)]
    have hfar : ∀ k, k < w.heap.size → k ≠ blk → (sortWorldK gcells 3 w blk 0 n d' os).heap[k]? = w.heap[k]? := by
      intro k hk hne
      rw [hh k hk, Array.getElem?_modify, if_neg (Ne.symm hne)]
    refine ⟨⟨by rw [gflat_len], .inr ⟨blk, cap, Sort.putCells id 0 (Sort.flatK gcells 3 d') cur, by simp [hs], hb, ?_, by simpa [hs] using h1, h2, by simp [Sort.putCells, h4], ?_⟩⟩, ⟨rfl, rfl, rfl, by show w.heap.size ≤ (w.heap.modify blk _ ++ os).size; simp, ?_⟩, hbl⟩
    · rw [hh blk hbl, Array.getElem?_modify, if_pos rfl, h3]; rfl
    · apply List.ext_getElem?
      intro t
      simp only [Array.length_toList] at h1
      by_cases ht : t < d'.size * 3
      · rw [List.getElem?_take, if_pos (by simpa using ht), gflatK_flat d' t ht]
        have htc : t < cur.size := by rw [h4]; have := Nat.mul_le_mul_right 3 h1; omega
        simp [Sort.putCells, htc, ht]
      · rw [List.getElem?_take, if_neg (by simpa using ht), List.getElem?_eq_none (by rw [gflat_len]; simpa using ht)]
    · intro k hk
      exact hfar k (by omega) (by omega)

/-- A row that was sorted. -/
structure GSorted (B : Nat) (v : Value) (l : List Dm) (w : World) (e : Ending) (w' : World) : Prop where
  ret : e = .returned (.tuple #[])
  low : Below B w w'
  got : ∃ M : List Dm, M.Perm l ∧ OwnG w' B v M
set_option maxHeartbeats 2000000 in
theorem usort_any {w : World} {B blk cap : Nat} (d : Array Dm) (h : OwnG w B (.slice (some ⟨blk, 0, none⟩) d.size cap) d.toList) (hd : d.size ≤ 12) :
    Calls Try.prog 37 #[.slice (some ⟨blk, 0, none⟩) d.size cap, .func (.func 24) #[] #[]] w (GSorted B (.slice (some ⟨blk, 0, none⟩) d.size cap) d.toList w) := by
  have eg : ∀ args w, (callFunc 24 args).run Try.prog w = .ok (.enter 24 args) w := enters_of Try.func24 (by kernel_rfl) rfl
  have hcon := AnyQ.slices_SortFunc_small_sorted Try.sortF 3 Try.isAgg29 Try.sizeOf29 gcells gcells_len gcells_one cmpT 24 #[] swoT blk 0 cap d w eg (shortLays blk 0 d.size w) (gholds_of h) (gsorted_own h rfl 0 #[]).2.2 hd
    (fun n W hn => (Try.bits_Len n W (by omega) (by omega)).mono fun e w' ⟨h1, h2⟩ => ⟨⟨_, h1⟩, h2⟩)
  change Calls Try.prog 37 _ _ _ at hcon
  refine hcon.mono ?_
  rintro e w' ⟨rfl, d', n, os, hp, _, rfl⟩
  obtain ⟨o, b, _⟩ := gsorted_own h hp.1 n os
  refine ⟨rfl, b, d'.toList, ?_, o⟩
  have := hp.2.2
  have e1 : d.extract 0 d.size = d := by simp
  have e2 : d'.extract 0 d.size = d' := by rw [← hp.1]; simp
  rwa [e1, e2] at this
end Go.Proofs.Ytpmllljlhopgbaa

/-
  The walks over demands sorted by periods, and over what keeps a climb.
-/
namespace Go.Proofs.Ytpmllljlhopgbaa
open Go.RowKit Go.Maps Go.Shelf

set_option maxRecDepth 100000 in
set_option maxHeartbeats 2000000 in
theorem uins_nil (g : Nat) (w : World) : Calls Try.prog 52 #[.slice none 0 0, .int .i64 0, .int .i64 0, .func (.func g) #[] #[]] w fun e w' => e = .returned (.tuple #[]) ∧ w = w' := by
  go_enter Try.func52, Try.ntmps52
  go_wp2
  refine wp_loop_rounds 1 ?_
  rw [rounds_succ]
  go_wp2
  go_end0
  exact ⟨rfl, rfl⟩
set_option maxRecDepth 100000 in
set_option maxHeartbeats 2000000 in
theorem updq_nil (g : Nat) (lim : Int) (w : World) : Calls Try.prog 46 #[.slice none 0 0, .int .i64 0, .int .i64 0, .int .i64 lim, .func (.func g) #[] #[]] w fun e w' => e = .returned (.tuple #[]) ∧ w = w' := by
  have C := Lib.hid (uins_nil g w)
  go_enter Try.func46, Try.ntmps46
  go_wp2
  refine wp_loop_rounds 1 ?_
  rw [rounds_succ]
  go_wp2_with (go_at_call 52; (with_reducible refine (C.out).mono ?_); rintro e w1 ⟨rfl, rfl⟩)
  (try simp only [Exit.inBlock, Exit.then]); refine bodyPost_ret (results_none rfl _ _ _) rfl ?_
  exact ⟨rfl, rfl⟩
set_option maxRecDepth 100000 in
set_option maxHeartbeats 2000000 in
theorem usort_nil (g : Nat) (w : World) : Calls Try.prog 37 #[.slice none 0 0, .func (.func g) #[] #[]] w fun e w' => e = .returned (.tuple #[]) ∧ w = w' := by
  have C := Lib.hid (fun lim => updq_nil g lim w)
  have L := Lib.hid (Try.bits_Len 0 w (by omega) (by omega))
  go_enter Try.func37, Try.ntmps37
  go_wp2_with (first
    | (go_at_call 47; (with_reducible refine (L.out).mono ?_); rintro e w1 ⟨rfl, rfl⟩)
    | (go_at_call 46; (with_reducible refine (C.out _).mono ?_); rintro e w1 ⟨rfl, rfl⟩))
  go_end0
  exact ⟨rfl, rfl⟩
theorem usort_own {w : World} {B : Nat} {a : Option Addr} {n c : Nat} {l : List Dm} (hl : l.length = n) (h : OwnG w B (.slice a n c) l) (hn : n ≤ 12) :
    Calls Try.prog 37 #[.slice a n c, .func (.func 24) #[] #[]] w (GSorted B (.slice a n c) l w) := by
  have h' := h
  rcases h.2 with ⟨e, h0⟩ | ⟨g, cap, cur, e, _⟩
  · cases e
    exact (usort_nil _ w).mono fun e w' ⟨h1, h2⟩ => by
      subst h1 h2
      exact ⟨rfl, Below.refl _ _, l, .refl _, h'⟩
  · cases e
    have := usort_any (w := w) (B := B) (blk := g) (cap := c) l.toArray (by simpa using h) (by simpa using hn)
    simpa using this
set_option maxRecDepth 100000 in
set_option maxHeartbeats 2000000 in
theorem ucollect_any {w : World} {a : Option Addr} {n c : Nat} {l : List Dm} (h : Dems w a n c l) (hn : n ≤ 64) (Bl : Nat) (hb : w.heap[Bl]? = some (.cells #[.slice a n c] 24 (0, 0))) :
    Calls Try.prog 36 #[.func (.func 38) #[] #[.pointer (some ⟨Bl, 0, none⟩)]] w (CollBack w l) := by
  have C := Lib.hid (uappend_any h hn Bl hb)
  clear h hb
  go_enter Try.func36, Try.ntmps36
  go_wp2_with (go_at_call 45; (with_reducible refine (C.out).mono ?_); rintro e w1 ⟨h1, a', c', rfl, h2⟩; have H1 := Lib.hid h1; have H2 := Lib.hid h2; clear h1 h2)
  go_ret
  exact ⟨H1.out, a', c', rfl, H2.out⟩
/-- Sorted, in a row of its own. -/
structure SortedBack (w : World) (n : Nat) (l : List Dm) (e : Ending) (w' : World) : Prop where
  low : Below w.heap.size w w'
  got : ∃ a' c' M, e = .returned (.slice a' n c') ∧ M.Perm l ∧ OwnG w' w.heap.size (.slice a' n c') M
set_option maxRecDepth 100000 in
set_option maxHeartbeats 2000000 in
theorem usorted_any {w : World} {a : Option Addr} {n c : Nat} {l : List Dm} (h : Dems w a n c l) (hn : n ≤ 12) (Bl : Nat) (hb : w.heap[Bl]? = some (.cells #[.slice a n c] 24 (0, 0))) :
    Calls Try.prog 22 #[.func (.func 38) #[] #[.pointer (some ⟨Bl, 0, none⟩)], .func (.func 24) #[] #[]] w (SortedBack w n l) := by
  have C := Lib.hid (ucollect_any h (by omega) Bl hb)
  have HL := Lib.hid h.len
  have S := Lib.hid (fun (v : World) (a' : Option Addr) (c' : Nat) (q : OwnG v w.heap.size (.slice a' n c') l) => usort_own h.len q hn)
  clear h hb
  go_enter Try.func22, Try.ntmps22
  go_wp2_with (first
    | (go_at_call 36; (with_reducible refine (C.out).mono ?_); rintro e w1 ⟨h1, a', c', rfl, h2⟩; rw [HL.out] at h2; rw [HL.out]; have H1 := Lib.hid h1; have H2 := Lib.hid h2; clear h1 h2)
    | (go_at_call 37; (with_reducible refine (S.out _ _ _ H2.out).mono ?_); rintro e w2 ⟨rfl, h3, M, h4, h5⟩; have H3 := Lib.hid h3; have H4 := Lib.hid h4; have H5 := Lib.hid h5; clear h3 h4 h5))
  go_ret
  exact ⟨H1.out.trans H3.out, a', c', M, rfl, H4.out, H5.out⟩

theorem dems_own {w : World} {B : Nat} {a : Option Addr} {n c : Nat} {M : List Dm} (h : OwnG w B (.slice a n c) M) (hok : ∀ x ∈ M, x.ok) : Dems w a n c M := by
  obtain ⟨a', c', e, hv, hle, hc⟩ := h.slice
  obtain ⟨rfl, hn, rfl⟩ := Value.slice.inj e
  refine ⟨hn.symm, hv, by omega, hc, fun x hx => ?_⟩
  have h := hok x hx
  have := h.c0; have := h.c1; have := h.d1; have := h.d2; have := h.t2
  unfold I64; omega

/-- What a climb keeps. -/
structure ClimbC (W : World) (b1 b2 b3 : Nat) (held : Int) (S : List Dm) (a : Option Addr) (n c : Nat) (g c2 : Nat) : Prop where
  h1 : W.heap[b1]? = some (.cells #[.int .u64 held] 43 (0, 0))
  h2 : W.heap[b2]? = some (.cells #[.slice (some ⟨g, 0, none⟩) (n + 1) c2] 57 (0, 0))
  h3 : W.heap[b3]? = some (.cells #[.slice a n c] 24 (0, 0))
  dems : Dems W a n c S
  left : UInts W (some ⟨g, 0, none⟩) (leftL S n)
theorem ClimbC.below {W W' : World} {b1 b2 b3 : Nat} {held : Int} {S : List Dm} {a : Option Addr} {n c : Nat} {g c2 : Nat} (h : ClimbC W b1 b2 b3 held S a n c g c2) (hb : Below W.heap.size W W') : ClimbC W' b1 b2 b3 held S a n c g c2 :=
  ⟨kept_obj hb h.h1, kept_obj hb h.h2, kept_obj hb h.h3, h.dems.below hb, h.left.below hb⟩
structure ClimberBack (w : World) (n : Nat) (l : List Dm) (held : Int) (e : Ending) (w' : World) : Prop where
  low : Below w.heap.size w w'
  got : (∃ S b1 b2 b3 a c g c2, S.Perm l ∧ flN S S.length ≤ 1152921504606846976 ∧ e = .returned (.tuple #[.func (.func 27) #[] #[.pointer (some ⟨b1, 0, none⟩), .pointer (some ⟨b2, 0, none⟩), .pointer (some ⟨b3, 0, none⟩)], .bool true]) ∧ ClimbC w' b1 b2 b3 held S a n c g c2) ∨
    ((∀ y, 1 ≤ y → ¬ DoneAt l held y) ∧ e = .returned (.tuple #[.nilFunc, .bool false]))
set_option maxRecDepth 100000 in
set_option maxHeartbeats 8000000 in
theorem uclimber_any {w : World} {a : Option Addr} {n c : Nat} {l : List Dm} (h : Dems w a n c l) (hok : ∀ x ∈ l, x.ok) (hn : n ≤ 12) (held : Int) (h0 : 0 ≤ held) :
    Calls Try.prog 15 #[.slice a n c, .int .u64 held] w (ClimberBack w n l held) := by
  have HD := Lib.hid h
  have HOK := Lib.hid hok
  have hmf : ∀ (fn : Fn) (first cap : Array Value) (w : World), (Instr.makeFunc fn first cap).run Try.prog w = .ok (.func fn first cap) w := fun _ _ _ _ => rfl
  have VC := Lib.hid (fun v => values_any a n c v)
  clear h hok
  go_enter Try.func15, Try.ntmps15
  go_upto_region 1 with fail
  refine gen_world (fun v => Below w.heap.size w v ∧ v.heap[w.heap.size]? = some (.cells #[.slice a n c] 24 (0, 0)) ∧ v.heap[w.heap.size + 1]? = some (.cells #[.int .u64 held] 43 (0, 0))) ⟨(by repeat (first | exact Below.refl _ _ | (with_reducible assumption) | refine bw_alloc ?_ _ | refine bw_drew ?_)), two_boxes w rfl _ _⟩ ?_
  intro V ⟨hb, hx1, hx2⟩
  have HB := Lib.hid hb
  have HX1 := Lib.hid hx1
  have HX2 := Lib.hid hx2
  have k0 : V.cell? ⟨w.heap.size, 0, none⟩ = some (.slice a n c) := by rw [blk_cell hx1]; rfl
  have HGV : Hid (w.heap.size + 1 < V.heap.size) := lt_of_block hx2
  have SC := Lib.hid (usorted_any (w := V.alloc (.cells #[.slice a n c] 24)) (HD.out.below (by have := hb; exact bw_alloc this _)) hn V.heap.size (heap_alloc_new V _))
  clear hb hx1 hx2
  go_upto_region 2 with (first
    | (go_at_call 23; (with_reducible refine (VC.out _).mono ?_); rintro e v1 ⟨rfl, rfl⟩)
    | (go_at_call 22; (with_reducible refine (SC.out).mono ?_); rintro e v2 ⟨h1, a', c', S, rfl, h2, h3⟩; have hy1 : v2.heap[w.heap.size]? = some (.cells #[.slice a n c] 24 (0, 0)) := kept_obj h1 (kept_obj ((by repeat (first | exact Below.refl _ _ | (with_reducible assumption) | refine bw_alloc ?_ _ | refine bw_drew ?_)) : Below V.heap.size V _) HX1.out); have hc1 : v2.cell? ⟨w.heap.size, 0, none⟩ = some (.slice a n c) := (by rw [blk_cell hy1]; rfl); have hf1 : v2.frozen? ⟨w.heap.size, 0, none⟩ = false := blk_free hy1 0; have H1 := Lib.hid h1; have H2 := Lib.hid h2; have H3 := Lib.hid h3; have HY1 := Lib.hid hy1; clear h1 h2 h3 hy1))
  clear SC k0 VC
  have hS : ∀ x ∈ S, x.ok := fun x hx => HOK.out x (H2.out.mem_iff.1 hx)
  have hLS : S.length = n := by rw [H2.out.length_eq]; exact HD.out.len
  have hlow2 : Below w.heap.size w v2 := below_up (below_up HB.out ((by repeat (first | exact Below.refl _ _ | (with_reducible assumption) | refine bw_alloc ?_ _ | refine bw_drew ?_)) : Below V.heap.size V (V.alloc (.cells #[.slice a n c] 24)))) H1.out
  have hsz : V.heap.size + 1 ≤ v2.heap.size := by have := H1.out.size; simpa using this
  refine gen_world (fun v => Below w.heap.size w v ∧ v.heap[w.heap.size]? = some (.cells #[.slice a' n c'] 24 (0, 0)) ∧ v.heap[w.heap.size + 1]? = some (.cells #[.int .u64 held] 43 (0, 0)) ∧ Dems v a' n c' S) ⟨hlow2.setCell (p := ⟨w.heap.size, 0, none⟩) (Nat.le_refl _) _, (blk_set (o := 0) HY1.out _).trans rfl, (blk_far (by simp) _).trans (kept_obj H1.out (kept_obj ((by repeat (first | exact Below.refl _ _ | (with_reducible assumption) | refine bw_alloc ?_ _ | refine bw_drew ?_)) : Below V.heap.size V _) HX2.out)), ?_⟩ ?_
  · refine dems_own (B := V.heap.size + 1) ?_ hS
    have ho : OwnG v2 (V.heap.size + 1) (.slice a' n c') S := by have := H3.out; rwa [World.size_alloc] at this
    refine World.ownsRow.kept ho (grownBy_setCell' v2 w.heap.size _) ?_
    rcases ho.2 with ⟨e, _⟩ | ⟨g, cap, cur, e, hge, _⟩
    · exact .inl (by rw [e]; rfl)
    · refine .inr fun e' => ?_
      rw [e] at e'
      have e2 : g = w.heap.size := by simpa [Value.ownBlock] using e'
      have := HGV.out
      omega
  intro V3 ⟨hb3, hz1, hz2, hd3⟩
  have HB3 := Lib.hid hb3
  have HZ1 := Lib.hid hz1
  have HZ2 := Lib.hid hz2
  have HD3 := Lib.hid hd3
  have k1 : V3.cell? ⟨w.heap.size, 0, none⟩ = some (.slice a' n c') := by rw [blk_cell hz1]; rfl
  have SH := Lib.hid (ushares_any hd3 hS (by omega))
  have HLS := Lib.hid hLS
  have HOS := Lib.hid hS
  clear hb3 hz1 hz2 hd3 hLS hS hsz hlow2 hc1 hf1 H1 H3 HY1
  go_wp2_with (go_at_call 26; (with_reducible refine (SH.out).mono ?_); rintro e v4 ⟨h4, hgot⟩; rw [HLS.out] at hgot; have H4 := Lib.hid h4; clear h4; rcases hgot with ⟨hW, g, c2, rfl, ho⟩ | ⟨hW, rfl⟩)
  · go_ret2
    have hb5 : Below V3.heap.size V3 (v4.alloc (.cells #[.slice (some ⟨g, 0, none⟩) (n + 1) c2] 57)) := bw_alloc H4.out _
    refine ⟨below_up HB3.out hb5, .inl ⟨S, w.heap.size + 1, v4.heap.size, w.heap.size, a', c', g, c2, H2.out, by rw [HLS.out]; exact hW, rfl, kept_obj hb5 HZ2.out, heap_alloc_new v4 _, kept_obj hb5 HZ1.out, HD3.out.below hb5, ?_⟩⟩
    obtain ⟨a9, c9, e9, hu, _⟩ := ho.slice
    obtain ⟨rfl, _, rfl⟩ := Value.slice.inj e9
    exact hu.below ((by repeat (first | exact Below.refl _ _ | (with_reducible assumption) | refine bw_alloc ?_ _ | refine bw_drew ?_)) : Below v4.heap.size v4 _)
  · go_ret2
    exact ⟨below_up HB3.out (bw_alloc H4.out _), .inr ⟨fun y hy hd => fl_over HOS.out h0 hy (by rw [HLS.out]; exact hW) ((done_perm H2.out).2 hd), rfl⟩⟩
end Go.Proofs.Ytpmllljlhopgbaa

/-
  The walk over a climb.
-/
namespace Go.Proofs.Ytpmllljlhopgbaa
open Go.RowKit Go.Maps Go.Shelf
theorem max_is (a b : Int) (ts : Array TypeId) (t : TypeId) (w : World) : (Builtin.max_ ts t #[.int .i64 a, .int .i64 b]).run Try.prog w = .ok (.int .i64 (max a b)) w := by
  rw [run_max_int2]
  split <;> (congr 2; omega)
attribute [-go_sem] run_min_int2 run_max_int2

theorem work_ct {S : List Dm} (hok : ∀ x ∈ S, x.ok) (hct : ∀ x ∈ S, x.c ≤ x.t) {X : Int} (h0 : 0 ≤ X) : ∀ k, 0 ≤ workN S X k ∧ workN S X k ≤ (k : Int) * (X + 1073741824)
  | 0 => ⟨Int.le_refl _, by show (0 : Int) ≤ _; omega⟩
  | k + 1 => by
    have ih := work_ct hok hct h0 k
    cases hx : S[k]? with
    | none => rw [work_end hx, Int.natCast_add, Int.add_mul]; omega
    | some x =>
      have hg := hok x (List.mem_of_getElem? hx)
      have hc := hct x (List.mem_of_getElem? hx)
      have h2 := hg.d2; have h4 := hg.d1; have h5 := hg.c0; have h6 := hg.t2
      have q0 := ceil_nonneg (x := x) (by omega) h0
      have m0 := Int.mul_nonneg h5 q0
      have m1 := Int.mul_le_mul_of_nonneg_right hc q0
      have m2 : x.t * ceilD x X ≤ X + x.t - 1 := by
        have := Int.ediv_mul_le (X + x.t - 1) (show x.t ≠ 0 by omega)
        rw [Int.mul_comm]; exact this
      rw [work_next hx, Int.natCast_add, Int.add_mul]; omega
theorem fl_each {S : List Dm} (hok : ∀ x ∈ S, x.ok) (hW : flN S S.length ≤ 1152921504606846976) : ∀ x ∈ S, x.c ≤ x.t := by
  intro x hx
  obtain ⟨k, hk, e⟩ := List.getElem_of_mem hx
  have hz : S[k]? = some x := by rw [List.getElem?_eq_getElem hk, e]
  have h1 := fl_next hz
  have h2 := fl_mono hok (j := k + 1) (k := S.length) (by omega)
  have h3 := fl_nonneg hok k
  exact fl_ct (hok x hx) (by omega)

set_option maxRecDepth 100000 in
set_option maxHeartbeats 8000000 in
theorem uclimb_any {w : World} {b1 b2 b3 : Nat} {held : Int} {S : List Dm} {a : Option Addr} {n c g c2 : Nat} (hC : ClimbC w b1 b2 b3 held S a n c g c2) (hok : ∀ x ∈ S, x.ok) (hn : n ≤ 12) (hW : flN S S.length ≤ 1152921504606846976) (h0 : 0 ≤ held) (h1 : held ≤ 1099511627776)
    (x : Int) (hx0 : 1 ≤ x) (hx1 : x ≤ 2147483648) : Calls Try.prog 27 #[.int .i64 x, .pointer (some ⟨b1, 0, none⟩), .pointer (some ⟨b2, 0, none⟩), .pointer (some ⟨b3, 0, none⟩)] w fun e w' => (∃ far, e = .returned (.int .i64 far) ∧ Climbed S held x far) ∧ Below w.heap.size w w' := by
  have HC := Lib.hid hC
  have HOK := Lib.hid hok
  have HCT := Lib.hid (fl_each hok hW)
  have HL := Lib.hid hC.dems.len
  have HWN : Hid (flN S n ≤ 1152921504606846976) := by show _ ≤ _; rw [← HL.out]; exact hW
  have f0 := fl_nonneg hok n
  have HST : Hid (ClimbAt S held x n held (max x (rchI held (1152921504606846976 - flN S n)))) := by
    have := ClimbAt.start hok h0 hx0 hx1 hW
    rwa [HL.out] at this
  have HRS : Hid (rchI held (1152921504606846976 - flN S n) ≤ max x (rchI held (1152921504606846976 - flN S n))) := by show _ ≤ _; omega
  have HLT : Hid (∀ j, j ≤ n → ∀ v, Below w.heap.size w v → v.cell? ⟨g, j, none⟩ = some (.int .u64 (1152921504606846976 - flN S j))) := fun j hj v hb => by
    obtain ⟨g8, o8, e8, hc⟩ := (hC.left.below hb).at_ (leftL_at S hj)
    obtain ⟨rfl, rfl⟩ : g = g8 ∧ 0 = o8 := by simpa using e8
    rw [Nat.zero_add] at hc
    exact hc
  have RC := Lib.hid (fun v => ureach_any held (1152921504606846976 - flN S n) h0 (by omega) (by have := HWN.out; omega) (by omega) v)
  have l0 := HLT.out n (Nat.le_refl _)
  obtain ⟨lf, hlf⟩ : ∃ lf, 1152921504606846976 - flN S n = lf := ⟨_, rfl⟩
  rw [hlf] at RC HST HRS l0
  obtain ⟨r0, hr0⟩ : ∃ r0, rchI held lf = r0 := ⟨_, rfl⟩
  rw [hr0] at RC HST HRS
  have mx := max_is x r0
  obtain ⟨m0, hm0⟩ : ∃ m0, max x r0 = m0 := ⟨_, rfl⟩
  rw [hm0] at mx HST HRS
  have HRS2 : Hid (rchI held (1152921504606846976 - flN S n) ≤ m0) := by show _ ≤ _; rw [hlf, hr0]; exact HRS.out
  have hk9 : ((n : Int) < ((n + 1 : Nat) : Int)) := by omega
  have hkz : (0 : Int) ≤ (n : Int) := by omega
  have hk8 : (n : Int) < (n : Int) + 1 := by omega
  have MK : Hid (∀ v, Below w.heap.size w v → (v.cell? ⟨b1, 0, none⟩ = some (.int .u64 held) ∧ v.cell? ⟨b2, 0, none⟩ = some (.slice (some ⟨g, 0, none⟩) (n + 1) c2) ∧ v.cell? ⟨b3, 0, none⟩ = some (.slice a n c) ∧ v.cell? ⟨g, n, none⟩ = some (.int .u64 lf))) := fun v hb =>
    ⟨by rw [blk_cell (kept_obj hb hC.h1)]; rfl, by rw [blk_cell (kept_obj hb hC.h2)]; rfl, by rw [blk_cell (kept_obj hb hC.h3)]; rfl, l0 v hb⟩
  clear l0 hlf hr0 hm0 hC hok hW f0 HRS
  have bb := Below.refl w.heap.size w
  obtain ⟨t1, t2, t3, t4⟩ := MK.out _ bb
  have ew : IntKind.i64.wrap ((n : Int) - 1) = (n : Int) - 1 := IntWalk.i64_in _ (by omega)
  go_enter Try.func27, Try.ntmps27
  go_upto_region 1 with fail
  go_cut [6, 7] (fun s f wx => s = .int .u64 held ∧ f = .int .i64 m0 ∧ Hid (Below w.heap.size w wx))
  case first =>
    go_region_held3 (fun v => v.cell? ⟨b1, 0, none⟩ = some (.int .u64 held) ∧ v.cell? ⟨b2, 0, none⟩ = some (.slice (some ⟨g, 0, none⟩) (n + 1) c2) ∧ v.cell? ⟨b3, 0, none⟩ = some (.slice a n c) ∧ v.cell? ⟨g, n, none⟩ = some (.int .u64 lf)) (exact MK.out _ (by repeat (first | exact Below.refl _ _ | (with_reducible assumption) | refine bw_alloc ?_ _ | refine bw_drew ?_))) (first
      | (go_at_call 28; (with_reducible refine (Calls.upV (V := w) (by repeat (first | exact Below.refl _ _ | (with_reducible assumption) | refine bw_alloc ?_ _ | refine bw_drew ?_)) (RC.out _)).mono ?_); rintro e wx ⟨rfl, b0, bx⟩; clear b0))
    all_goals
      go_wp2_with fail
      go_meet
      exact ⟨rfl, rfl, by assumption⟩
  case rest =>
    obtain ⟨rfl, rfl, HB1⟩ := hcut
    have t5 := (MK.out _ HB1.out).2.2.1
    clear MK bb t1 t2 t3 t4 RC mx hk9 hk8
    go_upto_block 0 with fail
    go_cut [6, 7] (fun s f wx => ∃ sum far : Int, s = .int .u64 sum ∧ f = .int .i64 far ∧ Hid (ClimbAt S held x 0 sum far) ∧ Hid (rchI sum 1152921504606846976 ≤ far) ∧ Hid (Below w.heap.size w wx))
    case first =>
      go_wp2
      go_loopw [6, 7, 8] (fun s f i wr => ∃ (k : Nat) (sum far : Int), k ≤ n ∧ i = .int .i64 ((k : Int) - 1) ∧ s = .int .u64 sum ∧ f = .int .i64 far ∧ Hid (ClimbAt S held x k sum far) ∧ Hid (rchI sum (1152921504606846976 - flN S k) ≤ far) ∧ Hid (Below w.heap.size w wr)) (fun _ _ i _ => (intOf i + 1).toNat)
      case atStart => exact ⟨n, held, m0, Nat.le_refl _, by go_num, rfl, rfl, HST, HRS2, HB1⟩
      case round =>
        obtain ⟨k, sum, far, hk, rfl, rfl, rfl, HAT, HR, HB⟩ := hrel
        clear HST HRS2 t5
        cases k with
        | zero =>
          have hq : ¬ (0 : Int) ≤ ((0 : Nat) : Int) - 1 := by omega
          have HR0 : Hid (rchI sum 1152921504606846976 ≤ far) := HR.out
          go_wp2
          go_meet
          exact ⟨sum, far, rfl, rfl, HAT, HR0, HB⟩
        | succ k =>
          have ek : ((k + 1 : Nat) : Int) - 1 = (k : Int) := by omega
          rw [ek]
          obtain ⟨z, hz⟩ := nth_of HL.out (show k < n by omega)
          have hcr := HC.out.below HB.out
          obtain ⟨ga, oa, rfl, ⟨c0, c1, c2'⟩⟩ := hcr.dems.view.at_ hz
          have hk0 : (0 : Int) ≤ (k : Int) := by omega
          have hk1 : (k : Int) < (n : Int) := by omega
          have hk2 : (k : Int) < (n : Int) + 1 := by omega
          have hkm : IntKind.i64.wrap ((k : Int) - 1) = (k : Int) - 1 := IntWalk.i64_in _ (by omega)
          have hq : (0 : Int) ≤ (k : Int) := by omega
          have hzo := HOK.out z (List.mem_of_getElem? hz)
          have hzc := HCT.out z (List.mem_of_getElem? hz)
          have z0 := hzo.c0; have z1 := hzo.d1; have z2 := hzo.d2; have z3 := hzo.t2
          have s1 := HAT.out.ge; have s2 := HAT.out.le; have s3 := HAT.out.s0; have s4 := HAT.out.up
          have eN := work_next (X := far) hz
          have wk := work_ct HOK.out HCT.out (X := far) (by omega) k
          have wk1 := work_ct HOK.out HCT.out (X := far) (by omega) (k + 1)
          have wn := work_ct HOK.out HCT.out (X := far) (by omega) S.length
          have hSn := HL.out
          have hwn : (S.length : Int) * (far + 1073741824) ≤ 12 * (far + 1073741824) := Int.mul_le_mul_of_nonneg_right (by omega) (by omega)
          have hw1 : ((k + 1 : Nat) : Int) * (far + 1073741824) ≤ 12 * (far + 1073741824) := Int.mul_le_mul_of_nonneg_right (by omega) (by omega)
          have q0 := ceil_nonneg (x := z) (X := far) (by omega) (by omega)
          have p0 := Int.mul_nonneg z0 q0
          have hmo := fl_mono HOK.out (show k ≤ n by omega)
          have hfn := fl_nonneg HOK.out k
          have hWk : flN S k ≤ 1152921504606846976 := by have := HWN.out; omega
          have HNX := Lib.hid (HAT.out.step HOK.out hx0 hz hWk)
          have JC := Lib.hid (fun v => ujobs_any z hzo far (by omega) s2 v)
          obtain ⟨p, hp⟩ : ∃ p, z.c * ceilD z far = p := ⟨_, rfl⟩
          obtain ⟨j, hj⟩ : ∃ j, ceilD z far = j := ⟨_, rfl⟩
          rw [hp] at eN p0 HNX
          rw [hj] at JC hp
          have RC := Lib.hid (fun v => ureach_any (sum + p) (1152921504606846976 - flN S k) (by omega) (by omega) (by omega) (by omega) v)
          have l0 := HLT.out k (by omega)
          have HLQ : Hid (∀ v, Below w.heap.size w v → v.cell? ⟨g, k, none⟩ = some (.int .u64 (1152921504606846976 - flN S k))) := l0
          obtain ⟨lf2, hlf⟩ : ∃ lf2, 1152921504606846976 - flN S k = lf2 := ⟨_, rfl⟩
          rw [hlf] at RC HNX HLQ
          obtain ⟨r, hr⟩ : ∃ r, rchI (sum + p) lf2 = r := ⟨_, rfl⟩
          rw [hr] at RC HNX
          have mx := max_is far r
          obtain ⟨m2, hm2⟩ : ∃ m2, max far r = m2 := ⟨_, rfl⟩
          rw [hm2] at mx HNX
          have HR2 : Hid (rchI (sum + p) (1152921504606846976 - flN S k) ≤ m2) := by show _ ≤ _; rw [hlf, hr]; omega
          have e1 : IntKind.u64.wrap z.c = z.c := IntWalk.u64_in _ (by omega)
          have e2 : IntKind.u64.wrap (z.c * j) = p := by rw [hp]; exact IntWalk.u64_in _ (by omega)
          have e3 : IntKind.u64.wrap (sum + p) = sum + p := IntWalk.u64_in _ (by omega)
          have MK : Hid (∀ v, Below wr.heap.size wr v → (v.cell? ⟨b2, 0, none⟩ = some (.slice (some ⟨g, 0, none⟩) (n + 1) c2) ∧ v.cell? ⟨b3, 0, none⟩ = some (.slice (some ⟨ga, oa, none⟩) n c) ∧ v.cell? ⟨ga, oa + k * 3, none⟩ = some (.int .i64 z.c) ∧ v.cell? ⟨ga, oa + k * 3 + 1, none⟩ = some (.int .i64 z.d) ∧ v.cell? ⟨ga, oa + k * 3 + 2, none⟩ = some (.int .i64 z.t) ∧ v.cell? ⟨g, k, none⟩ = some (.int .u64 lf2))) := fun v hb =>
            ⟨by rw [blk_cell (kept_obj hb hcr.h2)]; rfl, by rw [blk_cell (kept_obj hb hcr.h3)]; rfl, kept_cell hb c0, kept_cell hb c1, kept_cell hb c2', HLQ.out v (below_up HB.out hb)⟩
          clear hcr hz hzo hzc z0 z1 z2 z3 s1 s2 s3 s4 eN wk wk1 wn hSn hwn hw1 q0 p0 hmo hfn hWk hp hj l0 HLQ hlf hr hm2 c0 c1 c2' HAT HR
          have bb := Below.refl wr.heap.size wr
          obtain ⟨t1, t2, t3, t4, t5, t6⟩ := MK.out _ bb
          go_upto_region 5 with fail
          go_cut [6] (fun s wx => s = .int .u64 (sum + p) ∧ Hid (Below wr.heap.size wr wx))
          case first =>
            go_region_held3 (fun v => v.cell? ⟨b2, 0, none⟩ = some (.slice (some ⟨g, 0, none⟩) (n + 1) c2) ∧ v.cell? ⟨b3, 0, none⟩ = some (.slice (some ⟨ga, oa, none⟩) n c) ∧ v.cell? ⟨ga, oa + k * 3, none⟩ = some (.int .i64 z.c) ∧ v.cell? ⟨ga, oa + k * 3 + 1, none⟩ = some (.int .i64 z.d) ∧ v.cell? ⟨ga, oa + k * 3 + 2, none⟩ = some (.int .i64 z.t) ∧ v.cell? ⟨g, k, none⟩ = some (.int .u64 lf2)) (exact MK.out _ (by repeat (first | exact Below.refl _ _ | (with_reducible assumption) | refine bw_alloc ?_ _ | refine bw_drew ?_))) (first
              | (go_at_call 18; (with_reducible refine (Calls.upV (V := wr) (by repeat (first | exact Below.refl _ _ | (with_reducible assumption) | refine bw_alloc ?_ _ | refine bw_drew ?_)) (JC.out _)).mono ?_); rintro e wx ⟨rfl, b0, bx⟩; clear b0))
            all_goals
              go_wp2_with fail
              go_meet
              exact ⟨rfl, by assumption⟩
          case rest =>
            obtain ⟨rfl, HB5⟩ := hcut
            obtain ⟨t7, t8, _, _, _, t9⟩ := MK.out _ HB5.out
            clear MK bb t1 t2 t3 t4 t5 t6 JC
            go_wp2_with (go_at_call 28; (with_reducible refine (RC.out _).mono ?_); rintro e wy ⟨rfl, by6⟩; have HB6 := Lib.hid by6; clear by6)
            go_roundw
            case rel => exact ⟨k, sum + p, m2, by omega, rfl, rfl, rfl, HNX, HR2, Lib.hid (below_up (below_up HB.out HB5.out) HB6.out)⟩
            case measure => simp [intOf]
    case rest =>
      obtain ⟨sum, far, rfl, rfl, HAT, HR, HB⟩ := hcut
      go_wp2
      go_ret
      exact ⟨⟨far, rfl, HAT.out.out hx1 HR.out⟩, HB.out⟩
end Go.Proofs.Ytpmllljlhopgbaa

/-
  The walks over the least busy time.
-/
namespace Go.Proofs.Ytpmllljlhopgbaa
open Go.RowKit Go.Maps Go.Shelf

set_option maxRecDepth 100000 in
set_option maxHeartbeats 8000000 in
theorem ubusy_gen {w : World} {a : Option Addr} {n c : Nat} {l : List Dm} (h : Dems w a n c l) (hok : ∀ x ∈ l, x.ok) (hn : n ≤ 12) (held most : Int) (h0 : 0 ≤ held) (h1 : held ≤ 1099511627776) (m0 : 1 ≤ most) (m1 : most ≤ 2147483648) :
    Calls Try.prog 9 #[.slice a n c, .int .i64 held, .int .i64 most] w fun e w' => e = .returned (.tuple #[.int .i64 ((bsS l held most).getD 0), .bool (bsS l held most).isSome]) ∧ Below w.heap.size w w' := by
  have hokL : okL l = true := okL_iff.2 ⟨hok, by have := h.len; omega⟩
  have RC := Lib.hid (fun v (hb : Below w.heap.size w v) => pchk_any l n c h.len h.n9 a v (h.view.below hb))
  rw [hokL] at RC
  have TC := Lib.hid (fun v => utime_any most m0 m1 v)
  have CC := Lib.hid (fun v (hb : Below w.heap.size w v) => uclimber_any (h.below hb) hok hn held h0)
  have HOK := Lib.hid hok
  have q1 : ¬ held < 0 := by omega
  have q2 : ¬ 1099511627776 < held := by omega
  have e1 : IntKind.u64.wrap held = held := IntWalk.u64_in _ (by omega)
  clear h hok hokL
  go_enter Try.func9, Try.ntmps9
  go_wp2
  go_step3
  go_upto_region 3 with (first
    | (go_at_call 13; (with_reducible refine (RC.out _ (by repeat (first | exact Below.refl _ _ | (with_reducible assumption) | refine bw_alloc ?_ _ | refine bw_drew ?_))).mono ?_); rintro e w1 ⟨rfl, bx1⟩; have HB1 := Lib.hid bx1; clear bx1)
    | (go_at_call 14; (with_reducible refine (TC.out _).mono ?_); rintro e w2 ⟨rfl, rfl⟩))
  clear RC TC
  go_wp2_with (go_at_call 15; (with_reducible refine (CC.out _ HB1.out).mono ?_); rintro e w3 ⟨h4, hgot⟩; have HB3 := Lib.hid (below_up HB1.out h4); clear h4; rcases hgot with ⟨S, b1, b2, b3, a1, c1, g, c2, hp, hW, rfl, hC⟩ | ⟨hno, rfl⟩)
  rotate_left 1
  · rw [Exit.noGoto_ret]
    go_ret2
    rw [bs_none (fun y hy _ => hno y hy)]
    exact ⟨rfl, HB3.out⟩
  have HP := Lib.hid hp
  have HBS := Lib.hid (fun (x : Int) (q0 : 1 ≤ x) (q1 : x ≤ 2147483648) v (hb : Below w3.heap.size w3 v) => uclimb_any (hC.below hb) (fun z hz => HOK.out z (hp.mem_iff.1 hz)) hn hW h0 h1 x q0 q1)
  clear hp hW hC CC e1
  go_step3
  go_wp2
  go_loopw [10, 11] (fun u f wr => ∃ x : Int, u = .int .i64 x ∧ f = .bool false ∧ 1 ≤ x ∧ x ≤ 2147483649 ∧ Hid (∀ y, 1 ≤ y → y < x → ¬ DoneAt l held y) ∧ Hid (Below w3.heap.size w3 wr)) (fun u _ _ => (most + 1 - intOf u).toNat)
  case atStart => exact ⟨1, rfl, rfl, by omega, by omega, Lib.hid (fun y h1 h2 => by omega), Below.refl _ _⟩
  case round =>
    obtain ⟨x, rfl, rfl, hx0, hx1, HN, HB⟩ := hrel
    by_cases hle : x ≤ most
    · have CL := Lib.hid (HBS.out x hx0 (by omega) _ HB.out)
      go_wp2_with (go_at_call 27; (with_reducible refine (CL.out).mono ?_); rintro e w5 ⟨⟨far, rfl, hcl⟩, hb5⟩; have HCL := Lib.hid (hcl.perm HP.out); have HB5 := Lib.hid hb5; clear hcl hb5)
      · have hfx : far = x := by simpa using (by assumption : (far == x) = true)
        have HBU : Hid (BusyAt l held most x) := ⟨hx0, hle, HCL.out.done hfx, HN.out⟩
        rw [Exit.noGoto_ret]
        go_ret2
        rw [bs_some HBU.out]
        exact ⟨rfl, below_up HB3.out (below_up HB.out HB5.out)⟩
      · have hfx : ¬ far = x := by simpa using (by assumption : (far == x) = false)
        have h1 := HCL.out.ge; have h2 := HCL.out.le
        refine ⟨⟨far, rfl, rfl, by omega, h2, Lib.hid (fun y y0 y1 hd => ?_), Lib.hid (below_up HB.out HB5.out)⟩, by show (most + 1 - far).toNat < (most + 1 - x).toNat; omega⟩
        by_cases q : y < x
        · exact HN.out y y0 q hd
        · have := HCL.out.pass y (by omega) (by omega) hd
          omega
    · have hgt : ¬ x ≤ most := hle
      have HNO : Hid (bsS l held most = none) := bs_none (fun y y0 y1 => HN.out y y0 (by omega))
      go_wp2
      go_ret2
      rw [HNO.out]
      exact ⟨rfl, below_up HB3.out HB.out⟩

set_option maxRecDepth 100000 in
set_option maxHeartbeats 2000000 in
theorem ufits_gen {w : World} {a : Option Addr} {n c : Nat} {l : List Dm} (h : Dems w a n c l) (hok : ∀ x ∈ l, x.ok) (hn : n ≤ 12) (held most : Int) (h0 : 0 ≤ held) (h1 : held ≤ 1099511627776) (m0 : 1 ≤ most) (m1 : most ≤ 2147483648) :
    Calls Try.prog 11 #[.slice a n c, .int .i64 held, .int .i64 most] w fun e w' => e = .returned (.bool (bsS l held most).isSome) ∧ Below w.heap.size w w' := by
  have C := Lib.hid (ubusy_gen h hok hn held most h0 h1 m0 m1)
  generalize bsS l held most = r at C ⊢
  clear h hok
  go_enter Try.func11, Try.ntmps11
  go_wp2_with (go_at_call 9; (with_reducible refine (C.out).mono ?_); rintro e w5 ⟨rfl, hb5⟩)
  go_ret
  exact ⟨rfl, hb5⟩
end Go.Proofs.Ytpmllljlhopgbaa
