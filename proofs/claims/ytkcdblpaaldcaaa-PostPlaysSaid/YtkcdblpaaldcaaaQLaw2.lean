/-
  The walk over the statement that requests are taken in the order in which they were put.
-/
import Derived.Test.YtkcdblpaaldcaaaQSame
namespace Go.Proofs.Ytkcdblpaaldcaaa
open Go.RowKit Go.Maps Go.Conc

/-- A number led into the room from 0 to below M. -/
theorem led (n : Int) (M : Int) (h1 : 0 < M) (h2 : M ≤ 1000) : ∃ (t : Int) (k : Nat), n.tmod M = t ∧ -M < t ∧ t < M ∧ (t + M) % M = (k : Int) ∧ (k : Int) < M := by
  have a := Int.tmod_lt_of_pos n h1
  have b := Int.lt_tmod_of_pos n h1
  have c := Int.emod_nonneg (n.tmod M + M) (show M ≠ 0 by omega)
  have d := Int.emod_lt_of_pos (n.tmod M + M) h1
  exact ⟨n.tmod M, ((n.tmod M + M) % M).toNat, rfl, b, a, by omega, by omega⟩

theorem nth_of {l : List Req} {i m : Nat} (h : l.length = m) (hi : i < m) : ∃ x y : Int, l[i]? = some (x, y) := by
  exact ⟨(l[i]'(by rw [h]; exact hi)).1, (l[i]'(by rw [h]; exact hi)).2, by simp [h, hi]⟩
theorem take_min {l : List Req} {i K : Nat} {x : Req} (hx : l[i]? = some x) (hi : i < K) : l.take (min i K) ++ [x] = l.take (min (i + 1) K) := by
  rw [Nat.min_eq_left (by omega), Nat.min_eq_left (by omega), take_next hx]
theorem order_yes {W w : World} {b c K i : Nat} {l : List Req} {x y : Int} (h : Mine W w b c K (l.take (min i K)) false) (hx : l[i]? = some (x, y)) (hi : i < K) :
    Calls Try.prog 19 #[.pointer (some ⟨b, 0, none⟩), .agg #[.int .i64 x, .int .i64 y]] w fun r w' => r = .returned (.bool true) ∧ Mine W w' b c K (l.take (min (i + 1) K)) false := by
  have hl : (l.take (min i K)).length < K := by rw [List.length_take]; omega
  refine (put_some x y h.box).mono fun e w' ⟨h1, h2⟩ => ⟨?_, ?_⟩
  · rw [h1, show putB K (l.take (min i K)) false = true from decide_eq_true ⟨rfl, hl⟩]
  · have := h.step h2
    unfold putL at this
    rw [if_pos ⟨rfl, hl⟩, take_min hx hi] at this
    exact this
theorem order_no {W w : World} {b c K i : Nat} {l : List Req} {x y : Int} (h : Mine W w b c K (l.take (min i K)) false) (hl : i ≤ l.length) (hi : ¬ i < K) :
    Calls Try.prog 19 #[.pointer (some ⟨b, 0, none⟩), .agg #[.int .i64 x, .int .i64 y]] w fun r w' => r = .returned (.bool false) ∧ Mine W w' b c K (l.take (min (i + 1) K)) false := by
  have hl : ¬ (l.take (min i K)).length < K := by rw [List.length_take]; omega
  refine (put_some x y h.box).mono fun e w' ⟨h1, h2⟩ => ⟨?_, ?_⟩
  · rw [h1, show putB K (l.take (min i K)) false = false from decide_eq_false (fun z => hl z.2)]
  · have := h.step h2
    unfold putL at this
    rw [if_neg (fun z => hl z.2), show min i K = min (i + 1) K by omega] at this
    exact this
theorem mine_len {W w : World} {b c K j : Nat} {q : List Req} {sh : Bool} (h : Mine W w b c K q sh) (hj : q.length = j) :
    Calls Try.prog 21 #[.pointer (some ⟨b, 0, none⟩)] w fun r w' => r = .returned (.int .i64 j) ∧ Mine W w' b c K q sh :=
  (len_some h.box).mono fun e w' ⟨h1, h2⟩ => ⟨by rw [h1, hj], h.step h2⟩
theorem mine_room {W w : World} {b c K : Nat} {z : Int} {q : List Req} (h : Mine W w b c K q false) (hj : (K : Int) - q.length = z) :
    Calls Try.prog 22 #[.pointer (some ⟨b, 0, none⟩)] w fun r w' => r = .returned (.int .i64 z) ∧ Mine W w' b c K q false :=
  (room_some h.box).mono fun e w' ⟨h1, h2⟩ => ⟨by rw [h1, ← hj]; rfl, h.step h2⟩
theorem mine_take {W w : World} {b c K : Nat} {x y : Int} {q q' : List Req} {sh : Bool} (h : Mine W w b c K q sh) (hq : q = (x, y) :: q') :
    Calls Try.prog 11 #[.pointer (some ⟨b, 0, none⟩)] w fun r w' => r = .returned (.tuple #[.agg #[.int .i64 x, .int .i64 y], .bool true]) ∧ Mine W w' b c K q' sh := by
  subst hq
  exact (take_some h.box).mono fun e w' ⟨h1, h2⟩ => ⟨h1, h.step h2⟩
theorem mine_none {W w : World} {b c K : Nat} {q : List Req} {sh : Bool} (h : Mine W w b c K q sh) (hq : q = []) :
    Calls Try.prog 11 #[.pointer (some ⟨b, 0, none⟩)] w fun r w' => r = .returned (.tuple #[.agg #[.int .i64 0, .int .i64 0], .bool false]) ∧ Mine W w' b c K [] sh := by
  subst hq
  exact (take_none h.box).mono fun e w' ⟨h1, h2⟩ => ⟨h1, h.step h2⟩
theorem drop_take {l : List Req} {i j : Nat} {x : Req} (hx : l[i]? = some x) (hij : i < j) : (l.take j).drop i = x :: (l.take j).drop (i + 1) := by
  have h1 : (l.take j)[i]? = some x := by rw [List.getElem?_take, if_pos hij]; exact hx
  obtain ⟨h2, h3⟩ := List.getElem?_eq_some_iff.1 h1
  rw [List.drop_eq_getElem_cons h2, h3]

set_option maxRecDepth 100000 in
set_option maxHeartbeats 4000000 in
theorem law_order (W : World) (n : Int) (wn : (Lit.int .i64 n).wf = true) (a : Option Addr) (len cap : Nat) (l : List Req) (h : IsAsks W a len cap l) : Calls Try.prog 4 #[.int .i64 n, .slice a len cap] W fun e w' => e = .returned (.bool true) ∧ Below W.heap.size W w' := by
  have A := Lib.hid (awake_any W)
  have HI := Lib.hid h
  have hlen := h.hlen
  obtain ⟨t, k0, e1, e2, e3, e4, e5⟩ := led n 1000 (by omega) (by omega)
  obtain ⟨K, hK⟩ : ∃ K : Nat, 1 + (k0 : Int) = (K : Int) := ⟨k0 + 1, by omega⟩
  have e6 : (t + 1000).tmod 1000 = (k0 : Int) := by rw [Int.tmod_eq_emod_of_nonneg (by omega)]; exact e4
  clear h wn
  go_enter Try.func4, Try.ntmps4
  go_wp2_with (first
    | (go_at_call 9; (refine (A.out).mono ?_); rintro r w1 ⟨rfl, h1⟩; have H1 := Lib.hid h1; clear h1)
    | (go_at_call 10; (with_reducible refine (new_some K (by omega) (by omega) _).mono ?_); rintro e w2 ⟨b, c, rfl, h2⟩; have H2 := Lib.hid (mine_new H1.out h2); clear h2 H1))
  obtain ⟨m, hm⟩ : ∃ m, m = min len 30 := ⟨_, rfl⟩
  have hm1 : m ≤ len := by omega
  have hm2 : m ≤ 30 := by omega
  have hor : m = len ∨ (m = 30 ∧ 30 < len) := by omega
  have hK1 : (K : Int) ≤ 1000 := by omega
  clear hm A e1 e2 e3 e4 e5 e6 hK
  go_loopw [8, 9] (fun u v wr => ∃ i j : Nat, i ≤ m ∧ j ≤ i ∧ Hid (j = min i K) ∧ u = .int .i64 j ∧ v = .int .i64 i ∧ Hid (Mine W wr b c K (l.take (min i K)) false)) (fun _ v _ => (m - intOf v).toNat)
  case atStart => exact ⟨0, 0, by omega, by omega, by show 0 = _; omega, rfl, rfl, by simpa using H2⟩
  case round =>
    obtain ⟨i, j, hi, hj, HJ, rfl, rfl, HP⟩ := hrel
    clear H2
    by_cases hlt : i < m
    · obtain ⟨x, y, hx⟩ := nth_of HI.out.length (show i < len by omega)
      obtain ⟨g, o, rfl, c0, c1⟩ := (HI.out.view.below HP.out.low).at_ hx
      have hi1 : (i : Int) < (len : Int) := by omega
      have hi2 : (i : Int) < 30 := by omega
      have hi0 : (0 : Int) ≤ (i : Int) := by omega
      by_cases hk : i < K
      · have hk1 : (i : Int) < (K : Int) := by omega
        have CP := Lib.hid (order_yes HP.out hx hk)
        clear hx
        go_wp2_with (go_at_call 19; (with_reducible refine (CP.out).mono ?_); rintro e w3 ⟨rfl, h3⟩; have H3 := Lib.hid h3; clear h3)
        go_roundw
        case rel => exact ⟨i + 1, j + 1, by omega, by omega, by have := HJ.out; show _ = _; omega, by go_num, by go_num, H3⟩
        case measure => simp [intOf]; omega
      · have hk1 : ¬ (i : Int) < (K : Int) := by omega
        have CP := Lib.hid (order_no (x := x) (y := y) HP.out (by rw [HI.out.length]; omega) hk)
        clear hx
        go_wp2_with (go_at_call 19; (with_reducible refine (CP.out).mono ?_); rintro e w3 ⟨rfl, h3⟩; have H3 := Lib.hid h3; clear h3)
        go_roundw
        case rel => exact ⟨i + 1, j, by omega, by omega, by have := HJ.out; show _ = _; omega, rfl, by go_num, H3⟩
        case measure => simp [intOf]; omega
    · obtain rfl : i = m := by omega
      have hq : (l.take (min i K)).length = j := by rw [List.length_take, HI.out.length]; have := HJ.out; omega
      have HQ := Lib.hid hq
      have hw : IntKind.i64.wrap ((K : Int) - (j : Int)) = (K : Int) - j := IntWalk.i64_in _ (by omega)
      have hjk : (j : Int) ≤ (K : Int) := by have := HJ.out; omega
      have hjn : (j : Int) ≤ (len : Int) := by omega
      clear hq
      rcases hor with rfl | ⟨rfl, hor⟩
      all_goals
        go_upto_block 4 with (first
          | (go_at_call 21; (with_reducible refine (mine_len HP.out HQ.out).mono ?_); rintro e w3 ⟨rfl, h3⟩; have H3 := Lib.hid h3; clear h3)
          | (go_at_call 22; (with_reducible refine (mine_room H3.out (by rw [HQ.out])).mono ?_); rintro e w4 ⟨rfl, h4⟩; have H4 := Lib.hid h4; clear h4))
        have hjl : Hid ((l.take j).length = j) := by have := HQ.out; have := HJ.out; rw [List.length_take] at *; show _ = _; omega
        have H5 : Hid (Mine W w4 b c K ((l.take j).drop 0) false) := by rw [List.drop_zero, HJ.out]; exact H4.out
        clear HP HQ H3 H4 hw
        go_loopw [10] (fun u wr => ∃ i : Nat, i ≤ j ∧ u = .int .i64 i ∧ Hid (Mine W wr b c K ((l.take j).drop i) false)) (fun u _ => (j - intOf u).toNat)
        case atStart => exact ⟨0, by omega, rfl, H5⟩
        case round =>
          obtain ⟨i2, hi2, rfl, HP⟩ := hrel
          clear H5
          by_cases hlt2 : i2 < j
          · obtain ⟨x, y, hx⟩ := nth_of HI.out.length (show i2 < _ by omega)
            have HX := Lib.hid hx
            have CT := Lib.hid (mine_take HP.out (drop_take hx hlt2))
            have hi1 : (i2 : Int) < (j : Int) := by omega
            have hi0 : (0 : Int) ≤ (i2 : Int) := by omega
            clear hx
            go_upto_region 20 with (go_at_call 11; (with_reducible refine (CT.out).mono ?_); rintro e w5 ⟨rfl, h5⟩; have H6 := Lib.hid (h5.alloc (.cells #[.int .i64 x, .int .i64 y] 31)); clear h5)
            obtain ⟨g, o, rfl, c0, c1⟩ := (HI.out.view.below H6.out.low).at_ HX.out
            have hi3 := Int.lt_of_lt_of_le hi1 hjn
            have n0 : (w5.alloc (.cells #[.int .i64 x, .int .i64 y] 31)).cell? ⟨w5.heap.size, 0, none⟩ = some (.int .i64 x) := by rw [World.cell?_alloc_new]; rfl
            have n1 : (w5.alloc (.cells #[.int .i64 x, .int .i64 y] 31)).cell? ⟨w5.heap.size, 1, none⟩ = some (.int .i64 y) := by rw [World.cell?_alloc_new]; rfl
            clear HX CT
            generalize w5.alloc (.cells #[.int .i64 x, .int .i64 y] 31) = w6 at H6 c0 c1 n0 n1 ⊢
            generalize w5.heap.size = g5 at n0 n1 ⊢
            go_quiet (fail)
            go_wp2
            go_roundw
            case rel => exact ⟨i2 + 1, by omega, by go_num, H6.out.below (below_same (Below.refl _ _) rfl rfl rfl rfl)⟩
            case measure => simp [intOf]; omega
          · obtain rfl : i2 = j := by omega
            have CT := Lib.hid (mine_none HP.out (by rw [List.drop_eq_nil_iff, hjl.out]; exact Nat.le_refl _))
            go_wp2_with (go_at_call 11; (with_reducible refine (CT.out).mono ?_); rintro e w5 ⟨rfl, h5⟩; have H6 := Lib.hid (h5.alloc (.cells #[.int .i64 0, .int .i64 0] 31)); clear h5)
            go_ret
            exact ⟨rfl, H6.out.low⟩
end Go.Proofs.Ytkcdblpaaldcaaa
