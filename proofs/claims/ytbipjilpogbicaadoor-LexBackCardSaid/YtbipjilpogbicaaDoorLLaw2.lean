/-
  The walk over the law of numbers and pairs.
-/
import Derived.Test.YtbipjilpogbicaaDoorLNums
import Derived.Test.YtbipjilpogbicaaDoorLJoin
import Derived.Test.YtbipjilpogbicaaDoorLW9
import Derived.Test.YtbipjilpogbicaaDoorLLaw3
namespace Go.Proofs.YtbipjilpogbicaaDoor
open Go.RowKit Go.Maps

theorem pair_one {s x y x' y' : ByteArray} {b b' : Bool} (h : PairIs s x y b) (h' : PairIs s x' y' b') : x' = x ∧ y' = y ∧ b' = b := by
  rcases h with ⟨h1, rfl, rfl, rfl⟩ | ⟨i, h1, rfl, rfl, rfl⟩ <;> rcases h' with ⟨k1, rfl, rfl, rfl⟩ | ⟨j, k1, rfl, rfl, rfl⟩
  · exact ⟨rfl, rfl, rfl⟩
  · exact absurd k1.2.1 (h1 _ k1.1)
  · exact absurd h1.2.1 (k1 _ h1.1)
  · have : i = j := by
      rcases Nat.lt_trichotomy i j with q | q | q
      · exact absurd h1.2.1 (k1.2.2 _ q)
      · exact q
      · exact absurd k1.2.1 (h1.2.2 _ q)
    subst this
    exact ⟨rfl, rfl, rfl⟩
/-- Both ways of numbers that come back, as one. -/
def NumsU (l : List Int) (n : Nat) (p : Bool) (w : World) (e : Ending) (w' : World) : Prop := ∃ a c, e = .returned (.tuple #[.slice a n c, .bool p]) ∧ Ints w' a l ∧ Below w.heap.size w w'
theorem nums_u {o : Option (List Int)} {l : List Int} {n : Nat} {p : Bool} {w w' : World} {e : Ending} (hl : o.getD [] = l) (hn : l.length = n) (hp : o.isSome = p) (h : NumsB o w e w') : NumsU l n p w e w' := by
  obtain ⟨hb, ⟨rfl, rfl⟩ | ⟨q, a, c, rfl, rfl, hi, _⟩⟩ := h
  · subst hl hp
    subst hn
    exact ⟨none, 0, rfl, .inl rfl, hb⟩
  · have e1 : q = l := hl
    subst e1 hp hn
    exact ⟨a, c, rfl, hi, hb⟩

set_option maxRecDepth 100000 in
set_option maxHeartbeats 4000000 in
theorem law_numbers (w : World) (hT : PT w) (s0 : ByteArray) (_hs : s0.size ≤ maxLen) (most : Int) (hmost : (Lit.int .i64 most).wf = true) (a : Option Addr) (z : List Int) (c : Nat) (hI : Ints w a z) (hzc : z.length ≤ c) (hcm : (c : Int) ≤ 9223372036854775807) (hzI : ∀ y ∈ z, I64 y) :
    Calls Tryd.prog 4 #[.string s0, .int .i64 most, .slice a z.length c] w fun e w' => e = .returned (.bool true) ∧ Below w.heap.size w w' := by
  have hmI := i64_of_wf hmost
  obtain ⟨s, hS⟩ : ∃ A, shortOf s0 60 = A := ⟨_, rfl⟩
  have hs6 : s.size ≤ 60 := by rw [← hS]; exact short_le _ _
  obtain ⟨q, hq⟩ : ∃ q, z.take 20 = q := ⟨_, rfl⟩
  obtain ⟨k, hk⟩ : ∃ k, q.length = k := ⟨_, rfl⟩
  obtain ⟨zl, hzl⟩ : ∃ n, z.length = n := ⟨_, rfl⟩
  have hk2 : (20 < zl ∧ k = 20) ∨ (zl ≤ 20 ∧ k = zl) := by
    rw [← hk, ← hq, ← hzl, List.length_take]; omega
  have HIq : Hid (Ints w a q) := by show Ints w a q; rw [← hq]; exact hI.take 20
  have HqI : Hid (∀ y ∈ q, I64 y) := fun y hy => hzI y (by rw [← hq] at hy; exact List.mem_of_mem_take hy)
  rw [hzl]
  obtain ⟨N, hN⟩ : ∃ n : Nat, (numOf s most).getD 0 = n := ⟨_, rfl⟩
  obtain ⟨O, hO⟩ : ∃ b, (numOf s most).isSome = b := ⟨_, rfl⟩
  obtain ⟨L, hL⟩ : ∃ l, (numsOf s most).getD [] = l := ⟨_, rfl⟩
  obtain ⟨n, hn⟩ : ∃ n, L.length = n := ⟨_, rfl⟩
  obtain ⟨P, hP⟩ : ∃ b, (numsOf s most).isSome = b := ⟨_, rfl⟩
  obtain ⟨d, hd⟩ : ∃ d, joinOf q = d := ⟨_, rfl⟩
  have AW := Lib.hid (awake_any w)
  have SA := Lib.hid (fun w => short_lit s0 60 60 rfl (by omega) hS w)
  have C1 : Hid (∀ w, Calls Tryd.prog 16 #[.string s, .int .i64 most] w fun e w' => e = .returned (.tuple #[.int .i64 N, .bool O]) ∧ Below w.heap.size w w') := fun w => by
    have := number_any s (by omega) most hmI w
    unfold NumIs at this
    rw [hN, hO] at this; exact this
  have C2 : Hid (∀ w, Calls Tryd.prog 17 #[.string s, .int .i64 most] w fun e w' => e = .returned (.agg #[.int .i64 N, .bool O]) ∧ Below w.heap.size w w') := fun w => by
    have := rnumber_any s (by omega) most w
    unfold NumB at this
    rw [hN, hO] at this; exact this
  have C3 : Hid (∀ w, Calls Tryd.prog 18 #[.string s, .int .i64 most] w (NumsU L n P w)) := fun w => (numbers_any s (by omega) most hmI w).mono fun e w' h => nums_u hL hn hP h
  have C4 : Hid (∀ w, Calls Tryd.prog 19 #[.string s, .int .i64 most] w (NumsU L n P w)) := fun w => (rnumbers_any s (by omega) most w).mono fun e w' h => nums_u hL hn hP h
  have C5 := Lib.hid (fun w => pair_any s (by omega) w)
  have C6 := Lib.hid (fun w => rpair_any s (by omega) w)
  have hnB : (n : Int) ≤ 9223372036854775807 := by
    rw [← hn, ← hL, numsOf_is]
    have h1 : ∀ l : List ByteArray, ((numsL most l).getD []).length ≤ l.length := by
      intro l
      induction l with
      | nil => exact Nat.le_refl _
      | cons x l ih =>
        rw [numsL]
        cases numOf x most with
        | none => simp
        | some m =>
          cases h : numsL most l with
          | none => simp
          | some r => rw [h] at ih; simp at ih ⊢; exact ih
    have h2 := h1 (pieces s)
    have h3 := prun_len s (s.size + 1)
    unfold pieces at h2
    unfold pieces
    omega
  have C7 : Hid (∀ (a b : Option Addr) (ca cb : Nat) (w : World), Ints w a L → Ints w b L → Calls Tryd.prog 22 #[.slice a n ca, .slice b n cb] w fun e w' => e = .returned (.bool true) ∧ Below w.heap.size w w') :=
    fun a b ca cb w ha hb => (samelong_any n n ca cb hnB hnB a b L L hn hn w ha hb).mono fun _ _ ⟨h1, h2⟩ => ⟨by rw [h1, decide_eq_true rfl], h2⟩
  have C8 : Hid (∀ w, Ints w a q → PT w → Calls Tryd.prog 25 #[.slice a k c] w fun e w' => e = .returned (.string d) ∧ Below w.heap.size w w') := fun w hi ht => by
    have := join_any a k c q hk (by omega) HqI.out w hi ht
    rw [hd] at this; exact this
  have C9 : Hid (∀ w, Ints w a q → Calls Tryd.prog 26 #[.slice a k c] w fun e w' => e = .returned (.string d) ∧ Below w.heap.size w w') := fun w hi => by
    have := rjoin_any a k c q hk (by omega) HqI.out w hi
    rw [hd] at this; exact this
  have HK := Lib.hid hk
  have HT := Lib.hid hT
  rw [hzl] at hzc
  have hk20 : k ≤ 20 := by omega
  have hkc : k ≤ c := by omega
  clear hS hq hk hzl hN hO hL hn hP hd hI hzI hT hmost hmI hs6 _hs
  go_enter Tryd.func4, Tryd.ntmps4
  go_upto_if 26 with (first
    | (go_at_call 9; (with_reducible refine AW.out.mono ?_); rintro e w1 ⟨rfl, b1⟩; have B1 := Lib.hid b1; clear b1)
    | (go_at_call 10; (with_reducible refine (SA.out _).mono ?_); rintro e w' ⟨rfl, rfl⟩))
  clear AW SA
  go_cut [2] from 27 to 28 (fun u wx => u = .slice a k c ∧ wx = w1)
  case first =>
    rcases hk2 with ⟨h1, rfl⟩ | ⟨h1, rfl⟩
    · have e1 : (20 : Int) < (zl : Int) := by omega
      have e2 : (20 : Int) ≤ (c : Int) := by omega
      go_wp2_with fail
      go_meet
      exact ⟨rfl, rfl⟩
    · have e1 : ¬ (20 : Int) < (k : Int) := by omega
      go_wp2_with fail
      go_meet
      exact ⟨rfl, rfl⟩
  case rest =>
    obtain ⟨rfl, rfl⟩ := hcut
    clear hk2
    go_upto_region 7 with (first
      | (go_at_call 16; (with_reducible refine (C1.out _).mono ?_); rintro e w2 ⟨rfl, b2⟩; have B2 := Lib.hid b2; clear b2)
      | (go_at_call 17; (with_reducible refine (C2.out _).mono ?_); rintro e w3 ⟨rfl, b3⟩; have B3 := Lib.hid b3; clear b3))
    refine gen_world (fun v => Below w.heap.size w v ∧ v.heap[w3.heap.size]? = some (.cells #[.int .i64 N, .bool O] 34 (0, 0))) ⟨bw_alloc (below_up (below_up B1.out B2.out) B3.out) _, heap_alloc_new w3 _⟩ ?_
    intro W1 ⟨hl1, hb1⟩
    have HL1 := Lib.hid hl1
    have HBN := Lib.hid hb1
    clear hl1 hb1 B1 B2 B3 C1 C2
    go_upto_region 11 with (first
      | (go_at_call 18; (with_reducible refine (C3.out _).mono ?_); rintro e w4 ⟨a1, c1, rfl, i1, b4⟩; have I1 := Lib.hid i1; have B4 := Lib.hid b4; clear i1 b4)
      | (go_at_call 19; (with_reducible refine (C4.out _).mono ?_); rintro e w5 ⟨a2, c2, rfl, i2, b5⟩; have I2 := Lib.hid i2; have B5 := Lib.hid b5; clear i2 b5)
      | (go_at_call 20; (with_reducible refine (C5.out _).mono ?_); rintro e w6 ⟨x, y, b, rfl, p1, b6⟩; have P1 := Lib.hid p1; have B6 := Lib.hid b6; clear p1 b6)
      | (go_at_call 21; (with_reducible refine (C6.out _).mono ?_); rintro e w7 ⟨x', y', b', rfl, p2, b7⟩; obtain ⟨rfl, rfl, rfl⟩ := pair_one P1.out p2; have B7 := Lib.hid b7; clear p2 b7 P1))
    refine gen_world (fun v => Below W1.heap.size W1 v ∧ Ints v a1 L ∧ Ints v a2 L ∧ v.heap[w7.heap.size]? = some (.cells #[.string x', .string y', .bool b'] 41 (0, 0)))
      ⟨bw_alloc (below_up (below_up (below_up B4.out B5.out) B6.out) B7.out) _, (((I1.out.below B5.out).below B6.out).below B7.out).below (bw_alloc (Below.refl _ _) _), ((I2.out.below B6.out).below B7.out).below (bw_alloc (Below.refl _ _) _), heap_alloc_new w7 _⟩ ?_
    intro W2 ⟨hl2, hi1, hi2, hb2⟩
    have HL2 := Lib.hid hl2
    have HBN2 : Hid (W2.heap[w3.heap.size]? = some (.cells #[.int .i64 N, .bool O] 34 (0, 0))) := kept_obj hl2 HBN.out
    have HBT := Lib.hid hb2
    have HI1 := Lib.hid hi1
    have HI2 := Lib.hid hi2
    clear hl2 hi1 hi2 hb2 B4 B5 B6 B7 C3 C4 C5 C6 I1 I2 HBN
    go_wp2_with (go_at_call 22; (with_reducible refine (C7.out _ _ _ _ _ HI1.out HI2.out).mono ?_); rintro e w8 ⟨rfl, b8⟩; have B8 := Lib.hid b8; clear b8)
    clear C7 HI1 HI2
    go_loopw [20] (fun u wr => ∃ i : Nat, i ≤ k ∧ u = .int .i64 i ∧ Hid (Below W2.heap.size W2 wr)) (fun u _ => (k - intOf u).toNat)
    case atStart => exact ⟨0, by omega, rfl, B8⟩
    case round =>
      obtain ⟨i, hi, rfl, HB⟩ := hrel
      by_cases hlt : i < k
      · obtain ⟨x, hx⟩ := nth_of HK.out hlt
        have HW0 : Hid (Below w.heap.size w wr) := below_up (below_up HL1.out HL2.out) HB.out
        obtain ⟨g, o, rfl, hc⟩ := (HIq.out.below HW0.out).at_ hx
        have hxI := HqI.out x (List.mem_of_getElem? hx)
        obtain ⟨t, ht⟩ : ∃ t, digOf x = t := ⟨_, rfl⟩
        have CD : Hid (∀ w', Below wr.heap.size wr w' → Calls Tryd.prog 23 #[.int .i64 x] w' fun e w'' => e = .returned (.string t) ∧ Below wr.heap.size wr w'') := fun w' h => by
          have := digits_any x hxI w' (HT.out.below (below_up HW0.out h))
          rw [ht] at this
          exact this.mono fun _ _ ⟨h1, h2⟩ => ⟨h1, below_up h h2⟩
        have CR : Hid (∀ w', Below wr.heap.size wr w' → Calls Tryd.prog 24 #[.int .i64 x] w' fun e w'' => e = .returned (.string t) ∧ Below wr.heap.size wr w'') := fun w' h => by
          have := rdigits_any x hxI w'
          rw [ht] at this
          exact this.mono fun _ _ ⟨h1, h2⟩ => ⟨h1, below_up h h2⟩
        have MK : Hid (∀ w', Below wr.heap.size wr w' → (Below wr.heap.size wr w' ∧ w'.cell? ⟨g, o + i, none⟩ = some (.int .i64 x))) := fun w' h => ⟨h, kept_cell h hc⟩
        have r0 := Below.refl wr.heap.size wr
        have hpl : (i : Int) < (k : Int) := by omega
        have hwi : IntKind.i64.wrap ((i : Int) + 1) = (i : Int) + 1 := IntWalk.i64_in _ (by omega)
        have HM : Hid (∀ w', Below wr.heap.size wr w' → Hid (Below W2.heap.size W2 w')) := fun w' h => below_up HB.out h
        clear hx hxI ht hc HW0
        go_upto_region 15 with fail
        go_region_held3 (fun w' => Below wr.heap.size wr w' ∧ w'.cell? ⟨g, o + i, none⟩ = some (.int .i64 x)) (exact MK.out _ (by repeat (first | exact Below.refl _ _ | (with_reducible assumption) | refine bw_alloc ?_ _ | refine bw_drew ?_))) (first | (go_at_call 23; (with_reducible refine (CD.out _ (by repeat (first | exact Below.refl _ _ | (with_reducible assumption) | refine bw_alloc ?_ _ | refine bw_drew ?_))).mono ?_); rintro e wx ⟨rfl, bx⟩) | (go_at_call 24; (with_reducible refine (CR.out _ (by repeat (first | exact Below.refl _ _ | (with_reducible assumption) | refine bw_alloc ?_ _ | refine bw_drew ?_))).mono ?_); rintro e wy ⟨rfl, bx⟩))
        all_goals
          go_wp2_with fail
          go_roundw
          case rel => exact ⟨i + 1, by omega, by go_num, HM.out _ (by repeat (first | exact Below.refl _ _ | (with_reducible assumption) | refine bw_alloc ?_ _ | refine bw_drew ?_))⟩
          case measure => simp [intOf]; omega
      · obtain rfl : i = k := by omega
        have hbn := kept_obj HB.out HBN2.out
        have hbt := kept_obj HB.out HBT.out
        have n0 : wr.cell? ⟨w3.heap.size, 0, none⟩ = some (.int .i64 N) := by rw [blk_cell hbn]; rfl
        have n1 : wr.cell? ⟨w3.heap.size, 1, none⟩ = some (.bool O) := by rw [blk_cell hbn]; rfl
        have t0 : wr.cell? ⟨w7.heap.size, 0, none⟩ = some (.string x') := by rw [blk_cell hbt]; rfl
        have t1 : wr.cell? ⟨w7.heap.size, 1, none⟩ = some (.string y') := by rw [blk_cell hbt]; rfl
        have t2 : wr.cell? ⟨w7.heap.size, 2, none⟩ = some (.bool b') := by rw [blk_cell hbt]; rfl
        have HW0 : Hid (Below w.heap.size w wr) := below_up (below_up HL1.out HL2.out) HB.out
        clear hbn hbt
        go_wp2_with (first
          | (go_at_call 25; (with_reducible refine (C8.out _ (HIq.out.below HW0.out) (HT.out.below HW0.out)).mono ?_); rintro e w9 ⟨rfl, b9⟩; have B9 := Lib.hid b9; clear b9)
          | (go_at_call 26; (with_reducible refine (C9.out _ ((HIq.out.below HW0.out).below B9.out)).mono ?_); rintro e w10 ⟨rfl, b10⟩; have B10 := Lib.hid b10; clear b10))
        go_ret
        exact ⟨by simp, below_up (below_up HW0.out B9.out) B10.out⟩
end Go.Proofs.YtbipjilpogbicaaDoor
