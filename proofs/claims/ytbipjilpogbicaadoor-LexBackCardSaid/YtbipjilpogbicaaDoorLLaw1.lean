/-
  The walk over the law of numbers that are read from their digits.
-/
import Derived.Test.YtbipjilpogbicaaDoorLLaw2
import Derived.Test.YtbipjilpogbicaaDoorLP4
import Derived.Laws.BitsLemmas
namespace Go.Proofs.YtbipjilpogbicaaDoor
open Go.RowKit Go.Maps

theorem and63 (n : Int) : bits .and .i64 n 9223372036854775807 = n % 9223372036854775808 := by
  have h63 : (BitVec.ofInt 64 9223372036854775807).toNat = 2 ^ 63 - 1 := by decide
  have key : (BitVec.ofInt 64 n &&& BitVec.ofInt 64 9223372036854775807).toNat = (n % ((2 ^ 64 : Nat) : Int)).toNat % 2 ^ 63 := by
    rw [BitVec.toNat_and, BitVec.toNat_ofInt, h63, Nat.and_two_pow_sub_one_eq_mod]
  show IntKind.i64.wrap ((BitVec.ofInt 64 n &&& BitVec.ofInt 64 9223372036854775807).toNat : Nat) = n % 9223372036854775808
  rw [key, IntKind.wrap_i64]
  omega
theorem and15 (n : Int) : bits .and .u8 n 15 = n % 16 := by
  have h4 : (BitVec.ofInt 8 15).toNat = 2 ^ 4 - 1 := by decide
  have key : (BitVec.ofInt 8 n &&& BitVec.ofInt 8 15).toNat = (n % ((2 ^ 8 : Nat) : Int)).toNat % 2 ^ 4 := by
    rw [BitVec.toNat_and, BitVec.toNat_ofInt, h4, Nat.and_two_pow_sub_one_eq_mod]
  show IntKind.u8.wrap ((BitVec.ofInt 8 n &&& BitVec.ofInt 8 15).toNat : Nat) = n % 16
  rw [key, IntKind.wrap_u8]
  omega
theorem conv_byte (v : Nat) (h : v < 256) (w : World) (b : Nat) (hc : w.cell? ⟨b, 0, none⟩ = some (.int .u8 (v : Int))) : Sem.run Tryd.prog (convert 47 9 (.slice (some ⟨b, 0, none⟩) 1 1)) w = .ok (.string ⟨#[UInt8.ofNat v]⟩) w := by
  refine run_convert_bytes_back w 47 9 5 ⟨b, 0, none⟩ 1 [UInt8.ofNat v] Tryd.underlying47 Tryd.underlying5 Tryd.underlying9 ?_
  intro j hj
  have : j = 0 := by simp at hj; omega
  subst this
  rw [addr_at, Nat.zero_add, hc]
  have e : (UInt8.ofNat v).toNat = v := by
    rw [UInt8.toNat_ofNat']; omega
  simp only [List.getElem_cons_zero, e]
def low63 (x : Int) : Int := x % 9223372036854775808

set_option maxRecDepth 100000 in
set_option maxHeartbeats 4000000 in
theorem law_back (w : World) (hT : PT w) (a : Option Addr) (z : List Int) (c : Nat) (hI : Ints w a z) (hzc : z.length ≤ c) (hcm : (c : Int) ≤ 9223372036854775807) (_hzI : ∀ y ∈ z, I64 y) (cb : Int) (_hcb : (Lit.int .u8 cb).wf = true) :
    Calls Tryd.prog 5 #[.slice a z.length c, .int .u8 cb] w fun e w' => e = .returned (.bool true) ∧ Below w.heap.size w w' := by
  obtain ⟨zl, hzl⟩ : ∃ n, z.length = n := ⟨_, rfl⟩
  rw [hzl] at hzc ⊢
  obtain ⟨M, hM⟩ : ∃ M, (z.take 20).map low63 = M := ⟨_, rfl⟩
  obtain ⟨K, hK⟩ : ∃ K, M.length = K := ⟨_, rfl⟩
  have hK2 : K ≤ 20 ∧ K ≤ zl ∧ (K = 20 ∨ K = zl) := by
    rw [← hK, ← hM, List.length_map, List.length_take, hzl]; omega
  have HMI : Hid (∀ y ∈ M, 0 ≤ y ∧ I64 y) := fun y hy => by
    rw [← hM] at hy
    obtain ⟨x, _, rfl⟩ := List.mem_map.1 hy
    unfold low63 I64
    omega
  have HMZ : Hid (∀ i, i < K → ∃ x, z[i]? = some x ∧ M[i]? = some (low63 x)) := fun i hi => by
    obtain ⟨x, hx⟩ := nth_of hzl (show i < zl by omega)
    refine ⟨x, hx, ?_⟩
    rw [← hM, List.getElem?_map, List.getElem?_take, if_pos (by omega), hx]
    rfl
  obtain ⟨d, hd⟩ : ∃ d, joinOf M = d := ⟨_, rfl⟩
  have hds : d.size ≤ 900000 := by
    have := jrun_size M (fun y hy => (HMI.out y hy).2) M.length
    unfold joinOf at hd
    rw [hd, hK] at this
    omega
  obtain ⟨v, hv⟩ : ∃ v : Nat, (cb % 16).toNat + 32 = v := ⟨_, rfl⟩
  have ha15 := and15 cb
  obtain ⟨e, he⟩ : ∃ e, cb % 16 = e := ⟨_, rfl⟩
  rw [he] at ha15 hv
  have hwv : IntKind.u8.wrap (e + 32) = (v : Int) := by rw [IntKind.wrap_u8]; omega
  have hv48 : v < 48 := by omega
  have AW := Lib.hid (awake_any w)
  have HT := Lib.hid hT
  have HI := Lib.hid hI
  have HK := Lib.hid hK
  have HD := Lib.hid hd
  clear hT hI hK hd hM hzl he hv
  go_enter Tryd.func5, Tryd.ntmps5
  go_wp2_with (go_at_call 9; (with_reducible refine AW.out.mono ?_); rintro e w1 ⟨rfl, b1⟩; have B1 := Lib.hid b1; clear b1)
  clear AW
  go_loopw [6, 7] (fun u v wr => ∃ (i : Nat) (am : Option Addr) (cm : Nat), i ≤ K ∧ v = .int .i64 i ∧ u = .slice am i cm ∧ Hid (Below w.heap.size w wr) ∧ Hid (OwnI wr 2 w.heap.size (.slice am i cm) (M.take i)) ∧ Hid ((M.take i).length = i)) (fun _ v _ => (K - intOf v).toNat)
  case atStart => exact ⟨0, none, 0, by omega, rfl, rfl, B1, OwnI.nil _ _ _, rfl⟩
  case round =>
    obtain ⟨i, am, cm, hi, rfl, rfl, HB, HO, HL⟩ := hrel
    by_cases hlt : i < K
    · obtain ⟨x, hx, hmx⟩ := HMZ.out i hlt
      have p1 : (i : Int) < (zl : Int) := by omega
      have p2 : (i : Int) < 20 := by omega
      obtain ⟨g, o, rfl, hc⟩ := (HI.out.below HB.out).at_ hx
      have hand := and63 x
      obtain ⟨hy0, hyI⟩ := HMI.out _ (List.mem_of_getElem? hmx)
      change bits .and .i64 x 9223372036854775807 = low63 x at hand
      obtain ⟨y, hy⟩ : ∃ y, low63 x = y := ⟨_, rfl⟩
      rw [hy] at hand hy0 hyI hmx
      obtain ⟨t, ht⟩ : ∃ t, digOf y = t := ⟨_, rfl⟩
      have E := digOf_digs hy0 hyI
      rw [ht] at E
      have hts : t.size ≤ 22 := by rw [← ht]; exact digOf_size y hyI
      have hyn : ((y.toNat : Nat) : Int) = y := Int.toNat_of_nonneg hy0
      obtain ⟨r, hr⟩ : ∃ r : ByteArray, t ++ ⟨#[UInt8.ofNat v]⟩ = r := ⟨_, rfl⟩
      have hos : (⟨#[UInt8.ofNat v]⟩ : ByteArray).size = 1 := rfl
      have hadd := add_str t ⟨#[UInt8.ofNat v]⟩ r hr (by rw [hos]; omega)
      have hcv := conv_byte v (by omega)
      have hrs : r.size ≤ 23 := by rw [← hr, ByteArray.size_append, hos]; omega
      have hI64 := hyI
      unfold I64 at hI64
      have hw1 : IntKind.i64.wrap (y - 1) = y - 1 := IntWalk.i64_in _ (by omega)
      have CD : Hid (∀ w', Below wr.heap.size wr w' → Calls Tryd.prog 23 #[.int .i64 y] w' fun e w'' => e = .returned (.string t) ∧ Below wr.heap.size wr w'' ∧ Below w'.heap.size w' w'') := fun w' h => by
        have := digits_any y hyI w' (HT.out.below (below_up HB.out h))
        rw [ht] at this
        exact this.mono fun _ _ ⟨h1, h2⟩ => ⟨h1, below_up h h2, h2⟩
      have N1 : Hid (∀ w', Below wr.heap.size wr w' → Calls Tryd.prog 16 #[.string t, .int .i64 y] w' fun e w'' => e = .returned (.tuple #[.int .i64 y, .bool true]) ∧ Below wr.heap.size wr w'') := fun w' h => by
        have := number_any t (by omega) y hyI w'
        rw [E.num, if_neg (by omega)] at this
        exact this.mono fun _ _ ⟨h1, h2⟩ => ⟨by rw [h1]; simp [hyn], below_up h h2⟩
      have N2 : Hid (∀ w', Below wr.heap.size wr w' → Calls Tryd.prog 16 #[.string t, .int .i64 (y - 1)] w' fun e w'' => e = .returned (.tuple #[.int .i64 0, .bool false]) ∧ Below wr.heap.size wr w'') := fun w' h => by
        have := number_any t (by omega) (y - 1) (by unfold I64; omega) w'
        rw [E.num, if_pos (by omega)] at this
        exact this.mono fun _ _ ⟨h1, h2⟩ => ⟨h1, below_up h h2⟩
      have N3 : Hid (∀ w', Below wr.heap.size wr w' → Calls Tryd.prog 16 #[.string r, .int .i64 y] w' fun e w'' => e = .returned (.tuple #[.int .i64 0, .bool false]) ∧ Below wr.heap.size wr w'') := fun w' h => by
        have := number_any r (by omega) y hyI w'
        rw [← hr, E.more y (UInt8.ofNat v) (by rw [UInt8.toNat_ofNat']; omega)] at this
        rw [hr] at this
        exact this.mono fun _ _ ⟨h1, h2⟩ => ⟨h1, below_up h h2⟩
      have HY := Lib.hid hmx
      have r0 := Below.refl wr.heap.size wr
      have hwi : IntKind.i64.wrap ((i : Int) + 1) = (i : Int) + 1 := IntWalk.i64_in _ (by omega)
      clear E hyn hI64 hy ht hr hmx hx hrs hts hyI hy0 hi hos
      go_upto_region 9 with (first
        | (go_at_call 23; (with_reducible refine (CD.out _ (by repeat (first | exact Below.refl _ _ | (with_reducible assumption) | refine bw_alloc ?_ _ | refine bw_drew ?_))).mono ?_); rintro e wx ⟨rfl, bx, _⟩)
        | (go_at_call 16; (with_reducible refine (N1.out _ (by repeat (first | exact Below.refl _ _ | (with_reducible assumption) | refine bw_alloc ?_ _ | refine bw_drew ?_))).mono ?_); rintro e wx ⟨rfl, bx⟩)
        | (go_at_call 16; (with_reducible refine (N2.out _ (by repeat (first | exact Below.refl _ _ | (with_reducible assumption) | refine bw_alloc ?_ _ | refine bw_drew ?_))).mono ?_); rintro e wx ⟨rfl, bx⟩))
      refine gen_world (fun v => Below wr.heap.size wr v) (by repeat (first | exact Below.refl _ _ | (with_reducible assumption) | refine bw_alloc ?_ _ | refine bw_drew ?_)) ?_
      intro W9 hl9
      clear hc hand hw1 N1 N2
      go_cut [13, 14] from 50 to 61 (fun u v wx => u = .int .i64 0 ∧ v = .bool false ∧ Hid (Below wr.heap.size wr wx))
      case first =>
        go_region_with (first
          | (go_at_call 23; (with_reducible refine (CD.out _ (by repeat (first | exact Below.refl _ _ | (with_reducible assumption) | refine bw_alloc ?_ _ | refine bw_drew ?_))).mono ?_); rintro e wx ⟨rfl, bx, by2⟩; (try (have hq : wx.cell? ⟨W9.heap.size, 0, none⟩ = some (.int .u8 (v : Int)) := by rw [blk_cell (kept_obj (b := W9.heap.size) by2 (heap_alloc_new W9 _))]; rfl)))
          | (go_at_call 16; (with_reducible refine (N3.out _ (by repeat (first | exact Below.refl _ _ | (with_reducible assumption) | refine bw_alloc ?_ _ | refine bw_drew ?_))).mono ?_); rintro e wy ⟨rfl, bx⟩))
        all_goals
          go_wp2_with fail
          go_meet
          exact ⟨rfl, rfl, Lib.hid (by repeat (first | exact Below.refl _ _ | (with_reducible assumption) | refine bw_alloc ?_ _ | refine bw_drew ?_))⟩
      case rest =>
        obtain ⟨rfl, rfl, HB2⟩ := hcut
        clear CD N3 hcv hadd hl9
        have HO2 : Hid (OwnI wc 2 w.heap.size (.slice am i cm) (M.take i)) := HO.out.below HB2.out
        have HB3 : Hid (Below w.heap.size w wc) := below_up HB.out HB2.out
        have HSM : Hid (((M.take i).length + 1 : Int) ≤ 17592186044416) := by show _ ≤ _; rw [HL.out]; omega
        have HNN : Hid ((M.take i).length + 1 = i + 1) := by show _ = _; rw [HL.out]
        have HNX : Hid (M.take i ++ [y] = M.take (i + 1)) := by show _ = _; rw [List.take_add_one, HY.out]; rfl
        have HNL : Hid ((M.take (i + 1)).length = i + 1) := by show _ = _; rw [List.length_take, HK.out]; omega
        go_wp2_with (at_builtin; refine wp_ints (m := 1) (l := [y]) numL rfl _ _ rfl rfl rfl (HO2.out.below (by repeat (first | exact Below.refl _ _ | (with_reducible assumption) | refine bw_alloc ?_ _ | refine bw_drew ?_))) (Nat.le_trans HB3.out.size ((by repeat (first | exact Below.refl _ _ | (with_reducible assumption) | refine bw_alloc ?_ _ | refine bw_drew ?_)) : Below wc.heap.size wc _).size) (ints_new _ _ _) rfl HSM.out (fun z => by cases z) (i + 1) HNN.out ?_; intro a3 k3 w3 o3 g3 l3; have HN3 := Lib.hid o3; have HB4 := Lib.hid (growni_new (below_up HB3.out ((by repeat (first | exact Below.refl _ _ | (with_reducible assumption) | refine bw_alloc ?_ _ | refine bw_drew ?_)) : Below wc.heap.size wc _)) (HO2.out.below ((by repeat (first | exact Below.refl _ _ | (with_reducible assumption) | refine bw_alloc ?_ _ | refine bw_drew ?_)) : Below wc.heap.size wc _)) (Nat.le_trans HB3.out.size ((by repeat (first | exact Below.refl _ _ | (with_reducible assumption) | refine bw_alloc ?_ _ | refine bw_drew ?_)) : Below wc.heap.size wc _).size) g3); clear o3 g3 l3)
        go_roundw
        case rel => exact ⟨i + 1, a3, k3, by omega, by go_num, rfl, HB4, by show OwnI _ _ _ _ _; rw [← HNX.out]; exact HN3.out, HNL⟩
        case measure => simp [intOf]; omega
    · obtain rfl : i = K := by omega
      have hMt : M.take i = M := List.take_of_length_le (by rw [HK.out]; exact Nat.le_refl _)
      have HO2 : Hid (OwnI wr 2 w.heap.size (.slice am i cm) M) := by show OwnI _ _ _ _ _; rw [← hMt]; exact HO.out
      have hIm : Ints wr am M := by
        obtain ⟨a9, c9, e9, hIm, _, _⟩ := HO2.out.slice
        cases e9
        exact hIm
      have HIM := Lib.hid hIm
      have HTW : Hid (PT wr) := HT.out.below HB.out
      have CJ : Hid (Calls Tryd.prog 25 #[.slice am i cm] wr fun e w' => e = .returned (.string d) ∧ Below wr.heap.size wr w') := by
        have := join_any am i cm M HK.out (by omega) (fun y hy => (HMI.out y hy).2) wr HIM.out HTW.out
        rw [HD.out] at this; exact this
      have hk3 : (i = 0 ∧ M = []) ∨ (0 < i ∧ numsOf d MostOf = some M) := by
        rcases Nat.eq_zero_or_pos i with z | z
        · left; refine ⟨z, List.length_eq_zero_iff.1 (by rw [HK.out]; exact z)⟩
        · right; refine ⟨z, ?_⟩
          rw [← HD.out]
          exact nums_join M HMI.out (by rw [HK.out]; exact z)
      have hcond : ¬ (i : Int) < (zl : Int) ∨ ((i : Int) < (zl : Int) ∧ ¬ (i : Int) < 20) := by omega
      clear hMt hIm HO HO2 HMZ
      rcases hk3 with ⟨rfl, rfl⟩ | ⟨hpos, hnum⟩
      · have CN : Hid (∀ w', Calls Tryd.prog 18 #[.string d, .int .i64 9223372036854775807] w' (NumsU [] 0 false w')) := fun w' => by
          refine (numbers_any d hds 9223372036854775807 (by unfold I64; omega) w').mono fun e w' h => nums_u ?_ rfl ?_ h
          all_goals
            have := nums_none
            rw [HD.out] at this
            unfold MostOf at this
            rw [this]; rfl
        clear HD HK
        rcases hcond with q1 | ⟨q1, q2⟩
        rotate_left
        · exact absurd (show ((0 : Nat) : Int) < 20 by omega) q2
        all_goals
          go_wp2_with (first
            | (go_at_call 25; (with_reducible refine CJ.out.mono ?_); rintro e w2 ⟨rfl, b2⟩; have B2 := Lib.hid b2; clear b2)
            | (go_at_call 18; (with_reducible refine (CN.out _).mono ?_); rintro e w3 ⟨a5, c5, rfl, i5, b3⟩; have B3 := Lib.hid b3; clear b3 i5))
          go_ret
          exact ⟨by simp, below_up (below_up HB.out B2.out) B3.out⟩
      · have CN : Hid (∀ w', Calls Tryd.prog 18 #[.string d, .int .i64 9223372036854775807] w' (NumsU M i true w')) := fun w' => by
          unfold MostOf at hnum
          exact (numbers_any d hds 9223372036854775807 (by unfold I64; omega) w').mono fun e w' h => nums_u (by rw [hnum]; rfl) HK.out (by rw [hnum]; rfl) h
        have C7 : Hid (∀ (a b : Option Addr) (ca cb : Nat) (w : World), Ints w a M → Ints w b M → Calls Tryd.prog 22 #[.slice a i ca, .slice b i cb] w fun e w' => e = .returned (.bool true) ∧ Below w.heap.size w w') :=
          fun a b ca cb w ha hb => (samelong_any i i ca cb (by omega) (by omega) a b M M HK.out HK.out w ha hb).mono fun _ _ ⟨h1, h2⟩ => ⟨by rw [h1, decide_eq_true rfl], h2⟩
        have d9 : ((i : Int) == 0) = false := by rw [beq_eq_false_iff_ne]; omega
        clear HD HK hnum hpos
        rcases hcond with q1 | ⟨q1, q2⟩
        all_goals
          go_wp2_with (first
            | (go_at_call 25; (with_reducible refine CJ.out.mono ?_); rintro e w2 ⟨rfl, b2⟩; have B2 := Lib.hid b2; clear b2)
            | (go_at_call 18; (with_reducible refine (CN.out _).mono ?_); rintro e w3 ⟨a5, c5, rfl, i5, b3⟩; have B3 := Lib.hid b3; have I5 := Lib.hid i5; clear b3 i5)
            | (go_at_call 22; (with_reducible refine (C7.out _ _ _ _ _ I5.out ((HIM.out.below B2.out).below B3.out)).mono ?_); rintro e w4 ⟨rfl, b4⟩; have B4 := Lib.hid b4; clear b4))
          go_ret
          exact ⟨by simp, below_up (below_up (below_up HB.out B2.out) B3.out) B4.out⟩
end Go.Proofs.YtbipjilpogbicaaDoor
