/-
  The walk over rows of numbers of a text.
-/
import Derived.Test.YtbipjilpogbicaaDoorLW3
namespace Go.Proofs.YtbipjilpogbicaaDoor
open Go.RowKit Go.Maps

/-- The numbers up to a place, and where the next one begins, if all were. -/
def nsrun (s : ByteArray) (most : Int) : Nat → Option (List Int × Nat)
  | 0 => some ([], 0)
  | i + 1 => match nsrun s most i with
    | none => none
    | some (l, f) => if i < s.size ∧ byteAt s i ≠ 44 then some (l, f) else match numOf (s.extract f i) most with
      | none => none
      | some n => some (l ++ [(n : Int)], i + 1)
def numsOf (s : ByteArray) (most : Int) : Option (List Int) := (nsrun s most (s.size + 1)).map (·.1)
theorem nsrun_none (s : ByteArray) (most : Int) {i : Nat} (h : nsrun s most i = none) : ∀ j, i ≤ j → nsrun s most j = none := by
  intro j hj
  induction j with
  | zero => have : i = 0 := by omega
            subst this; exact h
  | succ j ih =>
    rcases Nat.lt_or_ge j i with q | q
    · have : i = j + 1 := by omega
      subst this; exact h
    · rw [nsrun, ih q]
/-- A row of numbers that comes back, if it is one. -/
def NumsB (o : Option (List Int)) (w : World) (e : Ending) (w' : World) : Prop :=
  Below w.heap.size w w' ∧ ((o = none ∧ e = .returned (.tuple #[.slice none 0 0, .bool false])) ∨ ∃ (l : List Int) (a : Option Addr) (c : Nat), o = some l ∧ e = .returned (.tuple #[.slice a l.length c, .bool true]) ∧ Ints w' a l ∧ (l.length : Int) ≤ 9223372036854775807)
theorem growni_new {W w3 w4 : World} {B : Nat} {t : TypeId} {v : Value} {l : List Int} (hb : Below B W w3) (ho : OwnI w3 t B v l) (hB : B ≤ w3.heap.size) (hg : w3.grownBy w4 v.ownBlock) : Below B W w4 :=
  hb.grown hg hB (fun k hk => (ho.new hk).1)

set_option maxRecDepth 100000 in
set_option maxHeartbeats 4000000 in
theorem rnumbers_any (s : ByteArray) (hs : s.size ≤ 900000) (most : Int) (w : World) : Calls Tryd.prog 19 #[.string s, .int .i64 most] w (NumsB (numsOf s most) w) := by
  have hz := zeroNumb
  go_enter Tryd.func19, Tryd.ntmps19
  go_wp2_with fail
  go_loopw [6, 7, 8] (fun v f u wr => ∃ (i m g : Nat) (a' : Option Addr) (cp' : Nat) (l : List Int), i ≤ s.size + 1 ∧ m ≤ i ∧ g ≤ i ∧ u = .int .i64 i ∧ f = .int .i64 g ∧ v = .slice a' m cp' ∧ Hid (l.length = m) ∧ Hid (nsrun s most i = some (l, g)) ∧ Hid (Below w.heap.size w wr) ∧ Hid (OwnI wr 2 w.heap.size (.slice a' m cp') l)) (fun _ _ u _ => (s.size + 1 - intOf u).toNat)
  case atStart => exact ⟨0, 0, 0, _, _, [], by omega, by omega, by omega, rfl, rfl, rfl, rfl, rfl, Below.refl _ _, OwnI.nil _ _ _⟩
  case round =>
    obtain ⟨i, m, g, a', cp', l, hi, hm, hg, rfl, rfl, rfl, HL, HS, HB, HP⟩ := hrel
    by_cases hlt : i ≤ s.size
    · have hk1 : (i : Int) ≤ (s.size : Int) := by omega
      have hk0 : (0 : Int) ≤ (i : Int) := by omega
      have hg0 : (0 : Int) ≤ (g : Int) := by omega
      have hgi : (g : Int) ≤ (i : Int) := by omega
      by_cases hskip : i < s.size ∧ byteAt s i ≠ 44
      · have hin := hskip.1
        have hb := (byteAt_in s hin).2
        have h2 : (i : Int) < (s.size : Int) := by omega
        have d0 : ((s[i].toNat : Int) == 44) = false := by rw [beq_eq_false_iff_ne]; have := hskip.2; omega
        have d1 : ((s[i].toNat : Int) != 44) = true := by rw [bne, d0]; rfl
        have HS2 : Hid (nsrun s most (i + 1) = some (l, g)) := by
          show _ = _; rw [nsrun, HS.out]; simp only []; rw [if_pos hskip]
        clear hb hskip HS
        go_wp2_with fail
        go_roundw
        case rel => exact ⟨i + 1, m, g, a', cp', l, by omega, by omega, by omega, by go_num, rfl, rfl, HL, HS2, HB, HP⟩
        case measure => simp [intOf]; omega
      · have HSK : Hid (nsrun s most (i + 1) = match numOf (s.extract g i) most with
            | none => none
            | some n => some (l ++ [(n : Int)], i + 1)) := by
          show _ = _; rw [nsrun, HS.out]; simp only []; rw [if_neg hskip]
        have hxs : (s.extract g i).size ≤ s.size := by rw [ByteArray.size_extract]; omega
        have CN : Hid (∀ v, Calls Tryd.prog 17 #[.string (s.extract g i), .int .i64 most] v (NumB (numOf (s.extract g i) most) v)) := fun v => rnumber_any _ (by omega) most v
        obtain ⟨o, ho⟩ : ∃ o, numOf (s.extract g i) most = o := ⟨_, rfl⟩
        have HSK2 := Lib.hid (ho ▸ HSK.out)
        rw [ho] at CN
        go_upto_region 6 with fail
        go_cut [25] from 16 to 25 (fun u wx => u = .bool false ∧ Hid (Below w.heap.size w wx) ∧ Hid (OwnI wx 2 w.heap.size (.slice a' m cp') l))
        case first =>
          by_cases hin : i < s.size
          · have hb := (byteAt_in s hin).2
            have h2 : (i : Int) < (s.size : Int) := by omega
            have h44 : byteAt s i = 44 := Decidable.byContradiction fun q => hskip ⟨hin, q⟩
            have d0 : ((s[i].toNat : Int) == 44) = true := by rw [beq_iff_eq]; omega
            have d1 : ((s[i].toNat : Int) != 44) = false := by rw [bne, d0]; rfl
            clear hb h44 hskip
            go_wp2_with fail
            go_meet
            exact ⟨rfl, HB, HP⟩
          · have h2 : ¬ (i : Int) < (s.size : Int) := by omega
            clear hskip
            go_wp2_with fail
            go_meet
            exact ⟨rfl, HB, HP⟩
        case rest =>
          clear HB HP hskip
          obtain ⟨rfl, HB, HP⟩ := hcut
          cases o with
          | none =>
            have HNO : Hid (numsOf s most = none) := by
              show _ = _; unfold numsOf
              rw [nsrun_none s most (i := i + 1) HSK2.out (s.size + 1) (by omega)]; rfl
            clear ho
            go_wp2_with (go_at_call 17; (with_reducible refine (CN.out _).mono ?_); rintro e w5 ⟨rfl, b5⟩; have B5 := Lib.hid (below_up HB.out b5); clear b5)
            go_ret2
            exact ⟨below_up B5.out (by repeat (first | exact Below.refl _ _ | (with_reducible assumption) | refine bw_alloc ?_ _ | refine bw_drew ?_)), .inl ⟨HNO.out, rfl⟩⟩
          | some x =>
            have HSM : Hid (((l.length : Int) + ((1 : Nat) : Int)) ≤ 17592186044416) := by show _ ≤ _; rw [HL.out]; omega
            have HNN : Hid (l.length + 1 = m + 1) := by show _ = _; rw [HL.out]
            have HL2 : Hid ((l ++ [(x : Int)]).length = m + 1) := by show _ = _; rw [List.length_append, HL.out]; rfl
            have hwi : IntKind.i64.wrap ((i : Int) + 1) = (i : Int) + 1 := IntWalk.i64_in _ (by omega)
            clear ho
            go_upto_region 8 with (go_at_call 17; (with_reducible refine (CN.out _).mono ?_); rintro e w5 ⟨rfl, b5⟩; have B5 := Lib.hid b5; clear b5)
            refine gen_world (fun v => Below wc.heap.size wc v ∧ v.cell? ⟨w5.heap.size, 0, none⟩ = some (.int .i64 ((x : Nat) : Int)) ∧ v.cell? ⟨w5.heap.size, 1, none⟩ = some (.bool true)) ⟨below_up B5.out (by repeat (first | exact Below.refl _ _ | (with_reducible assumption) | refine bw_alloc ?_ _ | refine bw_drew ?_)), by rw [World.cell?_alloc_new]; rfl, by rw [World.cell?_alloc_new]; rfl⟩ ?_
            intro V ⟨hv, c0, c1⟩
            have HBV := Lib.hid (below_up HB.out hv)
            have HPV := Lib.hid (HP.out.below hv)
            clear hv HB HP B5
            generalize w5.heap.size = gb at *
            go_wp2_with (at_builtin; refine wp_ints (m := 1) (l := [(x : Int)]) numL rfl _ _ rfl rfl rfl (HPV.out.below (by repeat (first | exact Below.refl _ _ | (with_reducible assumption) | refine bw_alloc ?_ _ | refine bw_drew ?_))) (Nat.le_trans HBV.out.size ((by repeat (first | exact Below.refl _ _ | (with_reducible assumption) | refine bw_alloc ?_ _ | refine bw_drew ?_)) : Below V.heap.size V _).size) (ints_new _ _ _) rfl HSM.out (fun z => by cases z) (m + 1) HNN.out ?_; intro a3 k3 w3 o3 g3 l3; have HN3 := Lib.hid o3; have HB3 := Lib.hid (growni_new (below_up HBV.out ((by repeat (first | exact Below.refl _ _ | (with_reducible assumption) | refine bw_alloc ?_ _ | refine bw_drew ?_)) : Below V.heap.size V _)) (HPV.out.below ((by repeat (first | exact Below.refl _ _ | (with_reducible assumption) | refine bw_alloc ?_ _ | refine bw_drew ?_)) : Below V.heap.size V _)) (Nat.le_trans HBV.out.size ((by repeat (first | exact Below.refl _ _ | (with_reducible assumption) | refine bw_alloc ?_ _ | refine bw_drew ?_)) : Below V.heap.size V _).size) g3); clear o3 g3 l3)
            go_roundw
            case rel => exact ⟨i + 1, m + 1, i + 1, a3, k3, l ++ [(x : Int)], by omega, by omega, by omega, by go_num, by go_num, rfl, HL2, HSK2, HB3, HN3⟩
            case measure => simp [intOf]; omega
    · have hiz : i = s.size + 1 := by omega
      have HNO : Hid (numsOf s most = some l) := by
        show _ = _; unfold numsOf
        rw [← hiz, HS.out]; rfl
      have hk1 : ¬ (i : Int) ≤ (s.size : Int) := by omega
      obtain ⟨a5, c5, e5, i5, l5, m5⟩ := HP.out.slice
      have HI : Hid (a' = a5 ∧ Ints wr a5 l) := by
        simp only [Value.slice.injEq] at e5
        exact ⟨e5.1, i5⟩
      clear hiz e5 i5
      go_wp2_with fail
      go_ret2
      exact ⟨HB.out, .inr ⟨l, a', cp', HNO.out, by rw [HL.out]; rfl, by rw [HI.out.1]; exact HI.out.2, by omega⟩⟩
end Go.Proofs.YtbipjilpogbicaaDoor
