/-
  The walks over numbers of a text.
-/
import Derived.Test.YtbipjilpogbicaaDoorLW2
namespace Go.Proofs.YtbipjilpogbicaaDoor
open Go.RowKit Go.Maps

/-- The number that the first bytes are, if they are digits, and it is not too great. -/
def nrun (s : ByteArray) : Nat → Option Nat
  | 0 => some 0
  | i + 1 => match nrun s i with
    | none => none
    | some n => if byteAt s i < 48 ∨ 57 < byteAt s i ∨ (9223372036854775807 - (byteAt s i - 48)) / 10 < n then none else some (10 * n + (byteAt s i - 48))
def numOf (s : ByteArray) (most : Int) : Option Nat :=
  if s.size = 0 ∨ (1 < s.size ∧ byteAt s 0 = 48) then none else match nrun s s.size with
    | none => none
    | some n => if most < (n : Int) then none else some n
theorem nrun_small (s : ByteArray) : ∀ i n, nrun s i = some n → n ≤ 9223372036854775807
  | 0, n, h => by simp [nrun] at h; omega
  | i + 1, n, h => by
    rw [nrun] at h
    split at h
    · cases h
    · rename_i m _
      split at h
      · cases h
      · rename_i q
        simp only [not_or, Nat.not_lt] at q
        cases h
        omega
theorem nrun_none (s : ByteArray) {i : Nat} (h : nrun s i = none) : ∀ j, i ≤ j → nrun s j = none := by
  intro j hj
  induction j with
  | zero => have : i = 0 := by omega
            subst this; exact h
  | succ j ih =>
    rcases Nat.lt_or_ge j i with q | q
    · have : i = j + 1 := by omega
      subst this; exact h
    · rw [nrun, ih q]
theorem zeroNumb (w : World) : (zeroValue 34).run Tryd.prog w = .ok (.agg #[.int .i64 0, .bool false]) w := by kernel_rfl
/-- A number that comes back. -/
def NumB (o : Option Nat) (w : World) (e : Ending) (w' : World) : Prop :=
  e = .returned (.agg #[.int .i64 ((o.getD 0 : Nat) : Int), .bool o.isSome]) ∧ Below w.heap.size w w'
theorem loop_len (s : ByteArray) : ∀ (k i : Nat) (r : List UInt8), s.size - i = k → (ByteArray.toList.loop s i r).length = r.length + k
  | 0, i, r, h => by
    rw [ByteArray.toList.loop, if_neg (by omega)]; simp
  | k + 1, i, r, h => by
    rw [ByteArray.toList.loop, if_pos (by omega), loop_len s k (i + 1) _ (by omega)]
    simp only [List.length_cons]; omega
theorem nonempty (s : ByteArray) (h : ¬ s.size = 0) : s.toList.isEmpty = false := by
  have := loop_len s s.size 0 [] (by omega)
  cases e : s.toList with
  | nil =>
    have e2 : (ByteArray.toList.loop s 0 []).length = 0 := by
      show s.toList.length = 0
      rw [e]; rfl
    simp at this; omega
  | cons _ _ => rfl

set_option maxRecDepth 100000 in
set_option maxHeartbeats 4000000 in
theorem rnumber_any (s : ByteArray) (hs : (s.size : Int) ≤ 9223372036854775807) (most : Int) (w : World) : Calls Tryd.prog 17 #[.string s, .int .i64 most] w (NumB (numOf s most) w) := by
  have hz := zeroNumb
  by_cases h0 : s.size = 0
  · have hn : numOf s most = none := by unfold numOf; rw [if_pos (.inl h0)]
    rw [hn]
    have he : s = ⟨#[]⟩ := by
      obtain ⟨d⟩ := s
      have : d.size = 0 := h0
      rw [Array.eq_empty_of_size_eq_zero this]
    subst he
    clear hn h0
    go_enter Tryd.func17, Tryd.ntmps17
    go_wp2_with fail
    exact bodyPost_ret (v := .agg #[.int .i64 0, .bool false]) (by simp [results, Tryd.results17, go_sem]) rfl ⟨rfl, (by repeat (first | exact Below.refl _ _ | (with_reducible assumption) | refine bw_alloc ?_ _ | refine bw_drew ?_ | refine Below.setCell ?_ (by simp) _ | refine Below.setCell ?_ (by simp; omega) _))⟩
  · have hes := nonempty s h0
    have hp : 0 < s.size := by omega
    have h00 := (byteAt_in s hp).2
    by_cases hz0 : 1 < s.size ∧ byteAt s 0 = 48
    · have hn : numOf s most = none := by unfold numOf; rw [if_pos (.inr hz0)]
      rw [hn]
      have h1 : (1 : Int) < (s.size : Int) := by omega
      have h2 : 1 < s.size := hz0.1
      have d1 : ((s[0].toNat : Int) == 48) = true := by rw [beq_iff_eq]; omega
      clear hn hz0 h0 h00
      go_enter Tryd.func17, Tryd.ntmps17
      go_wp2_with fail
      exact bodyPost_ret (v := .agg #[.int .i64 0, .bool false]) (by simp [results, Tryd.results17, go_sem]) rfl ⟨rfl, (by repeat (first | exact Below.refl _ _ | (with_reducible assumption) | refine bw_alloc ?_ _ | refine bw_drew ?_ | refine Below.setCell ?_ (by simp) _ | refine Below.setCell ?_ (by simp; omega) _))⟩
    · have hn : numOf s most = match nrun s s.size with
        | none => none
        | some n => if most < (n : Int) then none else some n := by unfold numOf; rw [if_neg (by rintro (q | q); exact h0 q; exact hz0 q)]
      have HN := Lib.hid hn
      clear hn
      have hor : (1 < s.size ∧ ¬ s[0].toNat = 48) ∨ ¬ 1 < s.size := by omega
      rcases hor with ⟨h2, h3⟩ | h2
      all_goals
        first
          | (have d1 : ((s[0].toNat : Int) == 48) = false := by rw [beq_eq_false_iff_ne]; omega)
          | skip
        clear hz0 h0 h00
        go_enter Tryd.func17, Tryd.ntmps17
        go_upto_region 3 with fail
        clear hes
        refine gen_world (fun v => Below w.heap.size w v ∧ v.heap[w.heap.size]? = some (.cells #[.int .i64 0, .bool false] 34 (0, 0))) ⟨(by repeat (first | exact Below.refl _ _ | (with_reducible assumption) | refine bw_alloc ?_ _ | refine bw_drew ?_)), heap_alloc_new w _⟩ ?_
        intro W1 ⟨hl1, hb1⟩
        have HL := Lib.hid hl1
        have r0 : W1.cell? ⟨w.heap.size, 0, none⟩ = some (.int .i64 0) := by rw [blk_cell hb1]; rfl
        have r1 : W1.cell? ⟨w.heap.size, 1, none⟩ = some (.bool false) := by rw [blk_cell hb1]; rfl
        have f0 := blk_free hb1 0
        have f1 := blk_free hb1 1
        have hr := lt_of_block hb1
        have HD : Hid (∀ (x0 x1 : Value), Below w.heap.size w ((W1.setCell ⟨w.heap.size, 0, none⟩ x0).setCell ⟨w.heap.size, 1, none⟩ x1)) := fun x0 x1 => (hl1.setCell (p := ⟨w.heap.size, 0, none⟩) (Nat.le_refl _) _).setCell (p := ⟨w.heap.size, 1, none⟩) (Nat.le_refl _) _
        clear hl1 hb1
        go_wp2_with fail
        go_loop [5, 6] (fun v u => ∃ (i n : Nat), i ≤ s.size ∧ u = .int .i64 i ∧ v = .int .i64 n ∧ n ≤ 9223372036854775807 ∧ Hid (nrun s i = some n)) (fun _ u => (s.size - intOf u).toNat)
        case atStart => exact ⟨0, 0, by omega, rfl, rfl, by omega, rfl⟩
        case round =>
          obtain ⟨i, n, hi, rfl, rfl, hn9, HS⟩ := hrel
          by_cases hlt : i < s.size
          · have hk1 : (i : Int) < (s.size : Int) := by omega
            have hk0 : (0 : Int) ≤ (i : Int) := by omega
            obtain ⟨c, hc⟩ : ∃ c, s[i].toNat = c := ⟨_, rfl⟩
            have hbc : byteAt s i = c := by rw [(byteAt_in s hlt).2]; exact hc
            have HC := Lib.hid hc
            by_cases hbad : c < 48 ∨ 57 < c
            · have HNO : Hid (numOf s most = none) := by
                have h1 : nrun s (i + 1) = none := by
                  rw [nrun, HS.out]; simp only []
                  rw [if_pos (by rw [hbc]; omega)]
                show _ = _
                rw [HN.out, nrun_none s h1 s.size (by omega)]
              rcases (show c < 48 ∨ (¬ c < 48 ∧ 57 < c) by omega) with q1 | ⟨q1, q2⟩
              · have e1 : (s[i].toNat : Int) < 48 := by rw [hc]; omega
                have e2 : s[i].toNat < 48 := by omega
                clear hc hbc hbad HS
                go_wp2_with fail
                exact bodyPost_ret (v := .agg #[.int .i64 0, .bool false]) (by simp [results, Tryd.results17, go_sem, r0, r1]) rfl ⟨by rw [HNO.out]; rfl, HD.out _ _⟩
              · have e1 : ¬ (s[i].toNat : Int) < 48 := by rw [hc]; omega
                have e2 : ¬ s[i].toNat < 48 := by omega
                have e3 : (57 : Int) < (s[i].toNat : Int) := by rw [hc]; omega
                have e4 : 57 < s[i].toNat := by omega
                clear hc hbc hbad HS
                go_wp2_with fail
                exact bodyPost_ret (v := .agg #[.int .i64 0, .bool false]) (by simp [results, Tryd.results17, go_sem, r0, r1]) rfl ⟨by rw [HNO.out]; rfl, HD.out _ _⟩
            · have e1 : ¬ (s[i].toNat : Int) < 48 := by rw [hc]; omega
              have e2 : ¬ s[i].toNat < 48 := by omega
              have e3 : ¬ (57 : Int) < (s[i].toNat : Int) := by rw [hc]; omega
              have e4 : ¬ 57 < s[i].toNat := by omega
              obtain ⟨d, hd⟩ : ∃ d : Nat, c - 48 = d := ⟨_, rfl⟩
              have w1 : IntKind.u8.wrap ((s[i].toNat : Int) - 48) = (d : Int) := by rw [hc, IntKind.wrap_u8]; omega
              have w2 : IntKind.i64.wrap (d : Int) = (d : Int) := IntWalk.i64_in _ (by omega)
              have w3 : IntKind.i64.wrap (9223372036854775807 - (d : Int)) = 9223372036854775807 - (d : Int) := IntWalk.i64_in _ (by omega)
              obtain ⟨k, hk⟩ : ∃ k : Nat, (9223372036854775807 - d) / 10 = k := ⟨_, rfl⟩
              have w4 : (9223372036854775807 - (d : Int)).tdiv 10 = (k : Int) := by rw [Int.tdiv_eq_ediv_of_nonneg (by omega)]; omega
              have w5 : IntKind.i64.wrap (k : Int) = (k : Int) := IntWalk.i64_in _ (by omega)
              by_cases hbig : k < n
              · have HNO : Hid (numOf s most = none) := by
                  have h1 : nrun s (i + 1) = none := by
                    rw [nrun, HS.out]; simp only []
                    rw [if_pos (by rw [hbc, hd, hk]; omega)]
                  show _ = _
                  rw [HN.out, nrun_none s h1 s.size (by omega)]
                have e5 : (k : Int) < (n : Int) := by omega
                clear hc hbc hbad HS hd hk
                go_wp2_with fail
                exact bodyPost_ret (v := .agg #[.int .i64 0, .bool false]) (by simp [results, Tryd.results17, go_sem, r0, r1]) rfl ⟨by rw [HNO.out]; rfl, HD.out _ _⟩
              · have e5 : ¬ (k : Int) < (n : Int) := by omega
                have HS2 : Hid (nrun s (i + 1) = some (10 * n + d)) := by
                  show _ = _
                  rw [nrun, HS.out]; simp only []
                  rw [if_neg (by rw [hbc, hd, hk]; omega), hbc, hd]
                have hb9 : 10 * n + d ≤ 9223372036854775807 := by omega
                have w6 : IntKind.i64.wrap (10 * (n : Int)) = 10 * (n : Int) := IntWalk.i64_in _ (by omega)
                have w7 : IntKind.i64.wrap (10 * (n : Int) + (d : Int)) = ((10 * n + d : Nat) : Int) := (IntWalk.i64_in _ (by omega)).trans (by omega)
                clear hc hbc hbad HS hd hk
                go_wp2_with fail
                go_round
                case rel => exact ⟨i + 1, 10 * n + d, by omega, by go_num, by go_num, hb9, HS2⟩
                case measure => simp [intOf]; omega
          · have hiz : i = s.size := by omega
            have hk1 : ¬ (i : Int) < (s.size : Int) := by omega
            have hns : nrun s s.size = some n := by rw [← hiz]; exact HS.out
            by_cases hm : most < (n : Int)
            · have HNO : Hid (numOf s most = none) := by
                show _ = _
                rw [HN.out, hns]; simp only []; rw [if_pos hm]
              clear hiz hns HS
              go_wp2_with fail
              exact bodyPost_ret (v := .agg #[.int .i64 0, .bool false]) (by simp [results, Tryd.results17, go_sem, r0, r1]) rfl ⟨by rw [HNO.out]; rfl, HD.out _ _⟩
            · have HNO : Hid (numOf s most = some n) := by
                show _ = _
                rw [HN.out, hns]; simp only []; rw [if_neg hm]
              clear hiz hns HS
              go_wp2_with fail
              exact bodyPost_ret (v := .agg #[.int .i64 n, .bool true]) (by simp [results, Tryd.results17, go_sem, r0, r1]) rfl ⟨by rw [HNO.out]; rfl, HD.out _ _⟩
end Go.Proofs.YtbipjilpogbicaaDoor
