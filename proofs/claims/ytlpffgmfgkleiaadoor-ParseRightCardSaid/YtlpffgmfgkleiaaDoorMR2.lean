/- Texts of this claim, put together: LW2, LW3, LW4, KW1, KW6, KW7, KW11, KW8, KW5. -/
import Derived.Test.YtlpffgmfgkleiaaDoorMR1

/-
  The walks over texts that are cut, and over pairs.
-/
namespace Go.Proofs.YtlpffgmfgkleiaaDoor
open Go.RowKit Go.Maps

def shortOf (s : ByteArray) (n : Nat) : ByteArray := if n < s.size then s.extract 0 n else s
set_option maxHeartbeats 1000000 in
theorem short_any (s : ByteArray) (n : Nat) (hn : (n : Int) ≤ 1000000) (w : World) : Calls Tryd.prog 9 #[.string s, .int .i64 n] w fun e w' => e = .returned (.string (shortOf s n)) ∧ w = w' := by
  unfold shortOf
  by_cases h : n < s.size
  · rw [if_pos h]
    have h1 : (n : Int) < (s.size : Int) := by omega
    have h2 : (n : Int) ≤ (s.size : Int) := by omega
    go_enter Tryd.func9, Tryd.ntmps9
    go_wp2
    go_ret
    exact ⟨rfl, rfl⟩
  · rw [if_neg h]
    have h1 : ¬ (n : Int) < (s.size : Int) := by omega
    go_enter Tryd.func9, Tryd.ntmps9
    go_wp2
    go_ret
    exact ⟨rfl, rfl⟩

/-- The first place of a byte. -/
def FirstByte (s : ByteArray) (c : Nat) (i : Nat) : Prop := i < s.size ∧ byteAt s i = c ∧ ∀ j, j < i → byteAt s j ≠ c
def NoByte (s : ByteArray) (c : Nat) : Prop := ∀ j, j < s.size → byteAt s j ≠ c
/-- A text without a line's end. -/
def LineIs (s t : ByteArray) : Prop := (NoByte s 10 ∧ t = s) ∨ ∃ i, FirstByte s 10 i ∧ t = s.extract 0 i
theorem zeroTwo (w : World) : (zeroValue 103).run Tryd.prog w = .ok (.agg #[.string ⟨#[]⟩, .string ⟨#[]⟩, .bool false]) w := by kernel_rfl
/-- What a pair is made of. -/
def PairIs (s : ByteArray) (x y : ByteArray) (b : Bool) : Prop :=
  (NoByte s 61 ∧ x = ⟨#[]⟩ ∧ y = ⟨#[]⟩ ∧ b = false) ∨ ∃ i, FirstByte s 61 i ∧ x = s.extract 0 i ∧ y = s.extract (i + 1) s.size ∧ b = true
def PairBack (s : ByteArray) (w : World) (e : Ending) (w' : World) : Prop := ∃ x y b, e = .returned (.agg #[.string x, .string y, .bool b]) ∧ PairIs s x y b ∧ Below w.heap.size w w'
set_option maxRecDepth 100000 in
set_option maxHeartbeats 2000000 in
theorem rpair_any (s : ByteArray) (hs : (s.size : Int) ≤ 9223372036854775807) (w : World) : Calls Tryd.prog 67 #[.string s] w (PairBack s w) := by
  have hz := zeroTwo
  go_enter Tryd.func67, Tryd.ntmps67
  go_upto_region 1 with fail
  refine gen_world (fun v => Below w.heap.size w v ∧ v.heap[w.heap.size]? = some (.cells #[.string ⟨#[]⟩, .string ⟨#[]⟩, .bool false] 103 (0, 0))) ⟨(by repeat (first | exact Below.refl _ _ | (with_reducible assumption) | refine bw_alloc ?_ _ | refine bw_drew ?_)), heap_alloc_new w _⟩ ?_
  intro W1 ⟨hl1, hb1⟩
  have HL := Lib.hid hl1
  have r0 : W1.cell? ⟨w.heap.size, 0, none⟩ = some (.string ⟨#[]⟩) := by rw [blk_cell hb1]; rfl
  have r1 : W1.cell? ⟨w.heap.size, 1, none⟩ = some (.string ⟨#[]⟩) := by rw [blk_cell hb1]; rfl
  have r2 : W1.cell? ⟨w.heap.size, 2, none⟩ = some (.bool false) := by rw [blk_cell hb1]; rfl
  have f0 := blk_free hb1 0
  have f1 := blk_free hb1 1
  have f2 := blk_free hb1 2
  have hr := lt_of_block hb1
  clear hl1 hb1
  go_wp2_with fail
  go_loop [3] (fun u => ∃ i : Nat, i ≤ s.size ∧ u = .int .i64 i ∧ Hid (∀ j, j < i → byteAt s j ≠ 61)) (fun u => (s.size - intOf u).toNat)
  case atStart => exact ⟨0, by omega, rfl, fun j hj => absurd hj (Nat.not_lt_zero _)⟩
  case round =>
    obtain ⟨i, hi, rfl, HS⟩ := hrel
    by_cases hlt : i < s.size
    · have hk1 : (i : Int) < (s.size : Int) := by omega
      have hk2 : (i : Int) ≤ (s.size : Int) := by omega
      have hk0 : (0 : Int) ≤ (i : Int) := by omega
      have hb := (byteAt_in s hlt).2
      by_cases hq : s[i].toNat = 61
      · have d1 : ((s[i].toNat : Int) == 61) = true := by rw [beq_iff_eq]; omega
        have HF : Hid (FirstByte s 61 i) := ⟨hlt, by rw [hb]; exact hq, HS.out⟩
        have hk3 : (i : Int) + 1 ≤ (s.size : Int) := by omega
        have hk4 : (0 : Int) ≤ (i : Int) + 1 := by omega
        clear hb hq
        have HD : Hid (∀ v, Below w.heap.size w v → PairBack s w (.returned (.agg #[.string (s.extract 0 i), .string (s.extract (i + 1) s.size), .bool true])) v) := fun v hv => ⟨_, _, _, rfl, .inr ⟨i, HF.out, rfl, rfl, rfl⟩, hv⟩
        have hwi : IntKind.i64.wrap ((i : Int) + 1) = ((i + 1 : Nat) : Int) := (IntWalk.i64_in _ (by omega)).trans (by omega)
        have hk5 : ((i + 1 : Nat) : Int) ≤ (s.size : Int) := by omega
        have hk6 : (0 : Int) ≤ ((i + 1 : Nat) : Int) := by omega
        clear hk3 hk4 HS
        go_upto_region 5 with fail
        go_region
        all_goals
          go_wp2_with fail
          exact bodyPost_ret (v := .agg #[.string (s.extract 0 i), .string (s.extract (i + 1) s.size), .bool true]) (by simp [results, Tryd.results67, go_sem, r0, r1, r2]) rfl (HD.out _ (((HL.out.drew.setCell (p := ⟨w.heap.size, 0, none⟩) (Nat.le_refl _) _).setCell (p := ⟨w.heap.size, 1, none⟩) (Nat.le_refl _) _).setCell (p := ⟨w.heap.size, 2, none⟩) (Nat.le_refl _) _))
      · have d1 : ((s[i].toNat : Int) == 61) = false := by rw [beq_eq_false_iff_ne]; omega
        have HS2 : Hid (∀ j, j < i + 1 → byteAt s j ≠ 61) := fun j hj => by
          rcases Nat.lt_or_ge j i with h | h
          · exact HS.out j h
          · have e : j = i := by omega
            subst e; rw [hb]; exact hq
        clear hb hq HS
        go_wp2_with fail
        go_round
        case rel => exact ⟨i + 1, by omega, by go_num, HS2⟩
        case measure => simp [intOf]; omega
    · have e : i = s.size := by omega
      have HN : Hid (NoByte s 61) := fun j hj => HS.out j (by omega)
      have hk1 : ¬ (i : Int) < (s.size : Int) := by omega
      clear e HS
      go_wp2_with fail
      exact bodyPost_ret (v := .agg #[.string ⟨#[]⟩, .string ⟨#[]⟩, .bool false]) (by simp [results, Tryd.results67, go_sem, r0, r1, r2]) rfl ⟨⟨#[]⟩, ⟨#[]⟩, false, rfl, .inl ⟨HN.out, rfl, rfl, rfl⟩, ((HL.out.setCell (p := ⟨w.heap.size, 0, none⟩) (Nat.le_refl _) _).setCell (p := ⟨w.heap.size, 1, none⟩) (Nat.le_refl _) _).setCell (p := ⟨w.heap.size, 2, none⟩) (Nat.le_refl _) _⟩
end Go.Proofs.YtlpffgmfgkleiaaDoor

/-
  The walks over numbers of a text.
-/
namespace Go.Proofs.YtlpffgmfgkleiaaDoor
open Go.RowKit Go.Maps

/-- The number that the first bytes are, if they are digits, and it is not too great. -/
def nrun (s : ByteArray) : Nat → Option Nat
  | 0 => some 0
  | i + 1 => match nrun s i with
    | none => none
    | some n => if byteAt s i < 48 ∨ 57 < byteAt s i ∨ (9223372036854775807 - (byteAt s i - 48)) / 10 < n then none else some (10 * n + (byteAt s i - 48))
def numOf (s : ByteArray) (most : Int) : Option Nat :=
  if s.size = 0 ∨ (1 < s.size ∧ byteAt s 0 = 48) then none else match nrun s s.size with
    | none => none
    | some n => if most < (n : Int) then none else some n
theorem nrun_small (s : ByteArray) : ∀ i n, nrun s i = some n → n ≤ 9223372036854775807
  | 0, n, h => by simp [nrun] at h; omega
  | i + 1, n, h => by
    rw [nrun] at h
    split at h
    · cases h
    · rename_i m _
      split at h
      · cases h
      · rename_i q
        simp only [not_or, Nat.not_lt] at q
        cases h
        omega
theorem nrun_none (s : ByteArray) {i : Nat} (h : nrun s i = none) : ∀ j, i ≤ j → nrun s j = none := by
  intro j hj
  induction j with
  | zero => have : i = 0 := by omega
            subst this; exact h
  | succ j ih =>
    rcases Nat.lt_or_ge j i with q | q
    · have : i = j + 1 := by omega
      subst this; exact h
    · rw [nrun, ih q]
theorem zeroNumb (w : World) : (zeroValue 70).run Tryd.prog w = .ok (.agg #[.int .i64 0, .bool false]) w := by kernel_rfl
/-- A number that comes back. -/
def NumB (o : Option Nat) (w : World) (e : Ending) (w' : World) : Prop :=
  e = .returned (.agg #[.int .i64 ((o.getD 0 : Nat) : Int), .bool o.isSome]) ∧ Below w.heap.size w w'
theorem loop_len (s : ByteArray) : ∀ (k i : Nat) (r : List UInt8), s.size - i = k → (ByteArray.toList.loop s i r).length = r.length + k
  | 0, i, r, h => by
    rw [ByteArray.toList.loop, if_neg (by omega)]; simp
  | k + 1, i, r, h => by
    rw [ByteArray.toList.loop, if_pos (by omega), loop_len s k (i + 1) _ (by omega)]
    simp only [List.length_cons]; omega
theorem nonempty (s : ByteArray) (h : ¬ s.size = 0) : s.toList.isEmpty = false := by
  have := loop_len s s.size 0 [] (by omega)
  cases e : s.toList with
  | nil =>
    have e2 : (ByteArray.toList.loop s 0 []).length = 0 := by
      show s.toList.length = 0
      rw [e]; rfl
    simp at this; omega
  | cons _ _ => rfl

set_option maxRecDepth 100000 in
set_option maxHeartbeats 4000000 in
theorem rnumber_any (s : ByteArray) (hs : (s.size : Int) ≤ 9223372036854775807) (most : Int) (w : World) : Calls Tryd.prog 24 #[.string s, .int .i64 most] w (NumB (numOf s most) w) := by
  have hz := zeroNumb
  by_cases h0 : s.size = 0
  · have hn : numOf s most = none := by unfold numOf; rw [if_pos (.inl h0)]
    rw [hn]
    have he : s = ⟨#[]⟩ := by
      obtain ⟨d⟩ := s
      have : d.size = 0 := h0
      rw [Array.eq_empty_of_size_eq_zero this]
    subst he
    clear hn h0
    go_enter Tryd.func24, Tryd.ntmps24
    go_wp2_with fail
    exact bodyPost_ret (v := .agg #[.int .i64 0, .bool false]) (by simp [results, Tryd.results24, go_sem]) rfl ⟨rfl, (by repeat (first | exact Below.refl _ _ | (with_reducible assumption) | refine bw_alloc ?_ _ | refine bw_drew ?_ | refine Below.setCell ?_ (by simp) _ | refine Below.setCell ?_ (by simp; omega) _))⟩
  · have hes := nonempty s h0
    have hp : 0 < s.size := by omega
    have h00 := (byteAt_in s hp).2
    by_cases hz0 : 1 < s.size ∧ byteAt s 0 = 48
    · have hn : numOf s most = none := by unfold numOf; rw [if_pos (.inr hz0)]
      rw [hn]
      have h1 : (1 : Int) < (s.size : Int) := by omega
      have h2 : 1 < s.size := hz0.1
      have d1 : ((s[0].toNat : Int) == 48) = true := by rw [beq_iff_eq]; omega
      clear hn hz0 h0 h00
      go_enter Tryd.func24, Tryd.ntmps24
      go_wp2_with fail
      exact bodyPost_ret (v := .agg #[.int .i64 0, .bool false]) (by simp [results, Tryd.results24, go_sem]) rfl ⟨rfl, (by repeat (first | exact Below.refl _ _ | (with_reducible assumption) | refine bw_alloc ?_ _ | refine bw_drew ?_ | refine Below.setCell ?_ (by simp) _ | refine Below.setCell ?_ (by simp; omega) _))⟩
    · have hn : numOf s most = match nrun s s.size with
        | none => none
        | some n => if most < (n : Int) then none else some n := by unfold numOf; rw [if_neg (by rintro (q | q); exact h0 q; exact hz0 q)]
      have HN := Lib.hid hn
      clear hn
      have hor : (1 < s.size ∧ ¬ s[0].toNat = 48) ∨ ¬ 1 < s.size := by omega
      rcases hor with ⟨h2, h3⟩ | h2
      all_goals
        first
          | (have d1 : ((s[0].toNat : Int) == 48) = false := by rw [beq_eq_false_iff_ne]; omega)
          | skip
        clear hz0 h0 h00
        go_enter Tryd.func24, Tryd.ntmps24
        go_upto_region 3 with fail
        clear hes
        refine gen_world (fun v => Below w.heap.size w v ∧ v.heap[w.heap.size]? = some (.cells #[.int .i64 0, .bool false] 70 (0, 0))) ⟨(by repeat (first | exact Below.refl _ _ | (with_reducible assumption) | refine bw_alloc ?_ _ | refine bw_drew ?_)), heap_alloc_new w _⟩ ?_
        intro W1 ⟨hl1, hb1⟩
        have HL := Lib.hid hl1
        have r0 : W1.cell? ⟨w.heap.size, 0, none⟩ = some (.int .i64 0) := by rw [blk_cell hb1]; rfl
        have r1 : W1.cell? ⟨w.heap.size, 1, none⟩ = some (.bool false) := by rw [blk_cell hb1]; rfl
        have f0 := blk_free hb1 0
        have f1 := blk_free hb1 1
        have hr := lt_of_block hb1
        have HD : Hid (∀ (x0 x1 : Value), Below w.heap.size w ((W1.setCell ⟨w.heap.size, 0, none⟩ x0).setCell ⟨w.heap.size, 1, none⟩ x1)) := fun x0 x1 => (hl1.setCell (p := ⟨w.heap.size, 0, none⟩) (Nat.le_refl _) _).setCell (p := ⟨w.heap.size, 1, none⟩) (Nat.le_refl _) _
        clear hl1 hb1
        go_wp2_with fail
        go_loop [5, 6] (fun v u => ∃ (i n : Nat), i ≤ s.size ∧ u = .int .i64 i ∧ v = .int .i64 n ∧ n ≤ 9223372036854775807 ∧ Hid (nrun s i = some n)) (fun _ u => (s.size - intOf u).toNat)
        case atStart => exact ⟨0, 0, by omega, rfl, rfl, by omega, rfl⟩
        case round =>
          obtain ⟨i, n, hi, rfl, rfl, hn9, HS⟩ := hrel
          by_cases hlt : i < s.size
          · have hk1 : (i : Int) < (s.size : Int) := by omega
            have hk0 : (0 : Int) ≤ (i : Int) := by omega
            obtain ⟨c, hc⟩ : ∃ c, s[i].toNat = c := ⟨_, rfl⟩
            have hbc : byteAt s i = c := by rw [(byteAt_in s hlt).2]; exact hc
            have HC := Lib.hid hc
            by_cases hbad : c < 48 ∨ 57 < c
            · have HNO : Hid (numOf s most = none) := by
                have h1 : nrun s (i + 1) = none := by
                  rw [nrun, HS.out]; simp only []
                  rw [if_pos (by rw [hbc]; omega)]
                show _ = _
                rw [HN.out, nrun_none s h1 s.size (by omega)]
              rcases (show c < 48 ∨ (¬ c < 48 ∧ 57 < c) by omega) with q1 | ⟨q1, q2⟩
              · have e1 : (s[i].toNat : Int) < 48 := by rw [hc]; omega
                have e2 : s[i].toNat < 48 := by omega
                clear hc hbc hbad HS
                go_wp2_with fail
                exact bodyPost_ret (v := .agg #[.int .i64 0, .bool false]) (by simp [results, Tryd.results24, go_sem, r0, r1]) rfl ⟨by rw [HNO.out]; rfl, HD.out _ _⟩
              · have e1 : ¬ (s[i].toNat : Int) < 48 := by rw [hc]; omega
                have e2 : ¬ s[i].toNat < 48 := by omega
                have e3 : (57 : Int) < (s[i].toNat : Int) := by rw [hc]; omega
                have e4 : 57 < s[i].toNat := by omega
                clear hc hbc hbad HS
                go_wp2_with fail
                exact bodyPost_ret (v := .agg #[.int .i64 0, .bool false]) (by simp [results, Tryd.results24, go_sem, r0, r1]) rfl ⟨by rw [HNO.out]; rfl, HD.out _ _⟩
            · have e1 : ¬ (s[i].toNat : Int) < 48 := by rw [hc]; omega
              have e2 : ¬ s[i].toNat < 48 := by omega
              have e3 : ¬ (57 : Int) < (s[i].toNat : Int) := by rw [hc]; omega
              have e4 : ¬ 57 < s[i].toNat := by omega
              obtain ⟨d, hd⟩ : ∃ d : Nat, c - 48 = d := ⟨_, rfl⟩
              have w1 : IntKind.u8.wrap ((s[i].toNat : Int) - 48) = (d : Int) := by rw [hc, IntKind.wrap_u8]; omega
              have w2 : IntKind.i64.wrap (d : Int) = (d : Int) := IntWalk.i64_in _ (by omega)
              have w3 : IntKind.i64.wrap (9223372036854775807 - (d : Int)) = 9223372036854775807 - (d : Int) := IntWalk.i64_in _ (by omega)
              obtain ⟨k, hk⟩ : ∃ k : Nat, (9223372036854775807 - d) / 10 = k := ⟨_, rfl⟩
              have w4 : (9223372036854775807 - (d : Int)).tdiv 10 = (k : Int) := by rw [Int.tdiv_eq_ediv_of_nonneg (by omega)]; omega
              have w5 : IntKind.i64.wrap (k : Int) = (k : Int) := IntWalk.i64_in _ (by omega)
              by_cases hbig : k < n
              · have HNO : Hid (numOf s most = none) := by
                  have h1 : nrun s (i + 1) = none := by
                    rw [nrun, HS.out]; simp only []
                    rw [if_pos (by rw [hbc, hd, hk]; omega)]
                  show _ = _
                  rw [HN.out, nrun_none s h1 s.size (by omega)]
                have e5 : (k : Int) < (n : Int) := by omega
                clear hc hbc hbad HS hd hk
                go_wp2_with fail
                exact bodyPost_ret (v := .agg #[.int .i64 0, .bool false]) (by simp [results, Tryd.results24, go_sem, r0, r1]) rfl ⟨by rw [HNO.out]; rfl, HD.out _ _⟩
              · have e5 : ¬ (k : Int) < (n : Int) := by omega
                have HS2 : Hid (nrun s (i + 1) = some (10 * n + d)) := by
                  show _ = _
                  rw [nrun, HS.out]; simp only []
                  rw [if_neg (by rw [hbc, hd, hk]; omega), hbc, hd]
                have hb9 : 10 * n + d ≤ 9223372036854775807 := by omega
                have w6 : IntKind.i64.wrap (10 * (n : Int)) = 10 * (n : Int) := IntWalk.i64_in _ (by omega)
                have w7 : IntKind.i64.wrap (10 * (n : Int) + (d : Int)) = ((10 * n + d : Nat) : Int) := (IntWalk.i64_in _ (by omega)).trans (by omega)
                clear hc hbc hbad HS hd hk
                go_wp2_with fail
                go_round
                case rel => exact ⟨i + 1, 10 * n + d, by omega, by go_num, by go_num, hb9, HS2⟩
                case measure => simp [intOf]; omega
          · have hiz : i = s.size := by omega
            have hk1 : ¬ (i : Int) < (s.size : Int) := by omega
            have hns : nrun s s.size = some n := by rw [← hiz]; exact HS.out
            by_cases hm : most < (n : Int)
            · have HNO : Hid (numOf s most = none) := by
                show _ = _
                rw [HN.out, hns]; simp only []; rw [if_pos hm]
              clear hiz hns HS
              go_wp2_with fail
              exact bodyPost_ret (v := .agg #[.int .i64 0, .bool false]) (by simp [results, Tryd.results24, go_sem, r0, r1]) rfl ⟨by rw [HNO.out]; rfl, HD.out _ _⟩
            · have HNO : Hid (numOf s most = some n) := by
                show _ = _
                rw [HN.out, hns]; simp only []; rw [if_neg hm]
              clear hiz hns HS
              go_wp2_with fail
              exact bodyPost_ret (v := .agg #[.int .i64 n, .bool true]) (by simp [results, Tryd.results24, go_sem, r0, r1]) rfl ⟨by rw [HNO.out]; rfl, HD.out _ _⟩
end Go.Proofs.YtlpffgmfgkleiaaDoor

/-
  The walk over rows of numbers of a text.
-/
namespace Go.Proofs.YtlpffgmfgkleiaaDoor
open Go.RowKit Go.Maps

/-- The numbers up to a place, and where the next one begins, if all were. -/
def nsrun (s : ByteArray) (most : Int) : Nat → Option (List Int × Nat)
  | 0 => some ([], 0)
  | i + 1 => match nsrun s most i with
    | none => none
    | some (l, f) => if i < s.size ∧ byteAt s i ≠ 44 then some (l, f) else match numOf (s.extract f i) most with
      | none => none
      | some n => some (l ++ [(n : Int)], i + 1)
def numsOf (s : ByteArray) (most : Int) : Option (List Int) := (nsrun s most (s.size + 1)).map (·.1)
theorem nsrun_none (s : ByteArray) (most : Int) {i : Nat} (h : nsrun s most i = none) : ∀ j, i ≤ j → nsrun s most j = none := by
  intro j hj
  induction j with
  | zero => have : i = 0 := by omega
            subst this; exact h
  | succ j ih =>
    rcases Nat.lt_or_ge j i with q | q
    · have : i = j + 1 := by omega
      subst this; exact h
    · rw [nsrun, ih q]
/-- A row of numbers that comes back, if it is one. -/
def NumsB (o : Option (List Int)) (w : World) (e : Ending) (w' : World) : Prop :=
  Below w.heap.size w w' ∧ ((o = none ∧ e = .returned (.tuple #[.slice none 0 0, .bool false])) ∨ ∃ (l : List Int) (a : Option Addr) (c : Nat), o = some l ∧ e = .returned (.tuple #[.slice a l.length c, .bool true]) ∧ Ints w' a l ∧ (l.length : Int) ≤ 9223372036854775807)
/-- As it comes back from the document's own: a row of its own. -/
def NumsO (o : Option (List Int)) (w : World) (e : Ending) (w' : World) : Prop :=
  Below w.heap.size w w' ∧ ((o = none ∧ e = .returned (.tuple #[.slice none 0 0, .bool false])) ∨ ∃ (l : List Int) (a : Option Addr) (c : Nat), o = some l ∧ e = .returned (.tuple #[.slice a l.length c, .bool true]) ∧ OwnI w' 2 w.heap.size (.slice a l.length c) l ∧ (l.length : Int) ≤ 9223372036854775807)
theorem growni_new {W w3 w4 : World} {B : Nat} {t : TypeId} {v : Value} {l : List Int} (hb : Below B W w3) (ho : OwnI w3 t B v l) (hB : B ≤ w3.heap.size) (hg : w3.grownBy w4 v.ownBlock) : Below B W w4 :=
  hb.grown hg hB (fun k hk => (ho.new hk).1)

set_option maxRecDepth 100000 in
set_option maxHeartbeats 4000000 in
theorem rnumbers_own (s : ByteArray) (hs : s.size ≤ 900000) (most : Int) (w : World) : Calls Tryd.prog 46 #[.string s, .int .i64 most] w (NumsO (numsOf s most) w) := by
  have hz := zeroNumb
  go_enter Tryd.func46, Tryd.ntmps46
  go_wp2_with fail
  go_loopw [6, 7, 8] (fun v f u wr => ∃ (i m g : Nat) (a' : Option Addr) (cp' : Nat) (l : List Int), i ≤ s.size + 1 ∧ m ≤ i ∧ g ≤ i ∧ u = .int .i64 i ∧ f = .int .i64 g ∧ v = .slice a' m cp' ∧ Hid (l.length = m) ∧ Hid (nsrun s most i = some (l, g)) ∧ Hid (Below w.heap.size w wr) ∧ Hid (OwnI wr 2 w.heap.size (.slice a' m cp') l)) (fun _ _ u _ => (s.size + 1 - intOf u).toNat)
  case atStart => exact ⟨0, 0, 0, _, _, [], by omega, by omega, by omega, rfl, rfl, rfl, rfl, rfl, Below.refl _ _, OwnI.nil _ _ _⟩
  case round =>
    obtain ⟨i, m, g, a', cp', l, hi, hm, hg, rfl, rfl, rfl, HL, HS, HB, HP⟩ := hrel
    by_cases hlt : i ≤ s.size
    · have hk1 : (i : Int) ≤ (s.size : Int) := by omega
      have hk0 : (0 : Int) ≤ (i : Int) := by omega
      have hg0 : (0 : Int) ≤ (g : Int) := by omega
      have hgi : (g : Int) ≤ (i : Int) := by omega
      by_cases hskip : i < s.size ∧ byteAt s i ≠ 44
      · have hin := hskip.1
        have hb := (byteAt_in s hin).2
        have h2 : (i : Int) < (s.size : Int) := by omega
        have d0 : ((s[i].toNat : Int) == 44) = false := by rw [beq_eq_false_iff_ne]; have := hskip.2; omega
        have d1 : ((s[i].toNat : Int) != 44) = true := by rw [bne, d0]; rfl
        have HS2 : Hid (nsrun s most (i + 1) = some (l, g)) := by
          show _ = _; rw [nsrun, HS.out]; simp only []; rw [if_pos hskip]
        clear hb hskip HS
        go_wp2_with fail
        go_roundw
        case rel => exact ⟨i + 1, m, g, a', cp', l, by omega, by omega, by omega, by go_num, rfl, rfl, HL, HS2, HB, HP⟩
        case measure => simp [intOf]; omega
      · have HSK : Hid (nsrun s most (i + 1) = match numOf (s.extract g i) most with
            | none => none
            | some n => some (l ++ [(n : Int)], i + 1)) := by
          show _ = _; rw [nsrun, HS.out]; simp only []; rw [if_neg hskip]
        have hxs : (s.extract g i).size ≤ s.size := by rw [ByteArray.size_extract]; omega
        have CN : Hid (∀ v, Calls Tryd.prog 24 #[.string (s.extract g i), .int .i64 most] v (NumB (numOf (s.extract g i) most) v)) := fun v => rnumber_any _ (by omega) most v
        obtain ⟨o, ho⟩ : ∃ o, numOf (s.extract g i) most = o := ⟨_, rfl⟩
        have HSK2 := Lib.hid (ho ▸ HSK.out)
        rw [ho] at CN
        go_upto_region 6 with fail
        go_cut [25] from 16 to 25 (fun u wx => u = .bool false ∧ Hid (Below w.heap.size w wx) ∧ Hid (OwnI wx 2 w.heap.size (.slice a' m cp') l))
        case first =>
          by_cases hin : i < s.size
          · have hb := (byteAt_in s hin).2
            have h2 : (i : Int) < (s.size : Int) := by omega
            have h44 : byteAt s i = 44 := Decidable.byContradiction fun q => hskip ⟨hin, q⟩
            have d0 : ((s[i].toNat : Int) == 44) = true := by rw [beq_iff_eq]; omega
            have d1 : ((s[i].toNat : Int) != 44) = false := by rw [bne, d0]; rfl
            clear hb h44 hskip
            go_wp2_with fail
            go_meet
            exact ⟨rfl, HB, HP⟩
          · have h2 : ¬ (i : Int) < (s.size : Int) := by omega
            clear hskip
            go_wp2_with fail
            go_meet
            exact ⟨rfl, HB, HP⟩
        case rest =>
          clear HB HP hskip
          obtain ⟨rfl, HB, HP⟩ := hcut
          cases o with
          | none =>
            have HNO : Hid (numsOf s most = none) := by
              show _ = _; unfold numsOf
              rw [nsrun_none s most (i := i + 1) HSK2.out (s.size + 1) (by omega)]; rfl
            clear ho
            go_wp2_with (go_at_call 24; (with_reducible refine (CN.out _).mono ?_); rintro e w5 ⟨rfl, b5⟩; have B5 := Lib.hid (below_up HB.out b5); clear b5)
            go_ret2
            exact ⟨below_up B5.out (by repeat (first | exact Below.refl _ _ | (with_reducible assumption) | refine bw_alloc ?_ _ | refine bw_drew ?_)), .inl ⟨HNO.out, rfl⟩⟩
          | some x =>
            have HSM : Hid (((l.length : Int) + ((1 : Nat) : Int)) ≤ 17592186044416) := by show _ ≤ _; rw [HL.out]; omega
            have HNN : Hid (l.length + 1 = m + 1) := by show _ = _; rw [HL.out]
            have HL2 : Hid ((l ++ [(x : Int)]).length = m + 1) := by show _ = _; rw [List.length_append, HL.out]; rfl
            have hwi : IntKind.i64.wrap ((i : Int) + 1) = (i : Int) + 1 := IntWalk.i64_in _ (by omega)
            clear ho
            go_upto_region 8 with (go_at_call 24; (with_reducible refine (CN.out _).mono ?_); rintro e w5 ⟨rfl, b5⟩; have B5 := Lib.hid b5; clear b5)
            refine gen_world (fun v => Below wc.heap.size wc v ∧ v.cell? ⟨w5.heap.size, 0, none⟩ = some (.int .i64 ((x : Nat) : Int)) ∧ v.cell? ⟨w5.heap.size, 1, none⟩ = some (.bool true)) ⟨below_up B5.out (by repeat (first | exact Below.refl _ _ | (with_reducible assumption) | refine bw_alloc ?_ _ | refine bw_drew ?_)), by rw [World.cell?_alloc_new]; rfl, by rw [World.cell?_alloc_new]; rfl⟩ ?_
            intro V ⟨hv, c0, c1⟩
            have HBV := Lib.hid (below_up HB.out hv)
            have HPV := Lib.hid (HP.out.below hv)
            clear hv HB HP B5
            generalize w5.heap.size = gb at *
            go_wp2_with (at_builtin; refine wp_ints (m := 1) (l := [(x : Int)]) numL rfl _ _ rfl rfl rfl (HPV.out.below (by repeat (first | exact Below.refl _ _ | (with_reducible assumption) | refine bw_alloc ?_ _ | refine bw_drew ?_))) (Nat.le_trans HBV.out.size ((by repeat (first | exact Below.refl _ _ | (with_reducible assumption) | refine bw_alloc ?_ _ | refine bw_drew ?_)) : Below V.heap.size V _).size) (ints_new _ _ _) rfl HSM.out (fun z => by cases z) (m + 1) HNN.out ?_; intro a3 k3 w3 o3 g3 l3; have HN3 := Lib.hid o3; have HB3 := Lib.hid (growni_new (below_up HBV.out ((by repeat (first | exact Below.refl _ _ | (with_reducible assumption) | refine bw_alloc ?_ _ | refine bw_drew ?_)) : Below V.heap.size V _)) (HPV.out.below ((by repeat (first | exact Below.refl _ _ | (with_reducible assumption) | refine bw_alloc ?_ _ | refine bw_drew ?_)) : Below V.heap.size V _)) (Nat.le_trans HBV.out.size ((by repeat (first | exact Below.refl _ _ | (with_reducible assumption) | refine bw_alloc ?_ _ | refine bw_drew ?_)) : Below V.heap.size V _).size) g3); clear o3 g3 l3)
            go_roundw
            case rel => exact ⟨i + 1, m + 1, i + 1, a3, k3, l ++ [(x : Int)], by omega, by omega, by omega, by go_num, by go_num, rfl, HL2, HSK2, HB3, HN3⟩
            case measure => simp [intOf]; omega
    · have hiz : i = s.size + 1 := by omega
      have HNO : Hid (numsOf s most = some l) := by
        show _ = _; unfold numsOf
        rw [← hiz, HS.out]; rfl
      have hk1 : ¬ (i : Int) ≤ (s.size : Int) := by omega
      clear hiz
      go_wp2_with fail
      go_ret2
      exact ⟨HB.out, .inr ⟨l, a', cp', HNO.out, by rw [HL.out]; rfl, by rw [HL.out]; exact HP.out, by rw [HL.out]; omega⟩⟩
theorem rnumbers_any (s : ByteArray) (hs : s.size ≤ 900000) (most : Int) (w : World) : Calls Tryd.prog 46 #[.string s, .int .i64 most] w (NumsB (numsOf s most) w) :=
  (rnumbers_own s hs most w).mono fun _ _ ⟨h1, h2⟩ => ⟨h1, h2.imp id fun ⟨l, a, c, q1, q2, q3, q4⟩ => by
    obtain ⟨a5, c5, e5, i5, -, -⟩ := q3.slice
    cases e5
    exact ⟨l, a, c, q1, q2, i5, q4⟩⟩
end Go.Proofs.YtlpffgmfgkleiaaDoor

/-
  The walks over bounds, and over sums that fill.
-/
namespace Go.Proofs.YtlpffgmfgkleiaaDoor
open Go.RowKit Go.Maps

set_option maxHeartbeats 400000 in
theorem within_yes (n l m : Int) (h1 : l ≤ n) (h2 : n ≤ m) (w : World) : Calls Tryd.prog 48 #[.int .i64 n, .int .i64 l, .int .i64 m] w fun e w' => e = .returned (.bool true) ∧ w = w' := by
  have d1 : decide (l ≤ n) = true := decide_eq_true h1
  have d2 : decide (n ≤ m) = true := decide_eq_true h2
  go_enter Tryd.func48, Tryd.ntmps48
  go_wp2
  go_ret
  exact ⟨rfl, rfl⟩
set_option maxHeartbeats 400000 in
theorem within_no (n l m : Int) (h : ¬ (l ≤ n ∧ n ≤ m)) (w : World) : Calls Tryd.prog 48 #[.int .i64 n, .int .i64 l, .int .i64 m] w fun e w' => e = .returned (.bool false) ∧ w = w' := by
  by_cases h1 : l ≤ n
  · have d1 : decide (l ≤ n) = true := decide_eq_true h1
    have h2 : ¬ n ≤ m := fun z => h ⟨h1, z⟩
    have d2 : decide (n ≤ m) = false := decide_eq_false h2
    clear h
    go_enter Tryd.func48, Tryd.ntmps48
    go_wp2
    go_ret
    exact ⟨rfl, rfl⟩
  · have d1 : decide (l ≤ n) = false := decide_eq_false h1
    clear h
    go_enter Tryd.func48, Tryd.ntmps48
    go_wp2
    go_ret
    exact ⟨rfl, rfl⟩
set_option maxHeartbeats 400000 in
theorem within64_yes (n l m : Int) (h1 : l ≤ n) (h2 : n ≤ m) (w : World) : Calls Tryd.prog 49 #[.int .i64 n, .int .i64 l, .int .i64 m] w fun e w' => e = .returned (.bool true) ∧ w = w' := by
  have d1 : decide (l ≤ n) = true := decide_eq_true h1
  have d2 : decide (n ≤ m) = true := decide_eq_true h2
  go_enter Tryd.func49, Tryd.ntmps49
  go_wp2
  go_ret
  exact ⟨rfl, rfl⟩
set_option maxHeartbeats 400000 in
theorem within64_no (n l m : Int) (h : ¬ (l ≤ n ∧ n ≤ m)) (w : World) : Calls Tryd.prog 49 #[.int .i64 n, .int .i64 l, .int .i64 m] w fun e w' => e = .returned (.bool false) ∧ w = w' := by
  by_cases h1 : l ≤ n
  · have d1 : decide (l ≤ n) = true := decide_eq_true h1
    have h2 : ¬ n ≤ m := fun z => h ⟨h1, z⟩
    have d2 : decide (n ≤ m) = false := decide_eq_false h2
    clear h
    go_enter Tryd.func49, Tryd.ntmps49
    go_wp2
    go_ret
    exact ⟨rfl, rfl⟩
  · have d1 : decide (l ≤ n) = false := decide_eq_false h1
    clear h
    go_enter Tryd.func49, Tryd.ntmps49
    go_wp2
    go_ret
    exact ⟨rfl, rfl⟩

/-- Whether numbers from 1 on fill c. -/
def fillB : List Int → Int → Bool
  | [], c => c == 0
  | x :: l, c => if 1 ≤ x ∧ x ≤ c then fillB l (c - x) else false

set_option maxRecDepth 100000 in
set_option maxHeartbeats 1000000 in
theorem fill_any (a : Option Addr) (n cap : Nat) (l : List Int) (hl : l.length = n) (hn : (n : Int) ≤ 9223372036854775807) (c : Int) (hc : c ≤ 9223372036854775807) (w : World) (h : Ints w a l) :
    Calls Tryd.prog 70 #[.slice a n cap, .int .i64 c] w fun e w' => e = .returned (.bool (fillB l c)) ∧ w = w' := by
  have H := Lib.hid h
  have HL := Lib.hid hl
  clear h hl
  go_enter Tryd.func70, Tryd.ntmps70
  go_wp2_with fail
  go_loop [1, 9] (fun u v => ∃ (k : Nat) (c' : Int), k ≤ n ∧ v = .int .i64 k ∧ u = .int .i64 c' ∧ c' ≤ 9223372036854775807 ∧ Hid (fillB (l.drop k) c' = fillB l c)) (fun _ v => (n - intOf v).toNat)
  case atStart => exact ⟨0, c, by omega, rfl, rfl, hc, by show _ = _; rw [List.drop_zero]⟩
  case round =>
    obtain ⟨k, c', hk, rfl, rfl, hc', HF⟩ := hrel
    by_cases hlt : k < n
    · obtain ⟨x, hx⟩ := nth_of HL.out hlt
      obtain ⟨g, o, rfl, c0⟩ := H.out.at_ hx
      have hd : Hid (l.drop k = x :: l.drop (k + 1)) := by
        obtain ⟨h2, h3⟩ := List.getElem?_eq_some_iff.1 hx
        show _ = _
        rw [List.drop_eq_getElem_cons h2, h3]
      clear hx
      have hk1 : (k : Int) < (n : Int) := by omega
      have hk0 : (0 : Int) ≤ (k : Int) := by omega
      by_cases hb : 1 ≤ x ∧ x ≤ c'
      · have CY := Lib.hid (fun w => within64_yes x 1 c' hb.1 hb.2 w)
        have HF2 : Hid (fillB (l.drop (k + 1)) (c' - x) = fillB l c) := by
          have := HF.out
          rw [hd.out, fillB, if_pos hb] at this
          exact this
        have hw : IntKind.i64.wrap (c' - x) = c' - x := IntWalk.i64_in _ (by omega)
        have hx2 : c' - x ≤ 9223372036854775807 := by omega
        clear HF hb
        go_wp2_with (go_at_call 49; (with_reducible refine (CY.out _).mono ?_); rintro e w3 ⟨rfl, rfl⟩)
        go_round
        case rel => exact ⟨k + 1, c' - x, by omega, by go_num, by first | rfl | (rw [hw]), hx2, HF2⟩
        case measure => simp [intOf]; omega
      · have CN := Lib.hid (fun w => within64_no x 1 c' hb w)
        have HF2 : Hid (false = fillB l c) := by
          have := HF.out
          rw [hd.out, fillB, if_neg hb] at this
          exact this
        clear HF hb
        go_wp2_with (go_at_call 49; (with_reducible refine (CN.out _).mono ?_); rintro e w3 ⟨rfl, rfl⟩)
        go_ret
        rw [← HF2.out]
        exact ⟨rfl, rfl⟩
    · obtain rfl : k = n := by omega
      have HF2 : Hid ((c' == 0) = fillB l c) := by
        have := HF.out
        rw [List.drop_of_length_le (by rw [HL.out]; exact Nat.le_refl _), fillB] at this
        exact this
      clear HF
      go_wp2_with fail
      go_ret
      rw [← HF2.out]
      exact ⟨rfl, rfl⟩

/-- Which one is less. -/
def cmpI (x y : Int) : Int := if x < y then -1 else if y < x then 1 else 0
/-- A number led into the room from 0 to below m. -/
def restI (n m : Int) : Int := n % m
set_option maxHeartbeats 1000000 in
theorem rest_any (n m : Int) (hm : 0 < m) (hm2 : m ≤ 1000000) (w : World) : Calls Tryd.prog 36 #[.int .i64 n, .int .i64 m] w fun e w' => e = .returned (.int .i64 (restI n m)) ∧ w = w' := by
  have a := Int.tmod_lt_of_pos n hm
  have b := Int.lt_tmod_of_pos n hm
  have e : restI n m = (n.tmod m + m) % m := by
    unfold restI
    rw [Int.add_emod_right]
    rw [Int.tmod_eq_emod]
    split
    · simp
    · simp [Int.sub_emod, Int.emod_emod_of_dvd]
      have : ((m.natAbs : Int)) = m := by omega
      simp [this]
  have d1 : (m == 0) = false := by rw [beq_eq_false_iff_ne]; omega
  rw [e]
  obtain ⟨t, ht⟩ : ∃ t, n.tmod m = t := ⟨_, rfl⟩
  rw [ht] at a b ⊢
  have hw : IntKind.i64.wrap (t + m) = t + m := IntWalk.i64_in _ (by omega)
  have a2 : (t + m) % m < m := Int.emod_lt_of_pos _ hm
  have b2 : 0 ≤ (t + m) % m := Int.emod_nonneg _ (by omega)
  clear e
  have h0 : ¬ m = 0 := by omega
  go_enter Tryd.func36, Tryd.ntmps36
  go_wp2
  go_ret
  exact ⟨rfl, rfl⟩
end Go.Proofs.YtlpffgmfgkleiaaDoor

/-
  The walks over chunks, and over the search for a set that may not be.
-/
namespace Go.Proofs.YtlpffgmfgkleiaaDoor
open Go.RowKit Go.Maps

theorem ints_second (w : World) (o : Obj) (x : Int) (T : TypeId) : Ints ((w.alloc o).alloc (.cells #[.int .i64 x] T)) (some ⟨w.heap.size + 1, 0, none⟩) [x] := by
  have := ints_new (w.alloc o) x T
  rwa [World.size_alloc] at this
/-- The chunks of a task; without any, all of its work is one. -/
def chunksOf (x : TV) : List Int := if x.ch = [] then [x.c] else x.ch
/-- A row of numbers that comes back. -/
def RowBack (l : List Int) (w : World) (e : Ending) (w' : World) : Prop :=
  ∃ a c, e = .returned (.slice a l.length c) ∧ Ints w' a l ∧ Below w.heap.size w w' ∧ (l.length : Int) ≤ 9223372036854775807

/-- The same of chunks: one, or the task's own row. -/
def ChunksBack (x : TV) (w : World) (e : Ending) (w' : World) : Prop :=
  ∃ a c, e = .returned (.slice a (chunksOf x).length c) ∧ Ints w' a (chunksOf x) ∧ Below w.heap.size w w' ∧ ((chunksOf x).length : Int) ≤ 9223372036854775807 ∧ ((chunksOf x).length = 1 ∨ (a = x.a1 ∧ chunksOf x = x.ch))
set_option maxRecDepth 100000 in
set_option maxHeartbeats 1000000 in
theorem chunks_any (x : TV) (w : World) (hx : x.ok w) : Calls Tryd.prog 71 #[x.val] w (ChunksBack x w) := by
  obtain ⟨id, c, d, t, p, a1, ch, c1, a2, us, c2⟩ := x
  obtain ⟨i1, i2, l1, m1, l2, m2⟩ := hx
  simp only at i1 i2 l1 m1 l2 m2
  unfold TV.val
  have hC : chunksOf ⟨id, c, d, t, p, a1, ch, c1, a2, us, c2⟩ = if ch = [] then [c] else ch := rfl
  unfold ChunksBack
  rw [hC]
  clear hC
  simp only []
  by_cases h : ch = []
  · subst h
    rw [if_pos rfl]
    clear i1 i2
    go_enter Tryd.func71, Tryd.ntmps71
    go_wp2
    go_ret
    exact ⟨_, _, rfl, ints_second _ _ _ _, (by repeat (first | exact Below.refl _ _ | (with_reducible assumption) | refine bw_alloc ?_ _ | refine bw_drew ?_)), by simp, by simp⟩
  · rw [if_neg h]
    have hl : 0 < ch.length := List.length_pos_iff.2 h
    have d1 : ((ch.length : Int) == 0) = false := by rw [beq_eq_false_iff_ne]; omega
    have I1 := Lib.hid i1
    clear i1 i2 h
    go_enter Tryd.func71, Tryd.ntmps71
    go_wp2
    go_ret
    exact ⟨_, _, rfl, I1.out.below (by repeat (first | exact Below.refl _ _ | (with_reducible assumption) | refine bw_alloc ?_ _ | refine bw_drew ?_)), (by repeat (first | exact Below.refl _ _ | (with_reducible assumption) | refine bw_alloc ?_ _ | refine bw_drew ?_)), by omega, by simp⟩

/-- The same, over an elder world. -/
def RowUnder (l : List Int) (W : World) (e : Ending) (w' : World) : Prop :=
  ∃ a c, e = .returned (.slice a l.length c) ∧ Ints w' a l ∧ Below W.heap.size W w' ∧ (l.length : Int) ≤ 9223372036854775807
theorem chunks_under (x : TV) (W w : World) (hb : Below W.heap.size W w) (hx : x.ok W) : Calls Tryd.prog 71 #[.agg #[.int .i64 x.id, .int .i64 x.c, .int .i64 x.d, .int .i64 x.t, .int .i64 x.p, .slice x.a1 x.ch.length x.c1, .slice x.a2 x.us.length x.c2]] w (RowUnder (chunksOf x) W) :=
  (chunks_any x w (hx.below hb)).mono fun _ _ ⟨a, c, h1, h2, h3, h4, _⟩ => ⟨a, c, h1, h2, below_up hb h3, h4⟩
/-- A task in a box. -/
structure AtB (w : World) (g : Nat) (x : TV) : Prop where
  c0 : w.cell? ⟨g, 0, none⟩ = some (.int .i64 x.id)
  c1 : w.cell? ⟨g, 1, none⟩ = some (.int .i64 x.c)
  c2 : w.cell? ⟨g, 2, none⟩ = some (.int .i64 x.d)
  c3 : w.cell? ⟨g, 3, none⟩ = some (.int .i64 x.t)
  c4 : w.cell? ⟨g, 4, none⟩ = some (.int .i64 x.p)
  c5 : w.cell? ⟨g, 5, none⟩ = some (.slice x.a1 x.ch.length x.c1)
  c6 : w.cell? ⟨g, 6, none⟩ = some (.slice x.a2 x.us.length x.c2)
theorem AtB.below {w w' : World} {g : Nat} {x : TV} (h : AtB w g x) (hb : Below w.heap.size w w') : AtB w' g x :=
  ⟨kept_cell hb h.c0, kept_cell hb h.c1, kept_cell hb h.c2, kept_cell hb h.c3, kept_cell hb h.c4, kept_cell hb h.c5, kept_cell hb h.c6⟩
theorem atB_new (w : World) (x : TV) (T : TypeId) : AtB (w.alloc (.cells #[.int .i64 x.id, .int .i64 x.c, .int .i64 x.d, .int .i64 x.t, .int .i64 x.p, .slice x.a1 x.ch.length x.c1, .slice x.a2 x.us.length x.c2] T)) w.heap.size x :=
  ⟨by rw [World.cell?_alloc_new]; rfl, by rw [World.cell?_alloc_new]; rfl, by rw [World.cell?_alloc_new]; rfl, by rw [World.cell?_alloc_new]; rfl, by rw [World.cell?_alloc_new]; rfl, by rw [World.cell?_alloc_new]; rfl, by rw [World.cell?_alloc_new]; rfl⟩
theorem AtB.view {w : World} {g : Nat} {x : TV} (h : AtB w g x) : View w (some ⟨g, 0, none⟩) [x] := View.of_at ⟨h.c0, h.c1, h.c2, h.c3, h.c4, h.c5, h.c6⟩

/-- A set that may not be. -/
def badB (s : Int) (u : Int) : Bool := decide (u < 0 ∨ s ≤ u)
set_option maxHeartbeats 1000000 in
theorem bad_any (u s : Int) (b : Nat) (w : World) (h : w.cell? ⟨b, 0, none⟩ = some (.int .i64 s)) : Calls Tryd.prog 73 #[.int .i64 u, .pointer (some ⟨b, 0, none⟩)] w fun e w' => e = .returned (.bool (badB s u)) ∧ w = w' := by
  unfold badB
  by_cases h1 : u < 0
  · rw [decide_eq_true (.inl h1)]
    go_enter Tryd.func73, Tryd.ntmps73
    go_wp2
    go_ret
    exact ⟨rfl, rfl⟩
  · by_cases h2 : s ≤ u
    · rw [decide_eq_true (.inr h2)]
      go_enter Tryd.func73, Tryd.ntmps73
      go_wp2
      go_ret
      exact ⟨rfl, rfl⟩
    · rw [decide_eq_false (fun z => z.elim h1 h2)]
      go_enter Tryd.func73, Tryd.ntmps73
      go_wp2
      go_ret
      exact ⟨rfl, rfl⟩

theorem any_take {l : List Int} {f : Int → Bool} {k : Nat} {x : Int} (h : (l.take k).any f = false) (hx : l[k]? = some x) (hf : f x = false) : (l.take (k + 1)).any f = false := by
  rw [List.take_add_one, hx, List.any_append, h]
  simp [hf]
theorem any_found {l : List Int} {f : Int → Bool} {k : Nat} {x : Int} (hx : l[k]? = some x) (hf : f x = true) : l.any f = true :=
  List.any_eq_true.2 ⟨x, List.mem_of_getElem? hx, hf⟩
theorem any_all {l : List Int} {f : Int → Bool} {k : Nat} (h : (l.take k).any f = false) (hl : l.length = k) : l.any f = false := by
  rwa [List.take_of_length_le (by omega)] at h

/-- Where the first one is, if there is one. -/
def Found (l : List Int) (f : Int → Bool) (w : World) (e : Ending) (w' : World) : Prop :=
  ∃ z : Int, e = .returned (.int .i64 z) ∧ decide (0 ≤ z) = l.any f ∧ w = w'

set_option maxRecDepth 100000 in
set_option maxHeartbeats 2000000 in
theorem indexI_any (a : Option Addr) (n cap : Nat) (l : List Int) (hl : l.length = n) (hn : (n : Int) ≤ 9223372036854775807) (s : Int) (b : Nat) (w : World) (h : Ints w a l) (hb : w.cell? ⟨b, 0, none⟩ = some (.int .i64 s)) :
    Calls Tryd.prog 94 #[.slice a n cap, .func (.func 73) #[] #[.pointer (some ⟨b, 0, none⟩)]] w (Found l (badB s) w) := by
  have H := Lib.hid h
  have HL := Lib.hid hl
  have HB := Lib.hid hb
  clear h hl hb
  go_enter Tryd.func94, Tryd.ntmps94
  go_wp2_with fail
  go_loop [8] (fun u => ∃ k : Nat, k ≤ n ∧ u = .int .i64 k ∧ Hid ((l.take k).any (badB s) = false)) (fun u => (n - intOf u).toNat)
  case atStart => exact ⟨0, by omega, rfl, by show _ = _; simp⟩
  case round =>
    obtain ⟨k, hk, rfl, HS⟩ := hrel
    by_cases hlt : k < n
    · obtain ⟨x, hx⟩ := nth_of HL.out hlt
      obtain ⟨g, o, rfl, c0⟩ := H.out.at_ hx
      have hk1 : (k : Int) < (n : Int) := by omega
      have hk0 : (0 : Int) ≤ (k : Int) := by omega
      have C := Lib.hid (bad_any x s b w HB.out)
      by_cases hf : badB s x = true
      · have HF := Lib.hid (any_found hx hf)
        rw [hf] at C
        clear hx hf HS
        go_wp2_with (go_at_call 73; (with_reducible refine (C.out).mono ?_); rintro e w1 ⟨rfl, rfl⟩)
        go_ret
        exact ⟨_, rfl, by rw [HF.out]; simp, rfl⟩
      · have hf2 : badB s x = false := by simpa using hf
        have HS2 := Lib.hid (any_take HS.out hx hf2)
        rw [hf2] at C
        clear hx hf hf2 HS
        go_wp2_with (go_at_call 73; (with_reducible refine (C.out).mono ?_); rintro e w1 ⟨rfl, rfl⟩)
        go_round
        case rel => exact ⟨k + 1, by omega, by go_num, HS2⟩
        case measure => simp [intOf]; omega
    · obtain rfl : n = k := by omega
      have HF := Lib.hid (any_all HS.out HL.out)
      go_wp2_with fail
      go_ret
      exact ⟨_, rfl, by rw [HF.out]; simp, rfl⟩

set_option maxRecDepth 100000 in
set_option maxHeartbeats 1000000 in
theorem contains_any (a : Option Addr) (n cap : Nat) (l : List Int) (hl : l.length = n) (hn : (n : Int) ≤ 9223372036854775807) (s : Int) (b : Nat) (w : World) (h : Ints w a l) (hb : w.cell? ⟨b, 0, none⟩ = some (.int .i64 s)) :
    Calls Tryd.prog 72 #[.slice a n cap, .func (.func 73) #[] #[.pointer (some ⟨b, 0, none⟩)]] w fun e w' => e = .returned (.bool (l.any (badB s))) ∧ w = w' := by
  have C := Lib.hid (indexI_any a n cap l hl hn s b w h hb)
  clear h hb hl
  go_enter Tryd.func72, Tryd.ntmps72
  go_wp2_with (go_at_call 94; (with_reducible refine (C.out).mono ?_); rintro e w1 ⟨z, rfl, hz, rfl⟩; have HZ := Lib.hid hz; clear hz)
  go_ret
  rw [← HZ.out]
  exact ⟨rfl, rfl⟩
end Go.Proofs.YtlpffgmfgkleiaaDoor

/-
  The walk over what is wrong with a task.
-/
namespace Go.Proofs.YtlpffgmfgkleiaaDoor
open Go.RowKit Go.Maps

/-- What is wrong with a task, beside so many sets. -/
def idBad (x : TV) : Prop := ¬ (1 ≤ x.id ∧ x.id ≤ 99 ∧ 1 ≤ x.p ∧ x.p ≤ 99)
def cdBad (x : TV) : Prop := ¬ (1 ≤ x.c ∧ x.c ≤ x.d ∧ x.d ≤ x.t ∧ x.t ≤ 1073741824)
def chBad (x : TV) : Prop := 64 < x.ch.length ∨ (x.ch ≠ [] ∧ fillB x.ch x.c = false)
def usBad (x : TV) (s : Int) : Prop := 64 < x.us.length ∨ x.us.any (badB s) = true
instance (x : TV) : Decidable (idBad x) := by unfold idBad; infer_instance
instance (x : TV) : Decidable (cdBad x) := by unfold cdBad; infer_instance
instance (x : TV) : Decidable (chBad x) := by unfold chBad; infer_instance
instance (x : TV) (s : Int) : Decidable (usBad x s) := by unfold usBad; infer_instance
def rightOf (x : TV) (s : Int) : Int := if idBad x then 1 else if cdBad x then 10 else if chBad x then 13 else if usBad x s then 12 else 0

theorem fill_chunks (x : TV) (h : 1 ≤ x.c) : fillB (chunksOf x) x.c = true ↔ ¬ (x.ch ≠ [] ∧ fillB x.ch x.c = false) := by
  unfold chunksOf
  split
  · rename_i e
    rw [fillB, if_pos ⟨h, Int.le_refl _⟩, fillB]
    simp [e]
  · rename_i e
    simp [e]

/-- A task in a box, and its bound in another one. -/
structure Boxed (w : World) (x : TV) (s : Int) (v : World) : Prop where
  low : Below w.heap.size w v
  at_ : AtB v w.heap.size x
  cell : v.cell? ⟨w.heap.size + 1, 0, none⟩ = some (.int .i64 s)
theorem Boxed.below {w v v' : World} {x : TV} {s : Int} (h : Boxed w x s v) (hb : Below v.heap.size v v') : Boxed w x s v' :=
  ⟨below_up h.low hb, h.at_.below hb, kept_cell hb h.cell⟩
theorem boxed_new {w : World} {x : TV} {s : Int} {T T' : TypeId} :
    Boxed w x s ((w.alloc (.cells #[.int .i64 x.id, .int .i64 x.c, .int .i64 x.d, .int .i64 x.t, .int .i64 x.p, .slice x.a1 x.ch.length x.c1, .slice x.a2 x.us.length x.c2] T)).alloc (.cells #[.int .i64 s] T')) :=
  ⟨(by repeat (first | exact Below.refl _ _ | (with_reducible assumption) | refine bw_alloc ?_ _ | refine bw_drew ?_)), (atB_new w x T).below ((Below.refl _ _).alloc (Nat.le_refl _) _), (new_second w _ _ _ 0).trans rfl⟩

theorem fillC {w : World} {x : TV} (hx : x.ok w) (hc : x.c ≤ 9223372036854775807) {a : Option Addr} {cap : Nat} {v : World} (hv : Ints v a (chunksOf x)) (hl : ((chunksOf x).length : Int) ≤ 9223372036854775807) {q : Bool} (hq : fillB (chunksOf x) x.c = q) :
    Calls Tryd.prog 70 #[.slice a (chunksOf x).length cap, .int .i64 x.c] v fun e w' => e = .returned (.bool q) ∧ v = w' := by
  rw [← hq]
  exact fill_any a _ cap _ rfl hl _ hc v hv

set_option maxRecDepth 100000 in
set_option maxHeartbeats 8000000 in
theorem right_any (x : TV) (s : Int) (w : World) (hx : x.ok w) : Calls Tryd.prog 53 #[x.val, .int .i64 s] w fun e w' => e = .returned (.int .i64 (rightOf x s)) ∧ Below w.heap.size w w' := by
  have HX := Lib.hid hx
  unfold TV.val
  by_cases h1 : 1 ≤ x.id ∧ x.id ≤ 99
  rotate_left
  · have hr : rightOf x s = 1 := by unfold rightOf; rw [if_pos]; unfold idBad; omega
    rw [hr]
    have C := Lib.hid (fun w => within_no x.id 1 99 h1 w)
    clear hr h1 hx
    go_enter Tryd.func53, Tryd.ntmps53
    go_wp2_with (go_at_call 48; (with_reducible refine (C.out _).mono ?_); rintro e w1 ⟨rfl, rfl⟩)
    go_ret
    exact ⟨rfl, (by repeat (first | exact Below.refl _ _ | (with_reducible assumption) | refine bw_alloc ?_ _ | refine bw_drew ?_))⟩
  by_cases h2 : 1 ≤ x.p ∧ x.p ≤ 99
  rotate_left
  · have hr : rightOf x s = 1 := by unfold rightOf; rw [if_pos]; unfold idBad; omega
    rw [hr]
    have C := Lib.hid (fun w => within_yes x.id 1 99 h1.1 h1.2 w)
    have D := Lib.hid (fun w => within_no x.p 1 99 h2 w)
    clear hr h1 h2 hx
    go_enter Tryd.func53, Tryd.ntmps53
    go_wp2_with (first
      | (go_at_call 48; (with_reducible refine (C.out _).mono ?_); rintro e w1 ⟨rfl, rfl⟩)
      | (go_at_call 48; (with_reducible refine (D.out _).mono ?_); rintro e w1 ⟨rfl, rfl⟩))
    go_ret
    exact ⟨rfl, (by repeat (first | exact Below.refl _ _ | (with_reducible assumption) | refine bw_alloc ?_ _ | refine bw_drew ?_))⟩
  have hid : ¬ idBad x := fun z => z ⟨h1.1, h1.2, h2.1, h2.2⟩
  have C := Lib.hid (fun w => within_yes x.id 1 99 h1.1 h1.2 w)
  have D := Lib.hid (fun w => within_yes x.p 1 99 h2.1 h2.2 w)
  have hr0 : rightOf x s = if cdBad x then 10 else if chBad x then 13 else if usBad x s then 12 else 0 := by unfold rightOf; rw [if_neg hid]
  rw [hr0]
  clear h1 h2 hid hr0
  by_cases h3 : cdBad x
  · rw [if_pos h3]
    clear hx
    unfold cdBad at h3
    have d : decide (x.c < 1) = true ∨ (decide (x.c < 1) = false ∧ decide (x.d < x.c) = true) ∨ (decide (x.c < 1) = false ∧ decide (x.d < x.c) = false ∧ decide (x.t < x.d) = true) ∨ (decide (x.c < 1) = false ∧ decide (x.d < x.c) = false ∧ decide (x.t < x.d) = false ∧ decide (1073741824 < x.t) = true) := by
      simp only [decide_eq_true_eq, decide_eq_false_iff_not]; omega
    clear h3
    rcases d with d1 | ⟨d1, d2⟩ | ⟨d1, d2, d3⟩ | ⟨d1, d2, d3, d4⟩
    all_goals
      go_enter Tryd.func53, Tryd.ntmps53
      go_wp2_with (first
        | (go_at_call 48; (with_reducible refine (C.out _).mono ?_); rintro e w1 ⟨rfl, rfl⟩)
        | (go_at_call 48; (with_reducible refine (D.out _).mono ?_); rintro e w1 ⟨rfl, rfl⟩))
      go_ret
      exact ⟨rfl, (by repeat (first | exact Below.refl _ _ | (with_reducible assumption) | refine bw_alloc ?_ _ | refine bw_drew ?_))⟩
  rw [if_neg h3]
  unfold cdBad at h3
  have hc1 : 1 ≤ x.c := by omega
  have hc2 : x.c ≤ 9223372036854775807 := by omega
  have d1 : decide (x.c < 1) = false := decide_eq_false (by omega)
  have d2 : decide (x.d < x.c) = false := decide_eq_false (by omega)
  have d3 : decide (x.t < x.d) = false := decide_eq_false (by omega)
  have d4 : decide (1073741824 < x.t) = false := decide_eq_false (by omega)
  clear h3
  by_cases h4 : 64 < x.ch.length
  · rw [if_pos (show chBad x from .inl h4)]
    have d5 : decide ((64 : Int) < (x.ch.length : Int)) = true := decide_eq_true (by omega)
    clear hc1 hc2 hx
    have h5 : (64 : Int) < (x.ch.length : Int) := by omega
    go_enter Tryd.func53, Tryd.ntmps53
    go_wp2_with (first
      | (go_at_call 48; (with_reducible refine (C.out _).mono ?_); rintro e w1 ⟨rfl, rfl⟩)
      | (go_at_call 48; (with_reducible refine (D.out _).mono ?_); rintro e w1 ⟨rfl, rfl⟩))
    go_ret
    exact ⟨rfl, (by repeat (first | exact Below.refl _ _ | (with_reducible assumption) | refine bw_alloc ?_ _ | refine bw_drew ?_))⟩
  have d5 : decide ((64 : Int) < (x.ch.length : Int)) = false := decide_eq_false (by omega)
  have h5 : ¬ (64 : Int) < (x.ch.length : Int) := by omega
  by_cases h6 : fillB (chunksOf x) x.c = true
  rotate_left
  · have hb : chBad x := .inr (by have := mt (fill_chunks x hc1).2 h6; simpa using this)
    rw [if_pos hb]
    have F : Hid (∀ (a : Option Addr) (cap : Nat) (v : World), Ints v a (chunksOf x) → ((chunksOf x).length : Int) ≤ 9223372036854775807 → _) := fun a cap v hv hl => fillC (cap := cap) hx hc2 hv hl (q := false) (by simpa using h6)
    clear hb h6 hc1 hc2 hx h4
    go_enter Tryd.func53, Tryd.ntmps53
    go_upto_region 10 with (first
      | (go_at_call 48; (with_reducible refine (C.out _).mono ?_); rintro e w1 ⟨rfl, rfl⟩)
      | (go_at_call 48; (with_reducible refine (D.out _).mono ?_); rintro e w1 ⟨rfl, rfl⟩))
    refine gen_world (Boxed w x s) boxed_new ?_
    intro W1 hw1
    have H1 := Lib.hid hw1
    obtain ⟨_, ⟨c0, c1, c2, c3, c4, c5, c6⟩, e0⟩ := hw1
    have K : Hid (∀ v, Below W1.heap.size W1 v → _) := fun v hb => chunks_under x W1 v hb (HX.out.below H1.out.low)
    have MK : Hid (∀ v, Below W1.heap.size W1 v → (Below W1.heap.size W1 v ∧ v.cell? ⟨w.heap.size, 0, none⟩ = some (.int .i64 x.id) ∧ v.cell? ⟨w.heap.size, 1, none⟩ = some (.int .i64 x.c) ∧ v.cell? ⟨w.heap.size, 2, none⟩ = some (.int .i64 x.d) ∧ v.cell? ⟨w.heap.size, 3, none⟩ = some (.int .i64 x.t) ∧ v.cell? ⟨w.heap.size, 4, none⟩ = some (.int .i64 x.p) ∧ v.cell? ⟨w.heap.size, 5, none⟩ = some (.slice x.a1 x.ch.length x.c1) ∧ v.cell? ⟨w.heap.size, 6, none⟩ = some (.slice x.a2 x.us.length x.c2))) :=
      fun v hb => ⟨hb, (H1.out.below hb).at_.c0, (H1.out.below hb).at_.c1, (H1.out.below hb).at_.c2, (H1.out.below hb).at_.c3, (H1.out.below hb).at_.c4, (H1.out.below hb).at_.c5, (H1.out.below hb).at_.c6⟩
    clear e0
    go_region_held3 (fun v => Below W1.heap.size W1 v ∧ v.cell? ⟨w.heap.size, 0, none⟩ = some (.int .i64 x.id) ∧ v.cell? ⟨w.heap.size, 1, none⟩ = some (.int .i64 x.c) ∧ v.cell? ⟨w.heap.size, 2, none⟩ = some (.int .i64 x.d) ∧ v.cell? ⟨w.heap.size, 3, none⟩ = some (.int .i64 x.t) ∧ v.cell? ⟨w.heap.size, 4, none⟩ = some (.int .i64 x.p) ∧ v.cell? ⟨w.heap.size, 5, none⟩ = some (.slice x.a1 x.ch.length x.c1) ∧ v.cell? ⟨w.heap.size, 6, none⟩ = some (.slice x.a2 x.us.length x.c2)) (exact MK.out _ (by repeat (first | exact Below.refl _ _ | (with_reducible assumption) | refine bw_alloc ?_ _ | refine bw_drew ?_)))
      (first
        | (go_at_call 71; (with_reducible refine (K.out _ (by repeat (first | exact Below.refl _ _ | (with_reducible assumption) | refine bw_alloc ?_ _ | refine bw_drew ?_))).mono ?_); rintro e wx ⟨a, cp, rfl, hI, bx, hl⟩)
        | (go_at_call 70; (with_reducible refine (F.out _ _ _ hI hl).mono ?_); rintro e wy ⟨rfl, rfl⟩))
    all_goals
      have BX := Lib.hid bx
      clear bx hI hl
      go_wp2
      go_ret
      exact ⟨rfl, below_up H1.out.low BX.out⟩
  have hnc : ¬ chBad x := by
    rintro (z | z)
    · exact h4 z
    · exact (fill_chunks x hc1).1 h6 z
  rw [if_neg hnc]
  have F : Hid (∀ (a : Option Addr) (cap : Nat) (v : World), Ints v a (chunksOf x) → ((chunksOf x).length : Int) ≤ 9223372036854775807 → _) := fun a cap v hv hl => fillC (cap := cap) hx hc2 hv hl (q := true) h6
  have hul : (x.us.length : Int) ≤ 9223372036854775807 := by have := hx.l2; have := hx.m2; omega
  clear hnc h6 hc1 hc2 hx h4
  by_cases h7 : 64 < x.us.length
  · rw [if_pos (show usBad x s from .inl h7)]
    have d6 : decide ((64 : Int) < (x.us.length : Int)) = true := decide_eq_true (by omega)
    have h8 : (64 : Int) < (x.us.length : Int) := by omega
    clear h7 hul
    go_enter Tryd.func53, Tryd.ntmps53
    go_upto_region 10 with (first
      | (go_at_call 48; (with_reducible refine (C.out _).mono ?_); rintro e w1 ⟨rfl, rfl⟩)
      | (go_at_call 48; (with_reducible refine (D.out _).mono ?_); rintro e w1 ⟨rfl, rfl⟩))
    refine gen_world (Boxed w x s) boxed_new ?_
    intro W1 hw1
    have H1 := Lib.hid hw1
    obtain ⟨_, ⟨c0, c1, c2, c3, c4, c5, c6⟩, e0⟩ := hw1
    have K : Hid (∀ v, Below W1.heap.size W1 v → _) := fun v hb => chunks_under x W1 v hb (HX.out.below H1.out.low)
    have MK : Hid (∀ v, Below W1.heap.size W1 v → (Below W1.heap.size W1 v ∧ v.cell? ⟨w.heap.size, 0, none⟩ = some (.int .i64 x.id) ∧ v.cell? ⟨w.heap.size, 1, none⟩ = some (.int .i64 x.c) ∧ v.cell? ⟨w.heap.size, 2, none⟩ = some (.int .i64 x.d) ∧ v.cell? ⟨w.heap.size, 3, none⟩ = some (.int .i64 x.t) ∧ v.cell? ⟨w.heap.size, 4, none⟩ = some (.int .i64 x.p) ∧ v.cell? ⟨w.heap.size, 5, none⟩ = some (.slice x.a1 x.ch.length x.c1) ∧ v.cell? ⟨w.heap.size, 6, none⟩ = some (.slice x.a2 x.us.length x.c2))) :=
      fun v hb => ⟨hb, (H1.out.below hb).at_.c0, (H1.out.below hb).at_.c1, (H1.out.below hb).at_.c2, (H1.out.below hb).at_.c3, (H1.out.below hb).at_.c4, (H1.out.below hb).at_.c5, (H1.out.below hb).at_.c6⟩
    clear e0
    go_region_held3 (fun v => Below W1.heap.size W1 v ∧ v.cell? ⟨w.heap.size, 0, none⟩ = some (.int .i64 x.id) ∧ v.cell? ⟨w.heap.size, 1, none⟩ = some (.int .i64 x.c) ∧ v.cell? ⟨w.heap.size, 2, none⟩ = some (.int .i64 x.d) ∧ v.cell? ⟨w.heap.size, 3, none⟩ = some (.int .i64 x.t) ∧ v.cell? ⟨w.heap.size, 4, none⟩ = some (.int .i64 x.p) ∧ v.cell? ⟨w.heap.size, 5, none⟩ = some (.slice x.a1 x.ch.length x.c1) ∧ v.cell? ⟨w.heap.size, 6, none⟩ = some (.slice x.a2 x.us.length x.c2)) (exact MK.out _ (by repeat (first | exact Below.refl _ _ | (with_reducible assumption) | refine bw_alloc ?_ _ | refine bw_drew ?_)))
      (first
        | (go_at_call 71; (with_reducible refine (K.out _ (by repeat (first | exact Below.refl _ _ | (with_reducible assumption) | refine bw_alloc ?_ _ | refine bw_drew ?_))).mono ?_); rintro e wx ⟨a, cp, rfl, hI, bx, hl⟩)
        | (go_at_call 70; (with_reducible refine (F.out _ _ _ hI hl).mono ?_); rintro e wy ⟨rfl, rfl⟩))
    all_goals
      have H2 := Lib.hid (H1.out.below bx)
      obtain ⟨_, ⟨f0, f1, f2, f3, f4, f5, f6⟩, g0⟩ := H2.out
      clear bx hI hl c0 c1 c2 c3 c4 c5 c6
      go_wp2
      go_ret
      exact ⟨rfl, H2.out.low⟩
  have d6 : decide ((64 : Int) < (x.us.length : Int)) = false := decide_eq_false (by omega)
  have h8 : ¬ (64 : Int) < (x.us.length : Int) := by omega
  by_cases h9 : x.us.any (badB s) = true
  · rw [if_pos (show usBad x s from .inr h9)]
    have HN := Lib.hid h9
    clear h7 h9
    go_enter Tryd.func53, Tryd.ntmps53
    go_upto_region 10 with (first
      | (go_at_call 48; (with_reducible refine (C.out _).mono ?_); rintro e w1 ⟨rfl, rfl⟩)
      | (go_at_call 48; (with_reducible refine (D.out _).mono ?_); rintro e w1 ⟨rfl, rfl⟩))
    refine gen_world (Boxed w x s) boxed_new ?_
    intro W1 hw1
    have H1 := Lib.hid hw1
    obtain ⟨_, ⟨c0, c1, c2, c3, c4, c5, c6⟩, e0⟩ := hw1
    have K : Hid (∀ v, Below W1.heap.size W1 v → _) := fun v hb => chunks_under x W1 v hb (HX.out.below H1.out.low)
    have MK : Hid (∀ v, Below W1.heap.size W1 v → (Below W1.heap.size W1 v ∧ v.cell? ⟨w.heap.size, 0, none⟩ = some (.int .i64 x.id) ∧ v.cell? ⟨w.heap.size, 1, none⟩ = some (.int .i64 x.c) ∧ v.cell? ⟨w.heap.size, 2, none⟩ = some (.int .i64 x.d) ∧ v.cell? ⟨w.heap.size, 3, none⟩ = some (.int .i64 x.t) ∧ v.cell? ⟨w.heap.size, 4, none⟩ = some (.int .i64 x.p) ∧ v.cell? ⟨w.heap.size, 5, none⟩ = some (.slice x.a1 x.ch.length x.c1) ∧ v.cell? ⟨w.heap.size, 6, none⟩ = some (.slice x.a2 x.us.length x.c2))) :=
      fun v hb => ⟨hb, (H1.out.below hb).at_.c0, (H1.out.below hb).at_.c1, (H1.out.below hb).at_.c2, (H1.out.below hb).at_.c3, (H1.out.below hb).at_.c4, (H1.out.below hb).at_.c5, (H1.out.below hb).at_.c6⟩
    clear e0
    go_region_held3 (fun v => Below W1.heap.size W1 v ∧ v.cell? ⟨w.heap.size, 0, none⟩ = some (.int .i64 x.id) ∧ v.cell? ⟨w.heap.size, 1, none⟩ = some (.int .i64 x.c) ∧ v.cell? ⟨w.heap.size, 2, none⟩ = some (.int .i64 x.d) ∧ v.cell? ⟨w.heap.size, 3, none⟩ = some (.int .i64 x.t) ∧ v.cell? ⟨w.heap.size, 4, none⟩ = some (.int .i64 x.p) ∧ v.cell? ⟨w.heap.size, 5, none⟩ = some (.slice x.a1 x.ch.length x.c1) ∧ v.cell? ⟨w.heap.size, 6, none⟩ = some (.slice x.a2 x.us.length x.c2)) (exact MK.out _ (by repeat (first | exact Below.refl _ _ | (with_reducible assumption) | refine bw_alloc ?_ _ | refine bw_drew ?_)))
      (first
        | (go_at_call 71; (with_reducible refine (K.out _ (by repeat (first | exact Below.refl _ _ | (with_reducible assumption) | refine bw_alloc ?_ _ | refine bw_drew ?_))).mono ?_); rintro e wx ⟨a, cp, rfl, hI, bx, hl⟩)
        | (go_at_call 70; (with_reducible refine (F.out _ _ _ hI hl).mono ?_); rintro e wy ⟨rfl, rfl⟩))
    all_goals
      have H2 := Lib.hid (H1.out.below bx)
      obtain ⟨_, ⟨f0, f1, f2, f3, f4, f5, f6⟩, g0⟩ := H2.out
      have G := Lib.hid (contains_any x.a2 x.us.length x.c2 x.us rfl hul s (w.heap.size + 1) _ (HX.out.below H2.out.low).two g0)
      rw [HN.out] at G
      clear bx hI hl c0 c1 c2 c3 c4 c5 c6
      go_wp2_with (go_at_call 72; (with_reducible refine (G.out).mono ?_); rintro e w1 ⟨rfl, rfl⟩)
      go_ret
      exact ⟨rfl, H2.out.low⟩
  · have hnu : ¬ usBad x s := fun z => z.elim h7 h9
    rw [if_neg hnu]
    have HN : Hid (x.us.any (badB s) = false) := by show _ = _; simpa using h9
    clear h7 h9 hnu
    go_enter Tryd.func53, Tryd.ntmps53
    go_upto_region 10 with (first
      | (go_at_call 48; (with_reducible refine (C.out _).mono ?_); rintro e w1 ⟨rfl, rfl⟩)
      | (go_at_call 48; (with_reducible refine (D.out _).mono ?_); rintro e w1 ⟨rfl, rfl⟩))
    refine gen_world (Boxed w x s) boxed_new ?_
    intro W1 hw1
    have H1 := Lib.hid hw1
    obtain ⟨_, ⟨c0, c1, c2, c3, c4, c5, c6⟩, e0⟩ := hw1
    have K : Hid (∀ v, Below W1.heap.size W1 v → _) := fun v hb => chunks_under x W1 v hb (HX.out.below H1.out.low)
    have MK : Hid (∀ v, Below W1.heap.size W1 v → (Below W1.heap.size W1 v ∧ v.cell? ⟨w.heap.size, 0, none⟩ = some (.int .i64 x.id) ∧ v.cell? ⟨w.heap.size, 1, none⟩ = some (.int .i64 x.c) ∧ v.cell? ⟨w.heap.size, 2, none⟩ = some (.int .i64 x.d) ∧ v.cell? ⟨w.heap.size, 3, none⟩ = some (.int .i64 x.t) ∧ v.cell? ⟨w.heap.size, 4, none⟩ = some (.int .i64 x.p) ∧ v.cell? ⟨w.heap.size, 5, none⟩ = some (.slice x.a1 x.ch.length x.c1) ∧ v.cell? ⟨w.heap.size, 6, none⟩ = some (.slice x.a2 x.us.length x.c2))) :=
      fun v hb => ⟨hb, (H1.out.below hb).at_.c0, (H1.out.below hb).at_.c1, (H1.out.below hb).at_.c2, (H1.out.below hb).at_.c3, (H1.out.below hb).at_.c4, (H1.out.below hb).at_.c5, (H1.out.below hb).at_.c6⟩
    clear e0
    go_region_held3 (fun v => Below W1.heap.size W1 v ∧ v.cell? ⟨w.heap.size, 0, none⟩ = some (.int .i64 x.id) ∧ v.cell? ⟨w.heap.size, 1, none⟩ = some (.int .i64 x.c) ∧ v.cell? ⟨w.heap.size, 2, none⟩ = some (.int .i64 x.d) ∧ v.cell? ⟨w.heap.size, 3, none⟩ = some (.int .i64 x.t) ∧ v.cell? ⟨w.heap.size, 4, none⟩ = some (.int .i64 x.p) ∧ v.cell? ⟨w.heap.size, 5, none⟩ = some (.slice x.a1 x.ch.length x.c1) ∧ v.cell? ⟨w.heap.size, 6, none⟩ = some (.slice x.a2 x.us.length x.c2)) (exact MK.out _ (by repeat (first | exact Below.refl _ _ | (with_reducible assumption) | refine bw_alloc ?_ _ | refine bw_drew ?_)))
      (first
        | (go_at_call 71; (with_reducible refine (K.out _ (by repeat (first | exact Below.refl _ _ | (with_reducible assumption) | refine bw_alloc ?_ _ | refine bw_drew ?_))).mono ?_); rintro e wx ⟨a, cp, rfl, hI, bx, hl⟩)
        | (go_at_call 70; (with_reducible refine (F.out _ _ _ hI hl).mono ?_); rintro e wy ⟨rfl, rfl⟩))
    all_goals
      have H2 := Lib.hid (H1.out.below bx)
      obtain ⟨_, ⟨f0, f1, f2, f3, f4, f5, f6⟩, g0⟩ := H2.out
      have G := Lib.hid (contains_any x.a2 x.us.length x.c2 x.us rfl hul s (w.heap.size + 1) _ (HX.out.below H2.out.low).two g0)
      rw [HN.out] at G
      clear bx hI hl c0 c1 c2 c3 c4 c5 c6
      go_wp2_with (go_at_call 72; (with_reducible refine (G.out).mono ?_); rintro e w1 ⟨rfl, rfl⟩)
      go_ret
      exact ⟨rfl, H2.out.low⟩
end Go.Proofs.YtlpffgmfgkleiaaDoor

/-
  The walks over how much work is done at the end of each chunk; what is asked of all tasks at the beginning.
-/
namespace Go.Proofs.YtlpffgmfgkleiaaDoor
open Go.RowKit Go.Maps

theorem infoLong : (Tryd.prog.info? 2).map (fun i => (i.zero, i.size, i.bytes)) = some (some (.int .i64 0), 1, 8) := by kernel_rfl
theorem make_long (c : Nat) (hc : c ≤ 2000000000) (w : World) : (Instr.makeSlice 49 (.int .i64 0) (.int .i64 (c : Int))).run Tryd.prog w = .ok (.slice (some ⟨w.heap.size, 0, none⟩) 0 c) (w.alloc (.cells (madeCells #[.int .i64 0] c) 2)) := by
  obtain ⟨i0, hi, hz0, hz1, hz2⟩ := info_parts infoLong
  have h := run_make w 49 2 i0 (.int .i64 0) Tryd.underlying49 hi hz0 .i64 .i64 0 c (by omega) (by omega) (by rw [hz2]; omega) (by omega)
  rw [hz1] at h
  simpa [Value.cells] using h

/-- The sums of a row, from d on. -/
def sumsFrom : Int → List Int → List Int
  | _, [] => []
  | d, x :: l => (d + x) :: sumsFrom (d + x) l
def endsOf (x : TV) : List Int := sumsFrom 0 (chunksOf x)
theorem sums_len : ∀ (l : List Int) (d : Int), (sumsFrom d l).length = l.length
  | [], _ => rfl
  | x :: l, d => by simp [sumsFrom, sums_len l]
theorem fill_len : ∀ (l : List Int) (c : Int), 0 ≤ c → fillB l c = true → (l.length : Int) ≤ c
  | [], c, h, _ => by simpa using h
  | x :: l, c, h, hf => by
    rw [fillB] at hf
    by_cases g : 1 ≤ x ∧ x ≤ c
    · rw [if_pos g] at hf
      have := fill_len l (c - x) (by omega) hf
      simp only [List.length_cons]; omega
    · rw [if_neg g] at hf; cases hf
theorem fill_drop {l : List Int} {k : Nat} {x c : Int} (hx : l[k]? = some x) : fillB (l.drop k) c = if 1 ≤ x ∧ x ≤ c then fillB (l.drop (k + 1)) (c - x) else false := by
  obtain ⟨h2, h3⟩ := List.getElem?_eq_some_iff.1 hx
  rw [List.drop_eq_getElem_cons h2, h3, fillB]
theorem sums_step {l R : List Int} {k : Nat} {x d : Int} (hx : l[k]? = some x) (h : R ++ sumsFrom d (l.drop k) = sumsFrom 0 l) : (R ++ [d + x]) ++ sumsFrom (d + x) (l.drop (k + 1)) = sumsFrom 0 l := by
  obtain ⟨h2, h3⟩ := List.getElem?_eq_some_iff.1 hx
  rw [List.drop_eq_getElem_cons h2, h3, sumsFrom] at h
  rw [← h]; simp

/-- A row of one's own that was made with room. -/
theorem own_made (w : World) (o : Obj) (cap : Nat) (hc : cap ≤ 2000000000) (T : TypeId) : OwnI ((w.alloc o).alloc (.cells (madeCells #[.int .i64 0] cap) T)) T (w.heap.size + 1) (.slice (some ⟨w.heap.size + 1, 0, none⟩) 0 cap) [] := by
  have := World.ownsRow_made (e := T) (size := 1) (base := w.heap.size + 1) (w := w.alloc o) (madeCells #[.int .i64 0] cap) cap (by simp) (by unfold maxLen; omega) (by rw [size_madeCells]; omega)
  rwa [World.size_alloc] at this
/-- A task in a box, and a row of one's own. -/
structure EndsAt (w : World) (x : TV) (v : Value) (l : List Int) (W : World) : Prop where
  low : Below w.heap.size w W
  box : AtB W w.heap.size x
  own : OwnI W 2 (w.heap.size + 1) v l
theorem EndsAt.below {w W W' : World} {x : TV} {v : Value} {l : List Int} (h : EndsAt w x v l W) (hb : Below W.heap.size W W') : EndsAt w x v l W' := ⟨below_up h.low hb, h.box.below hb, h.own.below hb⟩
theorem endsAt_new {w : World} {x : TV} {T : TypeId} {cap : Nat} (hc : cap ≤ 2000000000) : EndsAt w x (.slice (some ⟨w.heap.size + 1, 0, none⟩) 0 cap) [] ((w.alloc (.cells #[.int .i64 x.id, .int .i64 x.c, .int .i64 x.d, .int .i64 x.t, .int .i64 x.p, .slice x.a1 x.ch.length x.c1, .slice x.a2 x.us.length x.c2] T)).alloc (.cells (madeCells #[.int .i64 0] cap) 2)) :=
  ⟨(by repeat (first | exact Below.refl _ _ | (with_reducible assumption) | refine bw_alloc ?_ _ | refine bw_drew ?_)), (atB_new w x T).below ((Below.refl _ _).alloc (Nat.le_refl _) _), own_made w _ cap hc _⟩
theorem kept_objB {B : Nat} {w w' : World} (hb : Below B w w') {b : Nat} {o : Obj} (hl : b < B) (h : w.heap[b]? = some o) : w'.heap[b]? = some o := (hb.block b hl).trans h
theorem kept_cellB {B : Nat} {w w' : World} (hb : Below B w w') {b o : Nat} {v : Value} (hl : b < B) (h : w.cell? ⟨b, o, none⟩ = some v) : w'.cell? ⟨b, o, none⟩ = some v := by
  rw [hb.cell (p := ⟨b, o, none⟩) hl]; exact h
theorem AtB.belowB {B : Nat} {w w' : World} {g : Nat} {x : TV} (h : AtB w g x) (hb : Below B w w') (hg : g < B) : AtB w' g x :=
  ⟨kept_cellB hb hg h.c0, kept_cellB hb hg h.c1, kept_cellB hb hg h.c2, kept_cellB hb hg h.c3, kept_cellB hb hg h.c4, kept_cellB hb hg h.c5, kept_cellB hb hg h.c6⟩
theorem EndsAt.grown {w W W' : World} {x : TV} {v v' : Value} {l l' : List Int} (h : EndsAt w x v l W) (hg : W.grownBy W' v.ownBlock) (ho : OwnI W' 2 (w.heap.size + 1) v' l') : EndsAt w x v' l' W' := by
  have hs := block_of_cell h.box.c0
  have hb : Below (w.heap.size + 1) W W' := (Below.refl _ W).grown hg hs (fun k hk => (h.own.new hk).1)
  exact ⟨h.low.trans (hb.mono (by omega)), h.box.belowB hb (by omega), ho⟩
theorem chunks_pos (x : TV) : 0 < (chunksOf x).length := by
  unfold chunksOf
  split
  · simp
  · rename_i e; exact List.length_pos_iff.2 e

end Go.Proofs.YtlpffgmfgkleiaaDoor

/-
  The walk over what is wrong with a task, by the document's own words.
-/
namespace Go.Proofs.YtlpffgmfgkleiaaDoor
open Go.RowKit Go.Maps

set_option maxRecDepth 100000 in
set_option maxHeartbeats 8000000 in
theorem rright_any (x : TV) (s : Int) (w : World) (hx : x.ok w) : Calls Tryd.prog 33 #[x.val, .int .i64 s] w fun e w' => e = .returned (.int .i64 (rightOf x s)) ∧ Below w.heap.size w w' := by
  obtain ⟨id, c, d, t, p, a1, ch, c1, a2, us, c2⟩ := x
  obtain ⟨i1, i2, l1, m1, l2, m2⟩ := hx
  simp only at i1 i2 l1 m1 l2 m2
  unfold TV.val
  simp only []
  by_cases h1 : idBad ⟨id, c, d, t, p, a1, ch, c1, a2, us, c2⟩
  · have hr : rightOf ⟨id, c, d, t, p, a1, ch, c1, a2, us, c2⟩ s = 1 := by unfold rightOf; rw [if_pos h1]
    rw [hr]
    clear hr i1 i2
    unfold idBad at h1
    simp only at h1
    have d : decide (id < 1) = true ∨ (decide (id < 1) = false ∧ decide (99 < id) = true) ∨ (decide (id < 1) = false ∧ decide (99 < id) = false ∧ decide (p < 1) = true) ∨ (decide (id < 1) = false ∧ decide (99 < id) = false ∧ decide (p < 1) = false ∧ decide (99 < p) = true) := by
      simp only [decide_eq_true_eq, decide_eq_false_iff_not]; omega
    clear h1
    rcases d with d1 | ⟨d1, d2⟩ | ⟨d1, d2, d3⟩ | ⟨d1, d2, d3, d4⟩
    all_goals
      go_enter Tryd.func33, Tryd.ntmps33
      go_wp2
      go_ret
      exact ⟨rfl, (by repeat (first | exact Below.refl _ _ | (with_reducible assumption) | refine bw_alloc ?_ _ | refine bw_drew ?_))⟩
  have hr0 : rightOf ⟨id, c, d, t, p, a1, ch, c1, a2, us, c2⟩ s = if cdBad ⟨id, c, d, t, p, a1, ch, c1, a2, us, c2⟩ then 10 else if chBad ⟨id, c, d, t, p, a1, ch, c1, a2, us, c2⟩ then 13 else if usBad ⟨id, c, d, t, p, a1, ch, c1, a2, us, c2⟩ s then 12 else 0 := by unfold rightOf; rw [if_neg h1]
  rw [hr0]
  unfold idBad at h1
  simp only at h1
  have x1 : decide (id < 1) = false := decide_eq_false (by omega)
  have x2 : decide (99 < id) = false := decide_eq_false (by omega)
  have x3 : decide (p < 1) = false := decide_eq_false (by omega)
  have x4 : decide (99 < p) = false := decide_eq_false (by omega)
  clear h1 hr0
  by_cases h3 : cdBad ⟨id, c, d, t, p, a1, ch, c1, a2, us, c2⟩
  · rw [if_pos h3]
    clear i1 i2
    unfold cdBad at h3
    simp only at h3
    have d : decide (c < 1) = true ∨ (decide (c < 1) = false ∧ decide (d < c) = true) ∨ (decide (c < 1) = false ∧ decide (d < c) = false ∧ decide (t < d) = true) ∨ (decide (c < 1) = false ∧ decide (d < c) = false ∧ decide (t < d) = false ∧ decide (1073741824 < t) = true) := by
      simp only [decide_eq_true_eq, decide_eq_false_iff_not]; omega
    clear h3
    rcases d with d1 | ⟨d1, d2⟩ | ⟨d1, d2, d3⟩ | ⟨d1, d2, d3, d4⟩
    all_goals
      go_enter Tryd.func33, Tryd.ntmps33
      go_wp2
      go_ret
      exact ⟨rfl, (by repeat (first | exact Below.refl _ _ | (with_reducible assumption) | refine bw_alloc ?_ _ | refine bw_drew ?_))⟩
  rw [if_neg h3]
  unfold cdBad at h3
  simp only at h3
  have hc1 : 1 ≤ c := by omega
  have hc2 : c ≤ 1073741824 := by omega
  have d1 : decide (c < 1) = false := decide_eq_false (by omega)
  have d2 : decide (d < c) = false := decide_eq_false (by omega)
  have d3 : decide (t < d) = false := decide_eq_false (by omega)
  have d4 : decide (1073741824 < t) = false := decide_eq_false (by omega)
  have I1 := Lib.hid i1
  have I2 := Lib.hid i2
  have HB : Hid ((fillB ch c = false ∧ 0 < ch.length) ∨ 64 < ch.length ↔ chBad ⟨id, c, d, t, p, a1, ch, c1, a2, us, c2⟩) := by
    show _ ↔ _
    unfold chBad
    simp only [ne_eq, ← List.length_eq_zero_iff]
    constructor
    · rintro (⟨h1, h2⟩ | h)
      · exact .inr ⟨by omega, h1⟩
      · exact .inl h
    · rintro (h | ⟨h1, h2⟩)
      · exact .inr h
      · exact .inl ⟨h2, by omega⟩
  have HU : Hid (us.any (badB s) = true ∨ 64 < us.length ↔ usBad ⟨id, c, d, t, p, a1, ch, c1, a2, us, c2⟩ s) := by
    show _ ↔ _
    unfold usBad
    exact or_comm
  generalize hcb : (if chBad ⟨id, c, d, t, p, a1, ch, c1, a2, us, c2⟩ then (13 : Int) else if usBad ⟨id, c, d, t, p, a1, ch, c1, a2, us, c2⟩ s then 12 else 0) = R
  have HR := Lib.hid hcb
  obtain ⟨n, hn⟩ : ∃ n, ch.length = n := ⟨_, rfl⟩
  obtain ⟨m, hm⟩ : ∃ m, us.length = m := ⟨_, rfl⟩
  rw [hn] at l1 HB ⊢
  rw [hm] at l2 HU ⊢
  have HL := Lib.hid hn
  have HM := Lib.hid hm
  have hn9 : (n : Int) ≤ 9223372036854775807 := by omega
  have hm9 : (m : Int) ≤ 9223372036854775807 := by omega
  clear i1 i2 hcb h3 hn hm l1 m1 l2 m2
  go_enter Tryd.func33, Tryd.ntmps33
  go_wp2
  go_loop [5, 6] (fun u v => ∃ (k : Nat) (c' : Int), k ≤ n ∧ v = .int .i64 k ∧ u = .int .i64 c' ∧ 0 ≤ c' ∧ c' ≤ 1073741824 ∧ Hid (fillB (ch.drop k) c' = fillB ch c)) (fun _ v => (n - intOf v).toNat)
  case atStart => exact ⟨0, c, by omega, rfl, rfl, by omega, by omega, by show _ = _; rw [List.drop_zero]⟩
  case round =>
    obtain ⟨k, c', hk, rfl, rfl, hc0, hc', HF⟩ := hrel
    by_cases hlt : k < n
    · obtain ⟨x, hx⟩ := nth_of HL.out hlt
      obtain ⟨g, o, rfl, z0⟩ := (I1.out.below (show Below w.heap.size w (w.alloc (.cells #[.int .i64 id, .int .i64 c, .int .i64 d, .int .i64 t, .int .i64 p, .slice a1 n c1, .slice a2 m c2] 52)) from (by repeat (first | exact Below.refl _ _ | (with_reducible assumption) | refine bw_alloc ?_ _ | refine bw_drew ?_)))).at_ hx
      have z1 : w.cell? ⟨g, o + k, none⟩ = some (.int .i64 x) := by
        obtain ⟨g', o', e, z1⟩ := I1.out.at_ hx
        cases e; exact z1
      have hk1 : (k : Int) < (n : Int) := by omega
      have hk0 : (0 : Int) ≤ (k : Int) := by omega
      have hg := block_of_cell z1
      by_cases hb : 1 ≤ x ∧ x ≤ c'
      · have y1 : decide (x < 1) = false := decide_eq_false (by omega)
        have y2 : decide (c' < x) = false := decide_eq_false (by omega)
        have HF2 : Hid (fillB (ch.drop (k + 1)) (c' - x) = fillB ch c) := by
          have := HF.out
          rw [fill_drop hx, if_pos hb] at this
          exact this
        have hw : IntKind.i64.wrap (c' - x) = c' - x := IntWalk.i64_in _ (by omega)
        have hx1 : 0 ≤ c' - x := by omega
        have hx2 : c' - x ≤ 1073741824 := by omega
        clear HF hb hx
        go_wp2
        go_round
        case rel => exact ⟨k + 1, c' - x, by omega, by go_num, by first | rfl | (rw [hw]), hx1, hx2, HF2⟩
        case measure => simp [intOf]; omega
      · have HF2 : Hid (fillB ch c = false) := by
          have := HF.out
          rw [fill_drop hx, if_neg hb] at this
          exact this.symm
        have hR : Hid (R = 13) := by
          show _ = _
          rw [← HR.out, if_pos (HB.out.1 (.inl ⟨HF2.out, by omega⟩))]
        have y : decide (x < 1) = true ∨ (decide (x < 1) = false ∧ decide (c' < x) = true) := by
          simp only [decide_eq_true_eq, decide_eq_false_iff_not]; omega
        clear HF hb hx
        rcases y with y1 | ⟨y1, y2⟩
        all_goals
          go_wp2
          go_ret
          rw [hR.out]
          exact ⟨rfl, (by repeat (first | exact Below.refl _ _ | (with_reducible assumption) | refine bw_alloc ?_ _ | refine bw_drew ?_))⟩
    · obtain rfl : n = k := by omega
      have HF2 : Hid ((c' == 0) = fillB ch c) := by
        have := HF.out
        rw [List.drop_of_length_le (by rw [HL.out]; exact Nat.le_refl _), fillB] at this
        exact this
      clear HF
      by_cases hbad : chBad ⟨id, c, d, t, p, a1, ch, c1, a2, us, c2⟩
      · have hR : Hid (R = 13) := by
          show _ = _
          rw [← HR.out, if_pos hbad]
        have y : decide ((64 : Int) < (n : Int)) = true ∨ (decide ((64 : Int) < (n : Int)) = false ∧ ¬ (64 : Int) < (n : Int) ∧ (0 : Int) < (n : Int) ∧ (c' == 0) = false) := by
          rcases HB.out.2 hbad with ⟨q1, q2⟩ | q
          · by_cases g : (64 : Int) < (n : Int)
            · exact .inl (decide_eq_true g)
            · exact .inr ⟨decide_eq_false g, g, by omega, HF2.out.trans q1⟩
          · exact .inl (decide_eq_true (by omega))
        clear hbad
        rcases y with y1 | ⟨y1, y2, y3, y4⟩
        · have y2 : (64 : Int) < (n : Int) := of_decide_eq_true y1
          go_wp2
          go_ret
          rw [hR.out]
          exact ⟨rfl, (by repeat (first | exact Below.refl _ _ | (with_reducible assumption) | refine bw_alloc ?_ _ | refine bw_drew ?_))⟩
        · have y5 : (c' != 0) = true := by rw [bne, y4]; rfl
          have y6 : 0 < n := by omega
          go_wp2
          go_ret
          rw [hR.out]
          exact ⟨rfl, (by repeat (first | exact Below.refl _ _ | (with_reducible assumption) | refine bw_alloc ?_ _ | refine bw_drew ?_))⟩
      · have HR2 : Hid ((if usBad ⟨id, c, d, t, p, a1, ch, c1, a2, us, c2⟩ s then (12 : Int) else 0) = R) := by
          show _ = _
          rw [← HR.out, if_neg hbad]
        have y1 : ¬ (64 : Int) < (n : Int) := fun z => hbad (HB.out.1 (.inr (by omega)))
        have y : (n = 0) ∨ (0 < n ∧ c' = 0) := by
          rcases Nat.eq_zero_or_pos n with z | z
          · exact .inl z
          · refine .inr ⟨z, ?_⟩
            by_cases g : c' = 0
            · exact g
            · exfalso
              refine hbad (HB.out.1 (.inl ⟨?_, z⟩))
              rw [← HF2.out, beq_eq_false_iff_ne]; exact g
        clear hbad HB HF2 HR
        have y' : (¬ (0 : Int) < (n : Int) ∧ ¬ 0 < n) ∨ ((0 : Int) < (n : Int) ∧ 0 < n ∧ (c' != 0) = false) := by
          rcases y with z | ⟨z, rfl⟩
          · exact .inl ⟨by omega, by omega⟩
          · exact .inr ⟨by omega, z, rfl⟩
        clear y
        rcases y' with ⟨y2, y3⟩ | ⟨y2, y3, y4⟩
        all_goals
          go_wp2
          go_loop [7] (fun u => ∃ k : Nat, k ≤ m ∧ u = .int .i64 k ∧ Hid ((us.take k).any (badB s) = false)) (fun u => (m - intOf u).toNat)
          case atStart => exact ⟨0, by omega, rfl, by show _ = _; simp⟩
          case round =>
            obtain ⟨k, hk, rfl, HS⟩ := hrel
            by_cases hlt2 : k < m
            · obtain ⟨x, hx⟩ := nth_of HM.out hlt2
              obtain ⟨g, o, rfl, z1⟩ := I2.out.at_ hx
              have hk1 : (k : Int) < (m : Int) := by omega
              have hk0 : (0 : Int) ≤ (k : Int) := by omega
              have hg := block_of_cell z1
              by_cases hf : badB s x = true
              · have HF := Lib.hid (any_found hx hf)
                have hR : Hid (R = 12) := by
                  show _ = _
                  rw [← HR2.out, if_pos (HU.out.1 (.inl HF.out))]
                have yy : decide (x < 0) = true ∨ (decide (x < 0) = false ∧ decide (s ≤ x) = true) := by
                  unfold badB at hf
                  simp only [decide_eq_true_eq, decide_eq_false_iff_not] at hf ⊢; omega
                clear hx hf HS
                rcases yy with y6 | ⟨y6, y7⟩
                all_goals
                  go_wp2
                  go_ret
                  rw [hR.out]
                  exact ⟨rfl, (by repeat (first | exact Below.refl _ _ | (with_reducible assumption) | refine bw_alloc ?_ _ | refine bw_drew ?_))⟩
              · have hf2 : badB s x = false := by simpa using hf
                have HS2 := Lib.hid (any_take HS.out hx hf2)
                unfold badB at hf2
                have y6 : decide (x < 0) = false := by simp only [decide_eq_false_iff_not] at hf2 ⊢; omega
                have y7 : decide (s ≤ x) = false := by simp only [decide_eq_false_iff_not] at hf2 ⊢; omega
                clear hx hf hf2 HS
                go_wp2
                go_round
                case rel => exact ⟨k + 1, by omega, by go_num, HS2⟩
                case measure => simp [intOf]; omega
            · obtain rfl : m = k := by omega
              have HF := Lib.hid (any_all HS.out HM.out)
              by_cases h9 : (64 : Int) < (m : Int)
              · have hR : Hid (R = 12) := by
                  show _ = _
                  rw [← HR2.out, if_pos (HU.out.1 (.inr (by omega)))]
                go_wp2
                go_ret
                rw [hR.out]
                exact ⟨rfl, (by repeat (first | exact Below.refl _ _ | (with_reducible assumption) | refine bw_alloc ?_ _ | refine bw_drew ?_))⟩
              · have hR : Hid (R = 0) := by
                  show _ = _
                  rw [← HR2.out, if_neg]
                  intro z
                  rcases HU.out.2 z with q | q
                  · rw [HF.out] at q; cases q
                  · omega
                go_wp2
                go_ret
                rw [hR.out]
                exact ⟨rfl, (by repeat (first | exact Below.refl _ _ | (with_reducible assumption) | refine bw_alloc ?_ _ | refine bw_drew ?_))⟩
end Go.Proofs.YtlpffgmfgkleiaaDoor

/-
  The walks over whether two rows of tasks, and two systems, are the same.
-/
namespace Go.Proofs.YtlpffgmfgkleiaaDoor
open Go.RowKit Go.Maps

theorem row_step {L M : List TV} {k : Nat} {x y : TV} (h : (L.take k).map TV.tk = (M.take k).map TV.tk) (hx : L[k]? = some x) (hy : M[k]? = some y) (e : x.tk = y.tk) : (L.take (k + 1)).map TV.tk = (M.take (k + 1)).map TV.tk := by
  rw [List.take_add_one, List.take_add_one, List.map_append, List.map_append, h, hx, hy]
  simp [e]
theorem row_end {L M : List TV} {k : Nat} (h : (L.take k).map TV.tk = (M.take k).map TV.tk) (hl : L.length = k) (hm : M.length = k) : L.map TV.tk = M.map TV.tk := by
  rwa [List.take_of_length_le (by omega), List.take_of_length_le (by omega)] at h
theorem row_not {L M : List TV} {k : Nat} {x y : TV} (hx : L[k]? = some x) (hy : M[k]? = some y) (e : ¬ x.tk = y.tk) : ¬ L.map TV.tk = M.map TV.tk := by
  intro h
  have h1 : (L.map TV.tk)[k]? = some x.tk := by simp [hx]
  have h2 : (M.map TV.tk)[k]? = some y.tk := by simp [hy]
  rw [h, h2] at h1; exact e (Option.some.inj h1).symm
theorem row_len {L M : List TV} (h : ¬ L.length = M.length) : ¬ L.map TV.tk = M.map TV.tk := by
  intro z
  have := congrArg List.length z
  simp at this; exact h this

set_option maxRecDepth 100000 in
set_option maxHeartbeats 4000000 in
theorem rsame_tasks {w : World} {a b : Option Addr} {n m ca cb : Nat} {L M : List TV} (ha : Tasks w a n ca L) (hb : Tasks w b m cb M) :
    Calls Tryd.prog 27 #[.slice a n ca, .slice b m cb] w fun e w' => e = .returned (.bool (decide (L.map TV.tk = M.map TV.tk))) ∧ Below w.heap.size w w' := by
  have HA := Lib.hid ha
  have HB := Lib.hid hb
  have hn : (n : Int) ≤ 9223372036854775807 := by have := ha.le; have := ha.small; omega
  have hm : (m : Int) ≤ 9223372036854775807 := by have := hb.le; have := hb.small; omega
  clear ha hb
  by_cases hnm : n = m
  · subst hnm
    go_enter Tryd.func27, Tryd.ntmps27
    go_wp2_with fail
    go_loopw [5] (fun u wr => ∃ k : Nat, k ≤ n ∧ u = .int .i64 k ∧ Hid ((L.take k).map TV.tk = (M.take k).map TV.tk) ∧ Hid (Below w.heap.size w wr)) (fun u _ => (n - intOf u).toNat)
    case atStart => exact ⟨0, by omega, rfl, by show _ = _; simp, Below.refl _ _⟩
    case round =>
      obtain ⟨k, hk, rfl, HS, HP⟩ := hrel
      by_cases hlt : k < n
      · obtain ⟨x, hx⟩ := nth_of HA.out.len hlt
        obtain ⟨y, hy⟩ := nth_of HB.out.len hlt
        obtain ⟨g, o, rfl, ⟨c0, c1, c2, c3, c4, c5, c6⟩⟩ := (HA.out.view.below HP.out).at_ hx
        obtain ⟨g2, o2, rfl, ⟨d0, d1, d2, d3, d4, d5, d6⟩⟩ := (HB.out.view.below HP.out).at_ hy
        have hk1 : (k : Int) < (n : Int) := by omega
        have hk0 : (0 : Int) ≤ (k : Int) := by omega
        have C : Hid (∀ w', Below wr.heap.size wr w' → _) := fun w' hb => rsame_task x y w' (((HA.out.ok.at_ hx).below HP.out).below hb) (((HB.out.ok.at_ hy).below HP.out).below hb)
        unfold TV.val at C
        by_cases hxy : x.tk = y.tk
        · have HS2 := Lib.hid (row_step HS.out hx hy hxy)
          rw [decide_eq_true hxy] at C
          clear hx hy HS hxy
          go_upto_region 6 with fail
          go_still_tail 8, (by kernel_rfl)
          go_wp2_with (go_at_call 47; (with_reducible refine (C.out _ (by repeat (first | exact Below.refl _ _ | (with_reducible assumption) | refine bw_alloc ?_ _ | refine bw_drew ?_))).mono ?_); rintro e w1 ⟨rfl, b1⟩; have B1 := Lib.hid b1; clear b1)
          go_roundw
          case rel => exact ⟨k + 1, by omega, by go_num, HS2, below_up HP.out (below_up (by repeat (first | exact Below.refl _ _ | (with_reducible assumption) | refine bw_alloc ?_ _ | refine bw_drew ?_)) B1.out)⟩
          case measure => simp [intOf]; omega
        · have HN := Lib.hid (row_not hx hy hxy)
          rw [decide_eq_false hxy] at C
          clear hx hy HS hxy
          go_upto_region 6 with fail
          go_still_tail 8, (by kernel_rfl)
          go_wp2_with (go_at_call 47; (with_reducible refine (C.out _ (by repeat (first | exact Below.refl _ _ | (with_reducible assumption) | refine bw_alloc ?_ _ | refine bw_drew ?_))).mono ?_); rintro e w1 ⟨rfl, b1⟩; have B1 := Lib.hid b1; clear b1)
          go_ret
          rw [decide_eq_false HN.out]
          exact ⟨rfl, below_up HP.out (below_up (by repeat (first | exact Below.refl _ _ | (with_reducible assumption) | refine bw_alloc ?_ _ | refine bw_drew ?_)) B1.out)⟩
      · obtain rfl : k = n := by omega
        have HQ := Lib.hid (row_end HS.out HA.out.len HB.out.len)
        go_wp2_with fail
        go_ret
        rw [decide_eq_true HQ.out]
        exact ⟨rfl, HP.out⟩
  · have HQ := Lib.hid (row_len (L := L) (M := M) (by rw [HA.out.len, HB.out.len]; exact hnm))
    have d1 : ((n : Int) == (m : Int)) = false := by rw [beq_eq_false_iff_ne]; omega
    have d2 : ((n : Int) != (m : Int)) = true := by rw [bne, d1]; rfl
    go_enter Tryd.func27, Tryd.ntmps27
    go_wp2_with fail
    go_ret
    rw [decide_eq_false HQ.out]
    exact ⟨rfl, Below.refl _ _⟩

/-- A system by value. -/
abbrev sysV (s r : Int) (a : Option Addr) (n cap : Nat) : Value := .agg #[.int .i64 s, .int .i64 r, .slice a n cap]
end Go.Proofs.YtlpffgmfgkleiaaDoor
