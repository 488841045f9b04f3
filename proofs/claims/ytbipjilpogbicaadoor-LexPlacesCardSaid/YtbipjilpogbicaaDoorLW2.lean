/-
  The walks over texts that are cut, and over pairs.
-/
import Derived.Test.YtbipjilpogbicaaDoorLW1
namespace Go.Proofs.YtbipjilpogbicaaDoor
open Go.RowKit Go.Maps

def shortOf (s : ByteArray) (n : Nat) : ByteArray := if n < s.size then s.extract 0 n else s
set_option maxHeartbeats 1000000 in
theorem short_any (s : ByteArray) (n : Nat) (hn : (n : Int) ≤ 1000000) (w : World) : Calls Tryd.prog 10 #[.string s, .int .i64 n] w fun e w' => e = .returned (.string (shortOf s n)) ∧ w = w' := by
  unfold shortOf
  by_cases h : n < s.size
  · rw [if_pos h]
    have h1 : (n : Int) < (s.size : Int) := by omega
    have h2 : (n : Int) ≤ (s.size : Int) := by omega
    go_enter Tryd.func10, Tryd.ntmps10
    go_wp2
    go_ret
    exact ⟨rfl, rfl⟩
  · rw [if_neg h]
    have h1 : ¬ (n : Int) < (s.size : Int) := by omega
    go_enter Tryd.func10, Tryd.ntmps10
    go_wp2
    go_ret
    exact ⟨rfl, rfl⟩

/-- The first place of a byte. -/
def FirstByte (s : ByteArray) (c : Nat) (i : Nat) : Prop := i < s.size ∧ byteAt s i = c ∧ ∀ j, j < i → byteAt s j ≠ c
def NoByte (s : ByteArray) (c : Nat) : Prop := ∀ j, j < s.size → byteAt s j ≠ c
/-- A text without a line's end. -/
def LineIs (s t : ByteArray) : Prop := (NoByte s 10 ∧ t = s) ∨ ∃ i, FirstByte s 10 i ∧ t = s.extract 0 i
set_option maxRecDepth 100000 in
set_option maxHeartbeats 2000000 in
theorem line_any (s : ByteArray) (hs : (s.size : Int) ≤ 9223372036854775807) (w : World) : Calls Tryd.prog 27 #[.string s] w fun e w' => ∃ t, e = .returned (.string t) ∧ LineIs s t ∧ w = w' := by
  go_enter Tryd.func27, Tryd.ntmps27
  go_wp2_with fail
  go_loop [3] (fun u => ∃ i : Nat, i ≤ s.size ∧ u = .int .i64 i ∧ Hid (∀ j, j < i → byteAt s j ≠ 10)) (fun u => (s.size - intOf u).toNat)
  case atStart => exact ⟨0, by omega, rfl, fun j hj => absurd hj (Nat.not_lt_zero _)⟩
  case round =>
    obtain ⟨i, hi, rfl, HS⟩ := hrel
    by_cases hlt : i < s.size
    · have hk1 : (i : Int) < (s.size : Int) := by omega
      have hk2 : (i : Int) ≤ (s.size : Int) := by omega
      have hk0 : (0 : Int) ≤ (i : Int) := by omega
      have hb := (byteAt_in s hlt).2
      by_cases hq : s[i].toNat = 10
      · have d1 : ((s[i].toNat : Int) == 10) = true := by rw [beq_iff_eq]; omega
        have HF : Hid (FirstByte s 10 i) := ⟨hlt, by rw [hb]; exact hq, HS.out⟩
        clear hb hq
        go_wp2_with fail
        go_ret
        exact ⟨_, rfl, .inr ⟨i, HF.out, rfl⟩, rfl⟩
      · have d1 : ((s[i].toNat : Int) == 10) = false := by rw [beq_eq_false_iff_ne]; omega
        have HS2 : Hid (∀ j, j < i + 1 → byteAt s j ≠ 10) := fun j hj => by
          rcases Nat.lt_or_ge j i with h | h
          · exact HS.out j h
          · have e : j = i := by omega
            subst e; rw [hb]; exact hq
        clear hb hq HS
        go_wp2_with fail
        go_round
        case rel => exact ⟨i + 1, by omega, by go_num, HS2⟩
        case measure => simp [intOf]; omega
    · have e : i = s.size := by omega
      have HN : Hid (NoByte s 10) := fun j hj => HS.out j (by omega)
      have hk1 : ¬ (i : Int) < (s.size : Int) := by omega
      clear e HS
      go_wp2_with fail
      go_ret
      exact ⟨_, rfl, .inl ⟨HN.out, rfl⟩, rfl⟩

theorem zeroTwo (w : World) : (zeroValue 41).run Tryd.prog w = .ok (.agg #[.string ⟨#[]⟩, .string ⟨#[]⟩, .bool false]) w := by kernel_rfl
/-- What a pair is made of. -/
def PairIs (s : ByteArray) (x y : ByteArray) (b : Bool) : Prop :=
  (NoByte s 61 ∧ x = ⟨#[]⟩ ∧ y = ⟨#[]⟩ ∧ b = false) ∨ ∃ i, FirstByte s 61 i ∧ x = s.extract 0 i ∧ y = s.extract (i + 1) s.size ∧ b = true
def PairBack (s : ByteArray) (w : World) (e : Ending) (w' : World) : Prop := ∃ x y b, e = .returned (.agg #[.string x, .string y, .bool b]) ∧ PairIs s x y b ∧ Below w.heap.size w w'
set_option maxRecDepth 100000 in
set_option maxHeartbeats 2000000 in
theorem rpair_any (s : ByteArray) (hs : (s.size : Int) ≤ 9223372036854775807) (w : World) : Calls Tryd.prog 21 #[.string s] w (PairBack s w) := by
  have hz := zeroTwo
  go_enter Tryd.func21, Tryd.ntmps21
  go_upto_region 1 with fail
  refine gen_world (fun v => Below w.heap.size w v ∧ v.heap[w.heap.size]? = some (.cells #[.string ⟨#[]⟩, .string ⟨#[]⟩, .bool false] 41 (0, 0))) ⟨(by repeat (first | exact Below.refl _ _ | (with_reducible assumption) | refine bw_alloc ?_ _ | refine bw_drew ?_)), heap_alloc_new w _⟩ ?_
  intro W1 ⟨hl1, hb1⟩
  have HL := Lib.hid hl1
  have r0 : W1.cell? ⟨w.heap.size, 0, none⟩ = some (.string ⟨#[]⟩) := by rw [blk_cell hb1]; rfl
  have r1 : W1.cell? ⟨w.heap.size, 1, none⟩ = some (.string ⟨#[]⟩) := by rw [blk_cell hb1]; rfl
  have r2 : W1.cell? ⟨w.heap.size, 2, none⟩ = some (.bool false) := by rw [blk_cell hb1]; rfl
  have f0 := blk_free hb1 0
  have f1 := blk_free hb1 1
  have f2 := blk_free hb1 2
  have hr := lt_of_block hb1
  clear hl1 hb1
  go_wp2_with fail
  go_loop [3] (fun u => ∃ i : Nat, i ≤ s.size ∧ u = .int .i64 i ∧ Hid (∀ j, j < i → byteAt s j ≠ 61)) (fun u => (s.size - intOf u).toNat)
  case atStart => exact ⟨0, by omega, rfl, fun j hj => absurd hj (Nat.not_lt_zero _)⟩
  case round =>
    obtain ⟨i, hi, rfl, HS⟩ := hrel
    by_cases hlt : i < s.size
    · have hk1 : (i : Int) < (s.size : Int) := by omega
      have hk2 : (i : Int) ≤ (s.size : Int) := by omega
      have hk0 : (0 : Int) ≤ (i : Int) := by omega
      have hb := (byteAt_in s hlt).2
      by_cases hq : s[i].toNat = 61
      · have d1 : ((s[i].toNat : Int) == 61) = true := by rw [beq_iff_eq]; omega
        have HF : Hid (FirstByte s 61 i) := ⟨hlt, by rw [hb]; exact hq, HS.out⟩
        have hk3 : (i : Int) + 1 ≤ (s.size : Int) := by omega
        have hk4 : (0 : Int) ≤ (i : Int) + 1 := by omega
        clear hb hq
        have HD : Hid (∀ v, Below w.heap.size w v → PairBack s w (.returned (.agg #[.string (s.extract 0 i), .string (s.extract (i + 1) s.size), .bool true])) v) := fun v hv => ⟨_, _, _, rfl, .inr ⟨i, HF.out, rfl, rfl, rfl⟩, hv⟩
        have hwi : IntKind.i64.wrap ((i : Int) + 1) = ((i + 1 : Nat) : Int) := (IntWalk.i64_in _ (by omega)).trans (by omega)
        have hk5 : ((i + 1 : Nat) : Int) ≤ (s.size : Int) := by omega
        have hk6 : (0 : Int) ≤ ((i + 1 : Nat) : Int) := by omega
        clear hk3 hk4 HS
        go_upto_region 5 with fail
        go_region
        all_goals
          go_wp2_with fail
          exact bodyPost_ret (v := .agg #[.string (s.extract 0 i), .string (s.extract (i + 1) s.size), .bool true]) (by simp [results, Tryd.results21, go_sem, r0, r1, r2]) rfl (HD.out _ (((HL.out.drew.setCell (p := ⟨w.heap.size, 0, none⟩) (Nat.le_refl _) _).setCell (p := ⟨w.heap.size, 1, none⟩) (Nat.le_refl _) _).setCell (p := ⟨w.heap.size, 2, none⟩) (Nat.le_refl _) _))
      · have d1 : ((s[i].toNat : Int) == 61) = false := by rw [beq_eq_false_iff_ne]; omega
        have HS2 : Hid (∀ j, j < i + 1 → byteAt s j ≠ 61) := fun j hj => by
          rcases Nat.lt_or_ge j i with h | h
          · exact HS.out j h
          · have e : j = i := by omega
            subst e; rw [hb]; exact hq
        clear hb hq HS
        go_wp2_with fail
        go_round
        case rel => exact ⟨i + 1, by omega, by go_num, HS2⟩
        case measure => simp [intOf]; omega
    · have e : i = s.size := by omega
      have HN : Hid (NoByte s 61) := fun j hj => HS.out j (by omega)
      have hk1 : ¬ (i : Int) < (s.size : Int) := by omega
      clear e HS
      go_wp2_with fail
      exact bodyPost_ret (v := .agg #[.string ⟨#[]⟩, .string ⟨#[]⟩, .bool false]) (by simp [results, Tryd.results21, go_sem, r0, r1, r2]) rfl ⟨⟨#[]⟩, ⟨#[]⟩, false, rfl, .inl ⟨HN.out, rfl, rfl, rfl⟩, ((HL.out.setCell (p := ⟨w.heap.size, 0, none⟩) (Nat.le_refl _) _).setCell (p := ⟨w.heap.size, 1, none⟩) (Nat.le_refl _) _).setCell (p := ⟨w.heap.size, 2, none⟩) (Nat.le_refl _) _⟩
end Go.Proofs.YtbipjilpogbicaaDoor
