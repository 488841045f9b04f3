/-
  The walks over the set of a row, and over how many are in a set.
-/
import Derived.Test.YtigafpmhgogpmaaDoorBWalk4
namespace Go.Proofs.YtigafpmhgogpmaaDoor
open Go.RowKit

/-- All of the first n of a row. -/
def ofN (l : List Int) : Nat → Nat → Bool
  | 0 => noneP
  | n + 1 => orP (ofN l n) (oneP (l.getD n 0))

set_option maxHeartbeats 2000000 in
theorem of_any (l : List Int) (hl : (l.length : Int) ≤ 9223372036854775807) (hu : ∀ x ∈ l, x ≤ 9223372036854775807) (cap : Nat) (ao : Option Addr) (w : World) (hs : Reads w w.heap.size ao l) :
    Calls Tryd.prog 20 #[.slice ao l.length cap] w fun e w' => e = .returned (.agg #[.int .u64 (wd (ofN l l.length) 0), .int .u64 (wd (ofN l l.length) 1), .int .u64 (wd (ofN l l.length) 2), .int .u64 (wd (ofN l l.length) 3)]) ∧ Below w.heap.size w w' := by
  have HS := Lib.hid hs
  have HU := Lib.hid hu
  clear hs hu
  go_enter Tryd.func20, Tryd.ntmps20
  go_wp2
  go_loopw [8] (fun i wr => ∃ k : Nat, k ≤ l.length ∧ i = .int .i64 k ∧ Four wr (w.heap.size + 1) (wd (ofN l k) 0) (wd (ofN l k) 1) (wd (ofN l k) 2) (wd (ofN l k) 3) ∧ Four wr w.heap.size 0 0 0 0 ∧ Below w.heap.size w wr) (fun i _ => (l.length - intOf i).toNat)
  case atStart =>
    refine ⟨0, by omega, rfl, ?_, ?_, ((Below.refl _ _).alloc (Nat.le_refl _) _).alloc (by simp) _⟩
    · have := Four.new (w.alloc (.cells #[.int .u64 0, .int .u64 0, .int .u64 0, .int .u64 0] 24)) 0 0 0 0 24
      simpa [ofN, wd_none] using this
    · exact (Four.new w 0 0 0 0 _).alloc _
  case round =>
    obtain ⟨k, hk, rfl, hx, hz, hb⟩ := hrel
    have HX := Lib.hid hx
    have HZ := Lib.hid hz
    have HB := Lib.hid hb
    clear hb
    obtain ⟨x0, x1, x2, x3, g0, g1, g2, g3⟩ := hx
    by_cases hlt : k < l.length
    · obtain ⟨b, off, rfl, hbb, hc⟩ : ∃ b off, ao = some ⟨b, off, none⟩ ∧ b < w.heap.size ∧ ∀ k, k < l.length → wr.cell? ⟨b, off + k, none⟩ = some (.int .i64 (l.getD k 0)) := by
        rcases HS.out.below HB.out with h | h
        · rw [h] at hlt; exact absurd hlt (Nat.not_lt_zero _)
        · exact h
      have hck := hc k hlt
      clear hc
      have hz : l.getD k 0 ≤ 9223372036854775807 := HU.out _ (by rw [List.getD_eq_getElem?_getD, List.getElem?_eq_getElem hlt]; exact List.getElem_mem _)
      have C := Lib.hid (fun w => with_any (ofN l k) (l.getD k 0) hz w)
      have HR : Hid (wd (orP (ofN l k) (oneP (l.getD k 0))) = wd (ofN l (k + 1))) := by show _ = _; rfl
      clear hz
      generalize wd (orP (ofN l k) (oneP (l.getD k 0))) = r at C HR
      generalize l.getD k 0 = v at hck C
      generalize wd (ofN l k) = a at x0 x1 x2 x3 C HX
      go_wp2_with (go_at_call 13; (refine (C.out _).mono ?_); rintro e w1 ⟨rfl, hw1⟩; have HX1 := Lib.hid (Four.next hw1 HX.out); have HZ1 := Lib.hid (Four.next hw1 HZ.out); have HB1 := Lib.hid (below_next hw1 HB.out (Nat.le_refl _)); obtain ⟨y0, y1, y2, y3, k0, k1, k2, k3⟩ := HX1.out; clear hw1)
      go_roundw
      case rel =>
        refine ⟨k + 1, by omega, by go_num, ?_, HZ1.out.far4 (by omega) (r 0) (r 1) (r 2) (r 3), below_set4 HB1.out (by omega) (r 0) (r 1) (r 2) (r 3)⟩
        rw [← HR.out]
        exact HX1.out.set4 (r 0) (r 1) (r 2) (r 3)
      case measure => simp [intOf]; omega
    · obtain rfl : k = l.length := by omega
      obtain ⟨z0, z1, z2, z3, v0, v1, v2, v3⟩ := hz
      go_wp2
      refine bodyPost_ret (v := .agg #[.int .u64 (wd (ofN l l.length) 0), .int .u64 (wd (ofN l l.length) 1), .int .u64 (wd (ofN l l.length) 2), .int .u64 (wd (ofN l l.length) 3)]) ?_ rfl ⟨rfl, below_set4 HB.out (by omega) (wd (ofN l l.length) 0) (wd (ofN l l.length) 1) (wd (ofN l l.length) 2) (wd (ofN l l.length) 3)⟩
      obtain ⟨s0, s1, s2, s3, _, _, _, _⟩ := HZ.out.set4 (wd (ofN l l.length) 0) (wd (ofN l l.length) 1) (wd (ofN l l.length) 2) (wd (ofN l l.length) 3)
      unfold set4 at s0 s1 s2 s3
      simp [results, Tryd.results20, go_sem, s0, s1, s2, s3]

theorem index_0 (x0 x1 x2 x3 : Nat) (w : World) : (Instr.index 24 (.agg #[.int .u64 x0, .int .u64 x1, .int .u64 x2, .int .u64 x3]) (.int .i64 0)).run Tryd.prog w = .ok (.int .u64 x0) w := by kernel_rfl
theorem index_1 (x0 x1 x2 x3 : Nat) (w : World) : (Instr.index 24 (.agg #[.int .u64 x0, .int .u64 x1, .int .u64 x2, .int .u64 x3]) (.int .i64 1)).run Tryd.prog w = .ok (.int .u64 x1) w := by kernel_rfl
theorem index_2 (x0 x1 x2 x3 : Nat) (w : World) : (Instr.index 24 (.agg #[.int .u64 x0, .int .u64 x1, .int .u64 x2, .int .u64 x3]) (.int .i64 2)).run Tryd.prog w = .ok (.int .u64 x2) w := by kernel_rfl
theorem index_3 (x0 x1 x2 x3 : Nat) (w : World) : (Instr.index 24 (.agg #[.int .u64 x0, .int .u64 x1, .int .u64 x2, .int .u64 x3]) (.int .i64 3)).run Tryd.prog w = .ok (.int .u64 x3) w := by kernel_rfl

/-- How many are in the first k words. -/
def cntW (p : Nat → Bool) : Nat → Nat
  | 0 => 0
  | k + 1 => cntW p k + cntN (wd p k).testBit 64
theorem cntW_eq (p : Nat → Bool) : ∀ k, cntW p k = cntN p (64 * k)
  | 0 => rfl
  | k + 1 => by
    rw [show 64 * (k + 1) = 64 * k + 64 by omega, cntN_add, ← cntW_eq p k]
    show cntW p k + _ = _
    congr 1
    exact cntN_congr fun j hj => wd_bit p k hj

set_option maxHeartbeats 2000000 in
theorem len_core (p : Nat → Bool) (w : World) :
    Calls Tryd.prog 28 #[.agg #[.int .u64 (wd p 0), .int .u64 (wd p 1), .int .u64 (wd p 2), .int .u64 (wd p 3)]] w fun e w' => e = .returned (.int .i64 (cntW p 4)) ∧ Below w.heap.size w w' := by
  have HL : Hid (∀ k, k ≤ 4 → cntW p k ≤ 256) := fun k hk => by rw [cntW_eq]; have := cntN_le p (64 * k); omega
  have HC : Hid (∀ k w, Calls Tryd.prog 32 #[.int .u64 (wd p k)] w fun e w' => e = .returned (.int .i64 (cntN (wd p k).testBit 64)) ∧ w = w') := fun k w => count_any _ (wd_lt p k) w
  have H0 : cntW p 0 = 0 := rfl
  have HS : Hid (∀ k, cntW p (k + 1) = cntW p k + cntN (wd p k).testBit 64) := fun _ => rfl
  have HN : Hid (∀ k, cntN (wd p k).testBit 64 ≤ 64) := fun k => cntN_le _ 64
  generalize wd p = a at HC HS HN ⊢
  generalize cntW p = c at HL H0 HS ⊢
  go_enter Tryd.func28, Tryd.ntmps28
  go_wp2
  go_loop [3, 7] (fun n i => ∃ k : Nat, k ≤ 4 ∧ i = .int .i64 k ∧ n = .int .i64 (c k)) (fun _ i => (4 - intOf i).toNat)
  case atStart => exact ⟨0, by omega, rfl, by rw [H0]; rfl⟩
  case round =>
    obtain ⟨k, hk, rfl, rfl⟩ := hrel
    have hle := HL.out k hk
    rcases (show k = 0 ∨ k = 1 ∨ k = 2 ∨ k = 3 ∨ k = 4 by omega) with rfl | rfl | rfl | rfl | rfl
    rotate_left 4
    · clear H0
      go_wp2
      go_ret
      exact ⟨rfl, (Below.refl _ _).alloc (Nat.le_refl _) _⟩
    · have C := Lib.hid (HC.out 0)
      have hn := HN.out 0
      have hs := Lib.hid (HS.out 0)
      have hix := index_0 (a 0) (a 1) (a 2) (a 3)
      clear H0
      generalize cntN (a 0).testBit 64 = m at C hn hs
      go_wp2_with (go_at_call 32; (refine (C.out _).mono ?_); rintro e w' ⟨rfl, rfl⟩)
      go_round
      case rel => exact ⟨0 + 1, by omega, rfl, by rw [hs.out]; go_num⟩
      case measure => simp [intOf]
    · have C := Lib.hid (HC.out 1)
      have hn := HN.out 1
      have hs := Lib.hid (HS.out 1)
      have hix := index_1 (a 0) (a 1) (a 2) (a 3)
      clear H0
      generalize cntN (a 1).testBit 64 = m at C hn hs
      go_wp2_with (go_at_call 32; (refine (C.out _).mono ?_); rintro e w' ⟨rfl, rfl⟩)
      go_round
      case rel => exact ⟨1 + 1, by omega, rfl, by rw [hs.out]; go_num⟩
      case measure => simp [intOf]
    · have C := Lib.hid (HC.out 2)
      have hn := HN.out 2
      have hs := Lib.hid (HS.out 2)
      have hix := index_2 (a 0) (a 1) (a 2) (a 3)
      clear H0
      generalize cntN (a 2).testBit 64 = m at C hn hs
      go_wp2_with (go_at_call 32; (refine (C.out _).mono ?_); rintro e w' ⟨rfl, rfl⟩)
      go_round
      case rel => exact ⟨2 + 1, by omega, rfl, by rw [hs.out]; go_num⟩
      case measure => simp [intOf]
    · have C := Lib.hid (HC.out 3)
      have hn := HN.out 3
      have hs := Lib.hid (HS.out 3)
      have hix := index_3 (a 0) (a 1) (a 2) (a 3)
      clear H0
      generalize cntN (a 3).testBit 64 = m at C hn hs
      go_wp2_with (go_at_call 32; (refine (C.out _).mono ?_); rintro e w' ⟨rfl, rfl⟩)
      go_round
      case rel => exact ⟨3 + 1, by omega, rfl, by rw [hs.out]; go_num⟩
      case measure => simp [intOf]

theorem len_any (p : Nat → Bool) (w : World) :
    Calls Tryd.prog 28 #[.agg #[.int .u64 (wd p 0), .int .u64 (wd p 1), .int .u64 (wd p 2), .int .u64 (wd p 3)]] w fun e w' => e = .returned (.int .i64 (cntN p 256)) ∧ Below w.heap.size w w' := by
  have h := len_core p w
  rw [cntW_eq] at h
  exact h

end Go.Proofs.YtigafpmhgogpmaaDoor
