/-
  The walk over a number of a text, rune by rune.
-/
import Derived.Test.YtbipjilpogbicaaDoorLDec
import Derived.Test.YtbipjilpogbicaaDoorLW3
import Derived.Lib.OthersKept
namespace Go.Proofs.YtbipjilpogbicaaDoor
open Go.RowKit Go.Maps

theorem nrun_le (s : ByteArray) {i n : Nat} (h : nrun s i = some n) : ∀ j m, i ≤ j → nrun s j = some m → n ≤ m := by
  intro j
  induction j with
  | zero =>
    intro m hj hm
    have : i = 0 := by omega
    subst this
    rw [h] at hm; cases hm; exact Nat.le_refl _
  | succ j ih =>
    intro m hj hm
    rcases Nat.lt_or_ge j i with q | q
    · have : i = j + 1 := by omega
      subst this
      rw [h] at hm; cases hm; exact Nat.le_refl _
    · rw [nrun] at hm
      split at hm
      · cases hm
      · rename_i k hk
        split at hm
        · cases hm
        · cases hm
          have := ih k q hk
          omega
/-- What the number is when a byte is no digit, or makes it too great. -/
theorem num_none (s : ByteArray) (most : Int) {p n : Nat} (hp : p < s.size) (hn : nrun s p = some n)
    (hb : byteAt s p < 48 ∨ 57 < byteAt s p ∨ most < (10 * n + (byteAt s p - 48) : Nat)) : numOf s most = none := by
  unfold numOf
  split
  · rfl
  · split
    · rfl
    · rename_i m hm
      by_cases hd : byteAt s p < 48 ∨ 57 < byteAt s p
      · have h1 : nrun s (p + 1) = none := by
          rw [nrun, hn]; simp only []
          rw [if_pos (by omega)]
        rw [nrun_none s h1 s.size (by omega)] at hm
        cases hm
      · cases h1 : nrun s (p + 1) with
        | none =>
          rw [nrun_none s h1 s.size (by omega)] at hm
          cases hm
        | some k =>
          have hk := nrun_le s h1 s.size m (by omega) hm
          rw [nrun, hn] at h1
          simp only [] at h1
          split at h1
          · cases h1
          · cases h1
            rw [if_pos (by omega)]
theorem num_some (s : ByteArray) (most : Int) {n : Nat} (h0 : ¬ (s.size = 0 ∨ (1 < s.size ∧ byteAt s 0 = 48))) (hn : nrun s s.size = some n) (hm : (n : Int) ≤ most) : numOf s most = some n := by
  unfold numOf
  rw [if_neg h0, hn]
  simp only []
  rw [if_neg (by omega)]
/-- A number that comes back from the program. -/
def NumIs (o : Option Nat) (w : World) (e : Ending) (w' : World) : Prop :=
  e = .returned (.tuple #[.int .i64 ((o.getD 0 : Nat) : Int), .bool o.isSome]) ∧ Below w.heap.size w w'

set_option maxRecDepth 100000 in
set_option maxHeartbeats 4000000 in
theorem number_any (s : ByteArray) (hs : (s.size : Int) ≤ 9223372036854775807) (most : Int) (hmost : I64 most) (w : World) : Calls Tryd.prog 16 #[.string s, .int .i64 most] w (NumIs (numOf s most) w) := by
  unfold I64 at hmost
  by_cases h0 : s.size = 0
  · have hn : numOf s most = none := by unfold numOf; rw [if_pos (.inl h0)]
    rw [hn]
    have he : s = ⟨#[]⟩ := by
      obtain ⟨d⟩ := s
      have : d.size = 0 := h0
      rw [Array.eq_empty_of_size_eq_zero this]
    subst he
    clear hn h0
    go_enter Tryd.func16, Tryd.ntmps16
    go_wp2
    go_step3
    go_wp2
    rw [Exit.noGoto_ret]
    exact bodyPost_ret (v := .tuple #[.int .i64 0, .bool false]) (by simp [results, Tryd.results16, go_sem]) rfl ⟨rfl, Below.refl _ _⟩
  · have hes := nonempty s h0
    have hp : 0 < s.size := by omega
    have h00 := (byteAt_in s hp).2
    by_cases hz0 : 1 < s.size ∧ byteAt s 0 = 48
    · have hn : numOf s most = none := by unfold numOf; rw [if_pos (.inr hz0)]
      rw [hn]
      have d1 : ((s[0].toNat : Int) == 48) = true := by rw [beq_iff_eq]; omega
      have d2 : (s.toList == [48]) = false := by
        rw [beq_eq_false_iff_ne]
        intro e
        have h1 := loop_len s s.size 0 [] (by omega)
        have h2 : (ByteArray.toList.loop s 0 []).length = 1 := by
          show s.toList.length = 1
          rw [e]; rfl
        simp at h1
        omega
      clear hn hz0 h0 h00
      go_enter Tryd.func16, Tryd.ntmps16
      go_wp2
      go_step3
      go_wp2
      rw [Exit.noGoto_ret]
      exact bodyPost_ret (v := .tuple #[.int .i64 0, .bool false]) (by simp [results, Tryd.results16, go_sem]) rfl ⟨rfl, Below.refl _ _⟩
    · have HOK : Hid (¬ (s.size = 0 ∨ (1 < s.size ∧ byteAt s 0 = 48))) := by rintro (q | q); exact h0 q; exact hz0 q
      have hor : ((((s[0].toNat : Int) == 48) = true ∧ (s.toList == [48]) = true) ∨ ((s[0].toNat : Int) == 48) = false) := by
        by_cases h48 : byteAt s 0 = 48
        · left
          have h1 : s.size = 1 := by omega
          refine ⟨by rw [beq_iff_eq]; omega, ?_⟩
          have e : s = ⟨#[48]⟩ := by
            obtain ⟨⟨l⟩⟩ := s
            match l, h1 with
            | [c], _ =>
              have : c.toNat = 48 := by rw [h00] at h48; exact h48
              have : c = 48 := UInt8.toNat_inj.1 this
              rw [this]
          subst e
          show (ByteArray.toList.loop ⟨#[48]⟩ 0 [] == [48]) = true
          rw [ByteArray.toList.loop, if_pos (by decide), ByteArray.toList.loop, if_neg (by decide)]
          rfl
        · right; rw [beq_eq_false_iff_ne]; omega
      rcases hor with ⟨d1, d2⟩ | d1
      all_goals
        clear hz0 h0 h00
        go_enter Tryd.func16, Tryd.ntmps16
        go_wp2
        go_step3
        go_wp2
        go_step3
        go_wp2
        go_loopw [6, 7] (fun u v wr => ∃ p n : Nat, p ≤ s.size ∧ u = .int .i64 n ∧ v = .int .i64 p ∧ n ≤ 9223372036854775807 ∧ Hid (nrun s p = some n) ∧ Hid ((n : Int) ≤ most ∨ p = 0) ∧ Hid (Below w.heap.size w wr) ∧ Hid (wr.heap[w.heap.size]? = some (.stringIter s p))) (fun _ _ wr => s.size - wr.iterPos w.heap.size)
        case atStart => exact ⟨0, 0, by omega, rfl, rfl, by omega, rfl, .inr rfl, (Below.refl _ w).alloc (Nat.le_refl _) (.stringIter s 0), World.iter_heap w s 0⟩
        case round =>
          obtain ⟨p, n, hps, rfl, rfl, hn63, HS, HM, HB, HIT⟩ := hrel
          clear hes d1
          by_cases hlt : p < s.size
          · obtain ⟨r, wd, hd⟩ : ∃ r wd, Utf8.decode s p = (r, wd) := ⟨_, _, rfl⟩
            have hnx : ∀ ty, (Instr.next (.pointer (some ⟨w.heap.size, 0, none⟩)) true ty).run Tryd.prog wr = _ := fun ty => Lib.run_next_any_at wr w.heap.size s p ty HIT.out hlt
            simp only [hd] at hnx
            have hr9 := decode_le s p
            rw [hd] at hr9
            simp only [] at hr9
            have hlow : (byteAt s p < 128 ∧ r = byteAt s p ∧ wd = 1) ∨ (128 ≤ byteAt s p ∧ 128 ≤ r) := by
              by_cases hb : byteAt s p < 128
              · have := dec_low s p hlt hb
                rw [hd] at this
                injection this with h1 h2
                exact .inl ⟨hb, h1, h2⟩
              · have := dec_high s p hlt (by omega)
                rw [hd] at this
                exact .inr ⟨by omega, this.1⟩
            have HB2 : Hid (Below w.heap.size w (wr.iterAt w.heap.size s (p + wd))) := Lib.below_iterAt HB.out (Nat.le_refl _) _ _
            have HI2 : Hid ((wr.iterAt w.heap.size s (p + wd)).heap[w.heap.size]? = some (.stringIter s (p + wd))) := Lib.iterAt_heap _ _ _ _ _ HIT.out
            obtain ⟨D, hD⟩ : ∃ D : Int, (r : Int) - 48 = D := ⟨_, rfl⟩
            have hw32 : IntKind.i32.wrap ((r : Int) - 48) = D := by rw [IntKind.wrap_i32]; omega
            have hw64 : IntKind.i64.wrap D = D := IntWalk.i64_in _ (by omega)
            have hpl : (p : Int) < (s.size : Int) := by omega
            by_cases h1 : D < 0
            · have HNO : Hid (numOf s most = none) := num_none s most hlt HS.out (by omega)
              clear hd hlow hr9 hD
              go_wp2
              exact bodyPost_ret (v := .tuple #[.int .i64 0, .bool false]) (by simp [results, Tryd.results16, go_sem]) rfl ⟨by rw [HNO.out]; rfl, HB2.out⟩
            · by_cases h2 : 9 < D
              · have HNO : Hid (numOf s most = none) := num_none s most hlt HS.out (by omega)
                clear hd hlow hr9 hD
                go_wp2
                exact bodyPost_ret (v := .tuple #[.int .i64 0, .bool false]) (by simp [results, Tryd.results16, go_sem]) rfl ⟨by rw [HNO.out]; rfl, HB2.out⟩
              · by_cases h3 : most < D
                · have HNO : Hid (numOf s most = none) := num_none s most hlt HS.out (by refine .inr (.inr ?_); omega)
                  clear hd hlow hr9 hD
                  go_wp2
                  exact bodyPost_ret (v := .tuple #[.int .i64 0, .bool false]) (by simp [results, Tryd.results16, go_sem]) rfl ⟨by rw [HNO.out]; rfl, HB2.out⟩
                · obtain ⟨Q, hQ⟩ : ∃ Q, (most - D) / 10 = Q := ⟨_, rfl⟩
                  have hwq : IntKind.i64.wrap (most - D) = most - D := IntWalk.i64_in _ (by omega)
                  have hq2 : (most - D).tdiv 10 = Q := by rw [Int.tdiv_eq_ediv_of_nonneg (by omega)]; exact hQ
                  have hwQ : IntKind.i64.wrap Q = Q := IntWalk.i64_in _ (by omega)
                  have hQ1 : 10 * Q ≤ most - D ∧ most - D < 10 * Q + 10 := by omega
                  by_cases h4 : Q < (n : Int)
                  · have HNO : Hid (numOf s most = none) := num_none s most hlt HS.out (by refine .inr (.inr ?_); omega)
                    clear hd hlow hr9 hD
                    go_wp2
                    exact bodyPost_ret (v := .tuple #[.int .i64 0, .bool false]) (by simp [results, Tryd.results16, go_sem]) rfl ⟨by rw [HNO.out]; rfl, HB2.out⟩
                  · have hdig : byteAt s p < 128 ∧ r = byteAt s p ∧ wd = 1 := by omega
                    obtain ⟨g1, g2, g3⟩ := hdig
                    subst g3
                    have hwn : IntKind.i64.wrap ((n : Int) * 10) = (n : Int) * 10 := IntWalk.i64_in _ (by omega)
                    obtain ⟨m, hm⟩ : ∃ m : Nat, 10 * n + (byteAt s p - 48) = m := ⟨_, rfl⟩
                    have hwm : IntKind.i64.wrap ((n : Int) * 10 + D) = (m : Int) := by rw [IntWalk.i64_in _ (by omega)]; omega
                    have hwp : IntKind.i64.wrap ((p : Int) + 1) = (p : Int) + 1 := IntWalk.i64_in _ (by omega)
                    have HS2 : Hid (nrun s (p + 1) = some m) := by
                      show _ = _
                      rw [nrun, HS.out]; simp only []
                      rw [if_neg (by omega), hm]
                    have HM2 : Hid ((m : Int) ≤ most ∨ p + 1 = 0) := by left; omega
                    have hm63 : m ≤ 9223372036854775807 := by omega
                    clear hd hlow hr9 hm g1 g2 hD
                    go_wp2
                    go_roundw
                    case rel => exact ⟨p + 1, m, by omega, rfl, by go_num, hm63, HS2, HM2, HB2, HI2⟩
                    case measure =>
                      simp only [World.iterPos, HI2.out, HIT.out]
                      omega
          · obtain rfl : p = s.size := by omega
            have hnx : ∀ ty, (Instr.next (.pointer (some ⟨w.heap.size, 0, none⟩)) true ty).run Tryd.prog wr = _ := fun ty => Lib.run_next_end_at wr w.heap.size s s.size ty HIT.out hlt
            have HF : Hid (numOf s most = some n) := num_some s most HOK.out HS.out (by rcases HM.out with z | z; exact z; omega)
            have hpl : ¬ (s.size : Int) < (s.size : Int) := by omega
            go_wp2
            exact bodyPost_ret (v := .tuple #[.int .i64 n, .bool true]) (by simp [results, Tryd.results16, go_sem]) rfl ⟨by rw [HF.out]; rfl, HB.out⟩
end Go.Proofs.YtbipjilpogbicaaDoor
