/-
  The walks over the document's own answers: the set of a row, what is in one of two.
-/
import Derived.Test.YtigafpmhgogpmaaDoorBRef3
namespace Go.Proofs.YtigafpmhgogpmaaDoor
open Go.RowKit

set_option maxRecDepth 100000 in
set_option maxHeartbeats 2000000 in
theorem rof_any (l : List Int) (hl : (l.length : Int) ≤ 9223372036854775807) (cap : Nat) (ao : Option Addr) (w : World) (hs : Reads w w.heap.size ao l) :
    Calls Tryd.prog 21 #[.slice ao l.length cap] w fun e w' => e = .returned (.agg #[.int .u64 (wd (ofN l l.length) 0), .int .u64 (wd (ofN l l.length) 1), .int .u64 (wd (ofN l l.length) 2), .int .u64 (wd (ofN l l.length) 3)]) ∧ Below w.heap.size w w' := by
  have HS := Lib.hid hs
  clear hs
  go_enter Tryd.func21, Tryd.ntmps21
  go_wp2
  go_loopw [4] (fun i wr => ∃ k : Nat, k ≤ l.length ∧ i = .int .i64 k ∧ Four wr (w.heap.size + 1) (wd (ofN l k) 0) (wd (ofN l k) 1) (wd (ofN l k) 2) (wd (ofN l k) 3) ∧ Four wr w.heap.size 0 0 0 0 ∧ Below w.heap.size w wr) (fun i _ => (l.length - intOf i).toNat)
  case atStart =>
    refine ⟨0, by omega, rfl, ?_, ?_, ((Below.refl _ _).alloc (Nat.le_refl _) _).alloc (by simp) _⟩
    · have := Four.new (w.alloc (.cells #[.int .u64 0, .int .u64 0, .int .u64 0, .int .u64 0] 24)) 0 0 0 0 24
      simpa [ofN, wd_none] using this
    · exact (Four.new w 0 0 0 0 _).alloc _
  case round =>
    obtain ⟨k, hk, rfl, hx, hz, hb⟩ := hrel
    have HX := Lib.hid hx
    have HZ := Lib.hid hz
    have HB := Lib.hid hb
    clear hb
    obtain ⟨x0, x1, x2, x3, g0, g1, g2, g3⟩ := hx
    by_cases hlt : k < l.length
    · obtain ⟨b, off, rfl, hbb, hc⟩ : ∃ b off, ao = some ⟨b, off, none⟩ ∧ b < w.heap.size ∧ ∀ k, k < l.length → wr.cell? ⟨b, off + k, none⟩ = some (.int .i64 (l.getD k 0)) := by
        rcases HS.out.below HB.out with h | h
        · rw [h] at hlt; exact absurd hlt (Nat.not_lt_zero _)
        · exact h
      have hck := hc k hlt
      have C := Lib.hid (fun w => rwith_any (ofN l k) (l.getD k 0) w)
      have HR : Hid (wd (orP (ofN l k) (oneP (l.getD k 0))) = wd (ofN l (k + 1))) := by show _ = _; rfl
      clear hz hc
      generalize wd (orP (ofN l k) (oneP (l.getD k 0))) = r at C HR
      generalize l.getD k 0 = v at hck C
      generalize wd (ofN l k) = a at x0 x1 x2 x3 C HX
      go_wp2
      go_region_with (go_at_call 14; (refine (C.out _).mono ?_); rintro e w1 ⟨rfl, hw1⟩; have HX1 := Lib.hid (Four.next hw1 HX.out); have HZ1 := Lib.hid (Four.next hw1 HZ.out); have HB1 := Lib.hid (below_next hw1 HB.out (Nat.le_refl _)); obtain ⟨y0, y1, y2, y3, k0, k1, k2, k3⟩ := HX1.out; clear hw1)
      all_goals
        go_wp2
        go_roundw
        case rel =>
          refine ⟨k + 1, by omega, by go_num, ?_, HZ1.out.far4 (by omega) (r 0) (r 1) (r 2) (r 3), below_set4 HB1.out (by omega) (r 0) (r 1) (r 2) (r 3)⟩
          rw [← HR.out]
          exact HX1.out.set4 (r 0) (r 1) (r 2) (r 3)
        case measure => simp [intOf]; omega
    · obtain rfl : k = l.length := by omega
      obtain ⟨z0, z1, z2, z3, v0, v1, v2, v3⟩ := hz
      go_wp2
      refine bodyPost_ret (v := .agg #[.int .u64 (wd (ofN l l.length) 0), .int .u64 (wd (ofN l l.length) 1), .int .u64 (wd (ofN l l.length) 2), .int .u64 (wd (ofN l l.length) 3)]) ?_ rfl ⟨rfl, below_set4 HB.out (by omega) (wd (ofN l l.length) 0) (wd (ofN l l.length) 1) (wd (ofN l l.length) 2) (wd (ofN l l.length) 3)⟩
      obtain ⟨s0, s1, s2, s3⟩ := set4_results HZ.out (wd (ofN l l.length) 0) (wd (ofN l l.length) 1) (wd (ofN l l.length) 2) (wd (ofN l l.length) 3)
      simp [results, Tryd.results21, go_sem, s0, s1, s2, s3]

/-- What has been put in when the first n have been looked at. -/
def orC (p q : Nat → Bool) (n : Nat) (x : Nat) : Bool := p x || (decide (x < n) && q x)
theorem orC_start (p q : Nat → Bool) (k : Nat) : wd (orC p q 0) k = wd p k := natOf_congr fun j _ => by simp [orC]
theorem orC_end (p q : Nat → Bool) {k : Nat} (hk : k < 4) : wd (orC p q 256) k = wd (orP p q) k := wd_congr (fun x hx => by simp [orC, orP, hx]) hk
theorem orC_put (p q : Nat → Bool) {n : Nat} (h : q n = true) (k : Nat) : wd (orP (orC p q n) (oneP n)) k = wd (orC p q (n + 1)) k := natOf_congr fun j _ => by
  unfold orC orP oneP
  rcases Nat.lt_trichotomy (64 * k + j) n with g | g | g
  · rw [decide_eq_false (show ¬ ((64 * k + j : Nat) : Int) = (n : Int) by omega)]; simp [show 64 * k + j < n by omega, show 64 * k + j < n + 1 by omega]
  · rw [g]; simp [h]
  · rw [decide_eq_false (show ¬ ((64 * k + j : Nat) : Int) = (n : Int) by omega)]; simp [show ¬ 64 * k + j < n by omega, show ¬ 64 * k + j < n + 1 by omega]
theorem orC_keep (p q : Nat → Bool) {n : Nat} (h : q n = false) (k : Nat) : wd (orC p q n) k = wd (orC p q (n + 1)) k := natOf_congr fun j _ => by
  unfold orC
  rcases Nat.lt_trichotomy (64 * k + j) n with g | g | g
  · simp [show 64 * k + j < n by omega, show 64 * k + j < n + 1 by omega]
  · rw [g]; simp [h]
  · simp [show ¬ 64 * k + j < n by omega, show ¬ 64 * k + j < n + 1 by omega]

structure Loop2 (w wr : World) (x : Nat → Nat) : Prop where
  x : Four wr (w.heap.size + 1) (x 0) (x 1) (x 2) (x 3)
  z : Four wr w.heap.size 0 0 0 0
  below : Below w.heap.size w wr

set_option maxRecDepth 100000 in
set_option maxHeartbeats 2000000 in
theorem ror_any (l : List (Nat → Bool)) (hl : (l.length : Int) ≤ 1000000) (cap : Nat) (ao : Option Addr) (w : World) (hs : Sets w w.heap.size ao l) :
    Calls Tryd.prog 23 #[.slice ao l.length cap] w fun e w' => e = .returned (.agg #[.int .u64 (wd (orN l l.length) 0), .int .u64 (wd (orN l l.length) 1), .int .u64 (wd (orN l l.length) 2), .int .u64 (wd (orN l l.length) 3)]) ∧ Below w.heap.size w w' := by
  have HS := Lib.hid hs
  clear hs
  go_enter Tryd.func23, Tryd.ntmps23
  go_wp2
  go_loopw [4] (fun i wr => ∃ k : Nat, k ≤ l.length ∧ i = .int .i64 k ∧ Hid (Loop2 w wr (wd (orN l k)))) (fun i _ => (l.length - intOf i).toNat)
  case atStart =>
    refine ⟨0, by omega, rfl, ⟨?_, ?_, ((Below.refl _ _).alloc (Nat.le_refl _) _).alloc (by simp) _⟩⟩
    · have := Four.new (w.alloc (.cells #[.int .u64 0, .int .u64 0, .int .u64 0, .int .u64 0] 24)) 0 0 0 0 24
      simpa [orN, wd_none] using this
    · exact (Four.new w 0 0 0 0 _).alloc _
  case round =>
    obtain ⟨k, hk, rfl, HL⟩ := hrel
    by_cases hlt : k < l.length
    · have NX : Hid (∀ j, j < 4 → wd (orC (orN l k) (l.getD k noneP) 256) j = wd (orN l (k + 1)) j) := fun j hj => orC_end _ _ hj
      have ST : Hid (wd (orN l k) = wd (orC (orN l k) (l.getD k noneP) 0)) := by show _ = _; funext j; rw [orC_start]
      go_wp2
      go_loopw [5] (fun i wi => ∃ n : Nat, n ≤ 256 ∧ i = .int .i64 n ∧ Hid (Loop2 w wi (wd (orC (orN l k) (l.getD k noneP) n)))) (fun i _ => (256 - intOf i).toNat)
      case atStart => exact ⟨0, by omega, rfl, by rw [← ST.out]; exact HL⟩
      case round =>
        clear HL ST
        obtain ⟨n, hn, rfl, HL⟩ := hrel
        by_cases hlt2 : n < 256
        · obtain ⟨b, off, rfl, hbb, hc⟩ : ∃ b off, ao = some ⟨b, off, none⟩ ∧ b < w.heap.size ∧ ∀ k, k < l.length → wr.cell? ⟨b, off + k * 4, none⟩ = some (.int .u64 (wd (l.getD k noneP) 0)) ∧ wr.cell? ⟨b, off + k * 4 + 1, none⟩ = some (.int .u64 (wd (l.getD k noneP) 1)) ∧ wr.cell? ⟨b, off + k * 4 + 2, none⟩ = some (.int .u64 (wd (l.getD k noneP) 2)) ∧ wr.cell? ⟨b, off + k * 4 + 3, none⟩ = some (.int .u64 (wd (l.getD k noneP) 3)) := by
            rcases HS.out.below HL.out.below with h | h
            · rw [h] at hlt; exact absurd hlt (Nat.not_lt_zero _)
            · exact h
          obtain ⟨c0, c1, c2, c3⟩ := hc k hlt
          have HX := Lib.hid HL.out.x
          have HZ := Lib.hid HL.out.z
          have HB := Lib.hid HL.out.below
          clear hc HL NX
          have C := Lib.hid (fun w => (show Calls Tryd.prog 12 #[.agg #[.int .u64 (wd (l.getD k noneP) 0), .int .u64 (wd (l.getD k noneP) 1), .int .u64 (wd (l.getD k noneP) 2), .int .u64 (wd (l.getD k noneP) 3)], .int .i64 n] w fun e w' => e = .returned (.bool (l.getD k noneP n)) ∧ Below w.heap.size w w' by have := rhas_any (l.getD k noneP) n w; rw [hasP_nat hlt2] at this; exact this))
          have D := Lib.hid (fun w => rwith_any (orC (orN l k) (l.getD k noneP) n) n w)
          have KP := Lib.hid (fun h => @orC_keep (orN l k) (l.getD k noneP) n h)
          have PT := Lib.hid (fun h => @orC_put (orN l k) (l.getD k noneP) n h)
          generalize wd (orP (orC (orN l k) (l.getD k noneP) n) (oneP n)) = v at D PT
          generalize hc : (fun n => wd (orC (orN l k) (l.getD k noneP) n)) = c
          have hc' : ∀ n, wd (orC (orN l k) (l.getD k noneP) n) = c n := fun n => congrFun hc n
          rw [hc'] at HX
          simp only [hc'] at D KP PT
          have HC := Lib.hid hc'
          clear hc hc'
          cases hq : l.getD k noneP n with
          | false =>
            have e := Lib.hid (KP.out hq)
            rw [hq] at C
            clear hq KP PT D
            generalize wd (l.getD k noneP) = q at c0 c1 c2 c3 C
            go_wp2_with (go_at_call 12; (refine (C.out _).mono ?_); rintro e w1 ⟨rfl, hw1⟩; have HX1 := Lib.hid (Four.next hw1 HX.out); have HZ1 := Lib.hid (Four.next hw1 HZ.out); have HB1 := Lib.hid (below_next hw1 HB.out (Nat.le_refl _)); clear hw1)
            go_roundw
            case rel => exact ⟨n + 1, by omega, by go_num, by rw [HC.out]; exact ⟨by rw [← e.out, ← e.out, ← e.out, ← e.out]; exact HX1.out, HZ1.out, HB1.out⟩⟩
            case measure => simp [intOf]; omega
          | true =>
            have e := Lib.hid (PT.out hq)
            rw [hq] at C
            clear hq KP PT
            generalize wd (l.getD k noneP) = q at c0 c1 c2 c3 C
            go_wp2_with (first | (go_at_call 12; (refine (C.out _).mono ?_); rintro e w1 ⟨rfl, hw1⟩; have HX1 := Lib.hid (Four.next hw1 HX.out); have HZ1 := Lib.hid (Four.next hw1 HZ.out); have HB1 := Lib.hid (below_next hw1 HB.out (Nat.le_refl _)); obtain ⟨x0, x1, x2, x3, _, _, _, _⟩ := HX1.out; clear hw1) | (go_at_call 14; (refine (D.out _).mono ?_); rintro e w2 ⟨rfl, hw2⟩; have HX2 := Lib.hid (Four.next hw2 HX1.out); have HZ2 := Lib.hid (Four.next hw2 HZ1.out); have HB2 := Lib.hid (below_next hw2 HB1.out (Nat.le_refl _)); obtain ⟨s0, s1, s2, s3, t0, t1, t2, t3⟩ := HX2.out; clear hw2))
            go_roundw
            case rel =>
              refine ⟨n + 1, by omega, by go_num, ?_⟩
              rw [HC.out]
              refine ⟨?_, HZ2.out.far4 (by omega) (v 0) (v 1) (v 2) (v 3), below_set4 HB2.out (by omega) (v 0) (v 1) (v 2) (v 3)⟩
              rw [← e.out, ← e.out, ← e.out, ← e.out]
              exact HX2.out.set4 (v 0) (v 1) (v 2) (v 3)
            case measure => simp [intOf]; omega
        · obtain rfl : n = 256 := by omega
          have HN : Hid (Loop2 w wr (wd (orN l (k + 1)))) := ⟨by rw [← NX.out 0 (by omega), ← NX.out 1 (by omega), ← NX.out 2 (by omega), ← NX.out 3 (by omega)]; exact HL.out.x, HL.out.z, HL.out.below⟩
          clear HL NX
          go_wp2
          go_roundw
          case rel => exact ⟨k + 1, by omega, by go_num, HN⟩
          case measure => simp [intOf]; omega
    · obtain rfl : k = l.length := by omega
      have HX := Lib.hid HL.out.x
      have HZ := Lib.hid HL.out.z
      have HB := Lib.hid HL.out.below
      obtain ⟨x0, x1, x2, x3, _, _, _, _⟩ := HX.out
      obtain ⟨z0, z1, z2, z3, v0, v1, v2, v3⟩ := HZ.out
      clear HL
      go_wp2
      refine bodyPost_ret (v := .agg #[.int .u64 (wd (orN l l.length) 0), .int .u64 (wd (orN l l.length) 1), .int .u64 (wd (orN l l.length) 2), .int .u64 (wd (orN l l.length) 3)]) ?_ rfl ⟨rfl, below_set4 HB.out (by omega) (wd (orN l l.length) 0) (wd (orN l l.length) 1) (wd (orN l l.length) 2) (wd (orN l l.length) 3)⟩
      obtain ⟨s0, s1, s2, s3⟩ := set4_results HZ.out (wd (orN l l.length) 0) (wd (orN l l.length) 1) (wd (orN l l.length) 2) (wd (orN l l.length) 3)
      simp [results, Tryd.results23, go_sem, s0, s1, s2, s3]

end Go.Proofs.YtigafpmhgogpmaaDoor
