/- Texts of this claim, put together: ECom, ELaw1, ELaw2, ELaw3, ELaw4, EOpen. -/
import Derived.Test.YtcanbjgbpkofaaaM94
set_option linter.unusedVariables false
set_option linter.unusedSimpArgs false

/-
  What the statements of blocks have in common.
-/
namespace Go.Proofs.Ytcanbjgbpkofaaa
open Go.RowKit Go.Maps Go.Shelf
theorem three_boxes (W : World) {N : Nat} (hN : W.heap.size = N) (c1 c2 c3 : Obj) : (((W.alloc c1).alloc c2).alloc c3).heap[N]? = some c1 ∧ (((W.alloc c1).alloc c2).alloc c3).heap[N + 1]? = some c2 ∧ (((W.alloc c1).alloc c2).alloc c3).heap[N + 2]? = some c3 := by
  subst hN
  refine ⟨kept_obj (w := W.alloc c1) (bw_alloc (bw_alloc (Below.refl _ _) _) _) (heap_alloc_new W _), ?_, ?_⟩
  · have := heap_alloc_new (W.alloc c1) c2
    rw [World.size_alloc] at this
    exact kept_obj (bw_alloc (Below.refl _ _) _) this
  · have := heap_alloc_new ((W.alloc c1).alloc c2) c3
    rwa [World.size_alloc, World.size_alloc] at this
theorem andP_none (p : Nat → Bool) : andP noneP p = noneP := by funext i; rfl
theorem andP_none' (p : Nat → Bool) : andP p noneP = noneP := by funext i; unfold andP noneP; rw [Bool.and_false]
/-- At the beginning, and at the end, nothing is useful. -/
def ZeroBack (w : World) (e : Ending) (w' : World) : Prop := e = .returned (.agg #[.int .u64 0, .int .u64 0, .int .u64 0, .int .u64 0]) ∧ Below w.heap.size w w'
theorem useful_first (T : TV) (hT : Told T) (C : Nat) (hC : T.c = (C : Int)) (w : World) (hok : T.ok w) : Calls Try.prog 12 #[.agg #[.int .i64 T.id, .int .i64 T.c, .int .i64 T.d, .int .i64 T.t, .int .i64 T.p, .slice T.a1 T.ch.length T.c1, .slice T.a2 T.us.length T.c2], .int .i64 0] w (ZeroBack w) := by
  have := useful_any T hT C 0 hC w hok
  rw [Nat.min_eq_left (Nat.zero_le _), inP_empty T.us (Nat.le_refl 0), andP_none] at this
  unfold SetBack at this
  rw [wd_none, wd_none, wd_none, wd_none] at this
  exact this
theorem useful_end (T : TV) (hT : Told T) (C : Nat) (hC : T.c = (C : Int)) (w : World) (hok : T.ok w) : Calls Try.prog 12 #[.agg #[.int .i64 T.id, .int .i64 T.c, .int .i64 T.d, .int .i64 T.t, .int .i64 T.p, .slice T.a1 T.ch.length T.c1, .slice T.a2 T.us.length T.c2], .int .i64 T.c] w (ZeroBack w) := by
  have := useful_any T hT C C hC w hok
  rw [Nat.min_self, inP_empty T.us (Nat.le_refl C), andP_none', ← hC] at this
  unfold SetBack at this
  rw [wd_none, wd_none, wd_none, wd_none] at this
  exact this
theorem before_end (T : TV) (hT : Told T) (C : Nat) (hC : T.c = (C : Int)) (w : World) (hok : T.ok w) : Calls Try.prog 10 #[.agg #[.int .i64 T.id, .int .i64 T.c, .int .i64 T.d, .int .i64 T.t, .int .i64 T.p, .slice T.a1 T.ch.length T.c1, .slice T.a2 T.us.length T.c2], .int .i64 T.c] w (SetBack (inP T.us 0 C) w) := by
  have := before_any T hT C C hC w hok
  rwa [Nat.min_self, ← hC] at this
theorem behind_first (T : TV) (hT : Told T) (C : Nat) (hC : T.c = (C : Int)) (w : World) (hok : T.ok w) : Calls Try.prog 11 #[.agg #[.int .i64 T.id, .int .i64 T.c, .int .i64 T.d, .int .i64 T.t, .int .i64 T.p, .slice T.a1 T.ch.length T.c1, .slice T.a2 T.us.length T.c2], .int .i64 0] w (SetBack (inP T.us 0 C) w) := by
  have := behind_any T hT C 0 hC w hok
  rwa [Nat.min_eq_left (Nat.zero_le _)] at this
end Go.Proofs.Ytcanbjgbpkofaaa

/-
  The walk over the statement that what is ahead of a place, and behind it, is all that is used.
-/
namespace Go.Proofs.Ytcanbjgbpkofaaa
open Go.RowKit Go.Maps Go.Shelf
attribute [-go_sem] run_eql_struct run_neq_struct
attribute [local go_sem] bits_eql bits_neq none_eql none_neq bitsGuard

set_option maxRecDepth 100000 in
set_option maxHeartbeats 16000000 in
theorem law_parts (W : World) (S R : Int) (a : Option Addr) (n cap : Nat) (L : List NV) (hn : Nums W a n cap L) (at_ : Int) :
    Calls Try.prog 3 #[.agg #[.int .i64 S, .int .i64 R, .slice a n cap], .int .i64 at_] W fun e w' => e = .returned (.bool true) ∧ Below W.heap.size W w' := by
  have HN := Lib.hid hn
  have hz2 := zeroSys
  clear hn
  go_enter Try.func3, Try.ntmps3
  go_upto_region 1 with fail
  refine gen_world (fun v => Below W.heap.size W v ∧ v.heap[W.heap.size]? = some (.cells #[.int .i64 S, .int .i64 R, .slice a n cap] 24 (0, 0))) ⟨(by repeat (first | exact Below.refl _ _ | (with_reducible assumption) | refine bw_alloc ?_ _ | refine bw_drew ?_)), heap_alloc_new W _⟩ ?_
  intro W1 ⟨hl1, hb0⟩
  have HL1 := Lib.hid hl1
  have HB0 := Lib.hid hb0
  clear hl1 hb0
  go_upto_region 2 with (go_at_call 8; (with_reducible refine (awake_any _).mono ?_); rintro e w1 ⟨rfl, b1⟩; have HL2 := Lib.hid (below_up HL1.out b1); have HB1 := Lib.hid (kept_obj b1 HB0.out); clear b1)
  have d0 : w1.cell? ⟨W.heap.size, 0, none⟩ = some (.int .i64 S) := by rw [blk_cell HB1.out]; rfl
  have d1 : w1.cell? ⟨W.heap.size, 1, none⟩ = some (.int .i64 R) := by rw [blk_cell HB1.out]; rfl
  have d2 : w1.cell? ⟨W.heap.size, 2, none⟩ = some (.slice a n cap) := by rw [blk_cell HB1.out]; rfl
  have C := Lib.hid (made5_any S R (HN.out.below HL2.out))
  go_upto_region 3 with (go_at_call 9; (with_reducible refine (C.out).mono ?_); rintro e w5 ⟨s, r, a5, N, c5, M, rfl, ho5, hok5, hi5, hm5, b5⟩; have HT5 := Lib.hid (ho5.tasks hok5); have HM := Lib.hid hm5; have HL5 := Lib.hid (below_up HL2.out b5); clear ho5 hok5 hi5 hm5 b5)
  have hN1 : 0 < N := by have := HM.out.pos; have := HT5.out.len; omega
  have hN6 : N ≤ 6 := by have := HM.out.six; have := HT5.out.len; omega
  obtain ⟨ns, rfl⟩ : ∃ ns : Nat, s = (ns : Int) := ⟨s.toNat, by have := HM.out.s1; omega⟩
  have hns : ns ≤ 8 := by have := HM.out.s8; omega
  have hr0 := HM.out.r0
  have hr3 := HM.out.r3
  obtain ⟨g5, o5, rfl⟩ : ∃ g o, a5 = some ⟨g, o, none⟩ := by
    obtain ⟨t0, ht0⟩ := nth_of HT5.out.len hN1
    obtain ⟨g, o, e, _⟩ := HT5.out.view.at_ ht0
    exact ⟨g, o, e⟩
  refine gen_world (fun v => Below w5.heap.size w5 v ∧ v.heap[w5.heap.size]? = some (.cells #[.int .i64 (ns : Int), .int .i64 r, .slice (some ⟨g5, o5, none⟩) N c5] 28 (0, 0))) ⟨(by repeat (first | exact Below.refl _ _ | (with_reducible assumption) | refine bw_alloc ?_ _ | refine bw_drew ?_)), heap_alloc_new w5 _⟩ ?_
  intro W6 ⟨hl6, hs6⟩
  have HL6 := Lib.hid hl6
  have HS6 := Lib.hid hs6
  have HTL : Hid (∀ i T, M[i]? = some T → Told T ∧ T.ok w5 ∧ At w5 g5 (o5 + i * 7) T ∧ T.id = (i : Int) + 1 ∧ ∃ C : Nat, T.c = (C : Int) ∧ 1 ≤ C ∧ C ≤ 24) := fun i T hT => by
    have hg := HM.out.good i T hT
    refine ⟨hg.told HM.out.s8, HT5.out.ok.at_ hT, ?_, hg.id, T.c.toNat, by have := hg.c1; omega, by have := hg.c1; omega, by have := hg.cd; have := hg.dt; have := hg.t24; omega⟩
    obtain ⟨g, o, e, h⟩ := HT5.out.view.at_ hT
    cases e
    exact h
  clear hl6 hs6 C d0 d1 d2 HL1 HL2 HB0 HB1 hz2
  obtain ⟨P, hP, hP2⟩ := and_small at_ 31 (by omega)
  have hP3 : bits .and .i64 at_ 31 = (P : Int) := hP2
  clear hP2
  go_upto_region 5 with fail
  obtain ⟨gz, hgz⟩ : ∃ gz, W6.heap.size = gz := ⟨_, rfl⟩
  refine gen_world (fun v => Below W6.heap.size W6 v ∧ v.heap[W6.heap.size]? = some (.cells #[.int .u64 0, .int .u64 0, .int .u64 0, .int .u64 0] ST4 (0, 0))) ⟨(by repeat (first | exact Below.refl _ _ | (with_reducible assumption) | refine bw_alloc ?_ _ | refine bw_drew ?_)), heap_alloc_new W6 _⟩ ?_
  intro V0 ⟨hv0, hz0⟩
  have HV0 := Lib.hid hv0
  have HZ0 := Lib.hid hz0
  clear hv0 hz0 hP3
  rw [hgz] at HZ0 ⊢
  clear hgz
  go_wp2
  go_loopw [9] (fun u wr => ∃ i : Nat, i ≤ N ∧ u = .int .i64 i ∧ Hid (Below V0.heap.size V0 wr)) (fun u _ => (N - intOf u).toNat)
  case atStart => exact ⟨0, Nat.zero_le _, rfl, Below.refl _ _⟩
  case round =>
    obtain ⟨i, hi, rfl, HP⟩ := hrel
    have s2 : wr.cell? ⟨w5.heap.size, 2, none⟩ = some (.slice (some ⟨g5, o5, none⟩) N c5) := by rw [blk_cell (kept_obj HP.out (kept_obj HV0.out HS6.out))]; rfl
    by_cases hlt : i < N
    · obtain ⟨T, hTi⟩ := nth_of HT5.out.len hlt
      have HTI := Lib.hid (HTL.out i T hTi)
      obtain ⟨C, hC, hC1, hC24⟩ := HTI.out.2.2.2.2
      have HC := Lib.hid hC
      have HW5 : Hid (Below w5.heap.size w5 wr) := HL6.out.trans ((HV0.out.trans (HP.out.mono HV0.out.size)).mono HL6.out.size)
      obtain ⟨y0, y1, y2, y3, y4, y5, y6⟩ := HTI.out.2.2.1
      have t0 := kept_cell HW5.out y0
      have t1 := kept_cell HW5.out y1
      have t2 := kept_cell HW5.out y2
      have t3 := kept_cell HW5.out y3
      have t4 := kept_cell HW5.out y4
      have t5 := kept_cell HW5.out y5
      have t6 := kept_cell HW5.out y6
      have i0 : (0 : Int) ≤ (i : Int) := by omega
      have i1 : (i : Int) < (N : Int) := by omega
      have i2 : IntKind.i64.wrap ((i : Int) + 1) = (i : Int) + 1 := IntWalk.i64_in _ (by omega)
      clear hC y0 y1 y2 y3 y4 y5 y6
      have P0 := Lib.hid (fun (v : World) (hv : Below wr.heap.size wr v) => before_any T HTI.out.1 C P HC.out v (HTI.out.2.1.below (below_up HW5.out hv)))
      have P1 := Lib.hid (fun (v : World) (hv : Below wr.heap.size wr v) => behind_any T HTI.out.1 C P HC.out v (HTI.out.2.1.below (below_up HW5.out hv)))
      have P2 := Lib.hid (fun (v : World) (hv : Below wr.heap.size wr v) => useful_any T HTI.out.1 C P HC.out v (HTI.out.2.1.below (below_up HW5.out hv)))
      have K2 := Lib.hid (fun (v : World) (hv : Below wr.heap.size wr v) => used_any T HTI.out.1 C HC.out v (HTI.out.2.1.below (below_up HW5.out hv)))
      have K4 := Lib.hid (fun (v : World) (hv : Below wr.heap.size wr v) => useful_first T HTI.out.1 C HC.out v (HTI.out.2.1.below (below_up HW5.out hv)))
      have K5 := Lib.hid (fun (v : World) (hv : Below wr.heap.size wr v) => useful_end T HTI.out.1 C HC.out v (HTI.out.2.1.below (below_up HW5.out hv)))
      have K6 := Lib.hid (fun (v : World) (hv : Below wr.heap.size wr v) => before_end T HTI.out.1 C HC.out v (HTI.out.2.1.below (below_up HW5.out hv)))
      have K7 := Lib.hid (fun (v : World) (hv : Below wr.heap.size wr v) => behind_first T HTI.out.1 C HC.out v (HTI.out.2.1.below (below_up HW5.out hv)))
      obtain ⟨Q, hQ⟩ : ∃ Q, min P C = Q := ⟨_, rfl⟩
      have hQC : Q ≤ C := by omega
      rw [hQ] at P0 P1 P2
      have K1 := Lib.hid (ror_two (inP T.us 0 Q) (inP T.us Q C))
      rw [inP_or T.us (Nat.zero_le Q) hQC] at K1
      have K3 := Lib.hid (fun w => rand_any (inP T.us 0 Q) (inP T.us Q C) w)
      unfold SetBack at P0 P1 P2 K2 K6 K7
      unfold ZeroBack at K4 K5
      clear hQ hQC hP
      generalize wd (andP (inP T.us 0 Q) (inP T.us Q C)) = U at *
      generalize wd (inP T.us 0 Q) = A at *
      generalize wd (inP T.us Q C) = B at *
      generalize wd (inP T.us 0 C) = X at *
      have QX := eq4_self (X 0) (X 1) (X 2) (X 3)
      have QU := eq4_self (U 0) (U 1) (U 2) (U 3)
      go_upto_region 9 with fail
      refine gen_world (fun v => Below wr.heap.size wr v ∧ v.heap[wr.heap.size]? = some (.cells #[.int .i64 T.id, .int .i64 T.c, .int .i64 T.d, .int .i64 T.t, .int .i64 T.p, .slice T.a1 T.ch.length T.c1, .slice T.a2 T.us.length T.c2] TT (0, 0))) ⟨(by repeat (first | exact Below.refl _ _ | (with_reducible assumption) | refine bw_alloc ?_ _ | refine bw_drew ?_)), heap_alloc_new wr _⟩ ?_
      intro V1 ⟨hv1, ht1⟩
      have HV1 := Lib.hid hv1
      have HT1 := Lib.hid ht1
      clear hv1 ht1 t0 t1 t2 t3 t4 t5 t6 s2
      have t0 : V1.cell? ⟨wr.heap.size, 0, none⟩ = some (.int .i64 T.id) := by rw [blk_cell HT1.out]; rfl
      have t1 : V1.cell? ⟨wr.heap.size, 1, none⟩ = some (.int .i64 T.c) := by rw [blk_cell HT1.out]; rfl
      have t2 : V1.cell? ⟨wr.heap.size, 2, none⟩ = some (.int .i64 T.d) := by rw [blk_cell HT1.out]; rfl
      have t3 : V1.cell? ⟨wr.heap.size, 3, none⟩ = some (.int .i64 T.t) := by rw [blk_cell HT1.out]; rfl
      have t4 : V1.cell? ⟨wr.heap.size, 4, none⟩ = some (.int .i64 T.p) := by rw [blk_cell HT1.out]; rfl
      have t5 : V1.cell? ⟨wr.heap.size, 5, none⟩ = some (.slice T.a1 T.ch.length T.c1) := by rw [blk_cell HT1.out]; rfl
      have t6 : V1.cell? ⟨wr.heap.size, 6, none⟩ = some (.slice T.a2 T.us.length T.c2) := by rw [blk_cell HT1.out]; rfl
      go_upto_region 10 with (go_at_call 10; (with_reducible refine (P0.out _ HV1.out).mono ?_); rintro e x1 ⟨rfl, b1⟩; have HX1 := Lib.hid b1; clear b1)
      obtain ⟨ga, hga⟩ : ∃ ga, x1.heap.size = ga := ⟨_, rfl⟩
      refine gen_world (fun v => Below V1.heap.size V1 v ∧ v.heap[x1.heap.size]? = some (.cells #[.int .u64 (A 0), .int .u64 (A 1), .int .u64 (A 2), .int .u64 (A 3)] ST4 (0, 0))) ⟨bw_alloc HX1.out _, heap_alloc_new x1 _⟩ ?_
      intro V2 ⟨hv, hx⟩
      rw [hga] at hx ⊢
      have HV2 := Lib.hid (below_up HV1.out hv)
      have HT2 := Lib.hid (kept_obj hv HT1.out)
      have HA := Lib.hid hx
      clear hv hx hga HX1 t0 t1 t2 t3 t4 t5 t6
      have t0 : V2.cell? ⟨wr.heap.size, 0, none⟩ = some (.int .i64 T.id) := by rw [blk_cell HT2.out]; rfl
      have t1 : V2.cell? ⟨wr.heap.size, 1, none⟩ = some (.int .i64 T.c) := by rw [blk_cell HT2.out]; rfl
      have t2 : V2.cell? ⟨wr.heap.size, 2, none⟩ = some (.int .i64 T.d) := by rw [blk_cell HT2.out]; rfl
      have t3 : V2.cell? ⟨wr.heap.size, 3, none⟩ = some (.int .i64 T.t) := by rw [blk_cell HT2.out]; rfl
      have t4 : V2.cell? ⟨wr.heap.size, 4, none⟩ = some (.int .i64 T.p) := by rw [blk_cell HT2.out]; rfl
      have t5 : V2.cell? ⟨wr.heap.size, 5, none⟩ = some (.slice T.a1 T.ch.length T.c1) := by rw [blk_cell HT2.out]; rfl
      have t6 : V2.cell? ⟨wr.heap.size, 6, none⟩ = some (.slice T.a2 T.us.length T.c2) := by rw [blk_cell HT2.out]; rfl
      go_upto_region 11 with (go_at_call 11; (with_reducible refine (P1.out _ HV2.out).mono ?_); rintro e x2 ⟨rfl, b1⟩; have HX2 := Lib.hid b1; clear b1)
      obtain ⟨gb, hgb⟩ : ∃ gb, x2.heap.size = gb := ⟨_, rfl⟩
      refine gen_world (fun v => Below V2.heap.size V2 v ∧ v.heap[x2.heap.size]? = some (.cells #[.int .u64 (B 0), .int .u64 (B 1), .int .u64 (B 2), .int .u64 (B 3)] ST4 (0, 0))) ⟨bw_alloc HX2.out _, heap_alloc_new x2 _⟩ ?_
      intro V3 ⟨hv, hx⟩
      rw [hgb] at hx ⊢
      have HV3 := Lib.hid (below_up HV2.out hv)
      have HT3 := Lib.hid (kept_obj hv HT2.out)
      have HA := Lib.hid (kept_obj hv HA.out)
      have HB := Lib.hid hx
      clear hv hx hgb HX2 t0 t1 t2 t3 t4 t5 t6
      have t0 : V3.cell? ⟨wr.heap.size, 0, none⟩ = some (.int .i64 T.id) := by rw [blk_cell HT3.out]; rfl
      have t1 : V3.cell? ⟨wr.heap.size, 1, none⟩ = some (.int .i64 T.c) := by rw [blk_cell HT3.out]; rfl
      have t2 : V3.cell? ⟨wr.heap.size, 2, none⟩ = some (.int .i64 T.d) := by rw [blk_cell HT3.out]; rfl
      have t3 : V3.cell? ⟨wr.heap.size, 3, none⟩ = some (.int .i64 T.t) := by rw [blk_cell HT3.out]; rfl
      have t4 : V3.cell? ⟨wr.heap.size, 4, none⟩ = some (.int .i64 T.p) := by rw [blk_cell HT3.out]; rfl
      have t5 : V3.cell? ⟨wr.heap.size, 5, none⟩ = some (.slice T.a1 T.ch.length T.c1) := by rw [blk_cell HT3.out]; rfl
      have t6 : V3.cell? ⟨wr.heap.size, 6, none⟩ = some (.slice T.a2 T.us.length T.c2) := by rw [blk_cell HT3.out]; rfl
      go_upto_region 12 with (go_at_call 12; (with_reducible refine (P2.out _ HV3.out).mono ?_); rintro e x3 ⟨rfl, b1⟩; have HX3 := Lib.hid b1; clear b1)
      obtain ⟨gu, hgu⟩ : ∃ gu, x3.heap.size = gu := ⟨_, rfl⟩
      refine gen_world (fun v => Below V3.heap.size V3 v ∧ v.heap[x3.heap.size]? = some (.cells #[.int .u64 (U 0), .int .u64 (U 1), .int .u64 (U 2), .int .u64 (U 3)] ST4 (0, 0))) ⟨bw_alloc HX3.out _, heap_alloc_new x3 _⟩ ?_
      intro V4 ⟨hv, hx⟩
      rw [hgu] at hx ⊢
      have HV4 := Lib.hid (below_up HV3.out hv)
      have HT4 := Lib.hid (kept_obj hv HT3.out)
      have HA := Lib.hid (kept_obj hv HA.out)
      have HB := Lib.hid (kept_obj hv HB.out)
      have HU := Lib.hid hx
      clear hv hx hgu HX3 t0 t1 t2 t3 t4 t5 t6
      have HZ4 := Lib.hid (kept_obj (below_up HP.out HV4.out) HZ0.out)
      have MK : Hid (∀ w', Below V4.heap.size V4 w' → (w'.cell? ⟨wr.heap.size, 0, none⟩ = some (.int .i64 T.id) ∧ w'.cell? ⟨wr.heap.size, 1, none⟩ = some (.int .i64 T.c) ∧ w'.cell? ⟨wr.heap.size, 2, none⟩ = some (.int .i64 T.d) ∧ w'.cell? ⟨wr.heap.size, 3, none⟩ = some (.int .i64 T.t) ∧ w'.cell? ⟨wr.heap.size, 4, none⟩ = some (.int .i64 T.p) ∧ w'.cell? ⟨wr.heap.size, 5, none⟩ = some (.slice T.a1 T.ch.length T.c1) ∧ w'.cell? ⟨wr.heap.size, 6, none⟩ = some (.slice T.a2 T.us.length T.c2) ∧ w'.cell? ⟨ga, 0, none⟩ = some (.int .u64 (A 0)) ∧ w'.cell? ⟨ga, 1, none⟩ = some (.int .u64 (A 1)) ∧ w'.cell? ⟨ga, 2, none⟩ = some (.int .u64 (A 2)) ∧ w'.cell? ⟨ga, 3, none⟩ = some (.int .u64 (A 3)) ∧ w'.cell? ⟨gb, 0, none⟩ = some (.int .u64 (B 0)) ∧ w'.cell? ⟨gb, 1, none⟩ = some (.int .u64 (B 1)) ∧ w'.cell? ⟨gb, 2, none⟩ = some (.int .u64 (B 2)) ∧ w'.cell? ⟨gb, 3, none⟩ = some (.int .u64 (B 3)) ∧ w'.cell? ⟨gu, 0, none⟩ = some (.int .u64 (U 0)) ∧ w'.cell? ⟨gu, 1, none⟩ = some (.int .u64 (U 1)) ∧ w'.cell? ⟨gu, 2, none⟩ = some (.int .u64 (U 2)) ∧ w'.cell? ⟨gu, 3, none⟩ = some (.int .u64 (U 3)) ∧ w'.cell? ⟨gz, 0, none⟩ = some (.int .u64 0) ∧ w'.cell? ⟨gz, 1, none⟩ = some (.int .u64 0) ∧ w'.cell? ⟨gz, 2, none⟩ = some (.int .u64 0) ∧ w'.cell? ⟨gz, 3, none⟩ = some (.int .u64 0))) := fun w' hb => by
        have x0 := kept_obj hb HT4.out
        have x1 := kept_obj hb HA.out
        have x2 := kept_obj hb HB.out
        have x3 := kept_obj hb HU.out
        have x4 := kept_obj hb HZ4.out
        exact ⟨by rw [blk_cell x0]; rfl, by rw [blk_cell x0]; rfl, by rw [blk_cell x0]; rfl, by rw [blk_cell x0]; rfl, by rw [blk_cell x0]; rfl, by rw [blk_cell x0]; rfl, by rw [blk_cell x0]; rfl, by rw [blk_cell x1]; rfl, by rw [blk_cell x1]; rfl, by rw [blk_cell x1]; rfl, by rw [blk_cell x1]; rfl, by rw [blk_cell x2]; rfl, by rw [blk_cell x2]; rfl, by rw [blk_cell x2]; rfl, by rw [blk_cell x2]; rfl, by rw [blk_cell x3]; rfl, by rw [blk_cell x3]; rfl, by rw [blk_cell x3]; rfl, by rw [blk_cell x3]; rfl, by rw [blk_cell x4]; rfl, by rw [blk_cell x4]; rfl, by rw [blk_cell x4]; rfl, by rw [blk_cell x4]; rfl⟩
      have bb := Below.refl V4.heap.size V4
      clear P0 P1 P2 HT1 HT2 HT3
      go_cut [84] from 41 to 84 (fun u wx => u = .bool false ∧ Hid (Below V4.heap.size V4 wx))
      case first =>
        go_region_held3 (fun w' => w'.cell? ⟨wr.heap.size, 0, none⟩ = some (.int .i64 T.id) ∧ w'.cell? ⟨wr.heap.size, 1, none⟩ = some (.int .i64 T.c) ∧ w'.cell? ⟨wr.heap.size, 2, none⟩ = some (.int .i64 T.d) ∧ w'.cell? ⟨wr.heap.size, 3, none⟩ = some (.int .i64 T.t) ∧ w'.cell? ⟨wr.heap.size, 4, none⟩ = some (.int .i64 T.p) ∧ w'.cell? ⟨wr.heap.size, 5, none⟩ = some (.slice T.a1 T.ch.length T.c1) ∧ w'.cell? ⟨wr.heap.size, 6, none⟩ = some (.slice T.a2 T.us.length T.c2) ∧ w'.cell? ⟨ga, 0, none⟩ = some (.int .u64 (A 0)) ∧ w'.cell? ⟨ga, 1, none⟩ = some (.int .u64 (A 1)) ∧ w'.cell? ⟨ga, 2, none⟩ = some (.int .u64 (A 2)) ∧ w'.cell? ⟨ga, 3, none⟩ = some (.int .u64 (A 3)) ∧ w'.cell? ⟨gb, 0, none⟩ = some (.int .u64 (B 0)) ∧ w'.cell? ⟨gb, 1, none⟩ = some (.int .u64 (B 1)) ∧ w'.cell? ⟨gb, 2, none⟩ = some (.int .u64 (B 2)) ∧ w'.cell? ⟨gb, 3, none⟩ = some (.int .u64 (B 3)) ∧ w'.cell? ⟨gu, 0, none⟩ = some (.int .u64 (U 0)) ∧ w'.cell? ⟨gu, 1, none⟩ = some (.int .u64 (U 1)) ∧ w'.cell? ⟨gu, 2, none⟩ = some (.int .u64 (U 2)) ∧ w'.cell? ⟨gu, 3, none⟩ = some (.int .u64 (U 3)) ∧ w'.cell? ⟨gz, 0, none⟩ = some (.int .u64 0) ∧ w'.cell? ⟨gz, 1, none⟩ = some (.int .u64 0) ∧ w'.cell? ⟨gz, 2, none⟩ = some (.int .u64 0) ∧ w'.cell? ⟨gz, 3, none⟩ = some (.int .u64 0)) (exact MK.out _ (by repeat (first | exact Below.refl _ _ | (with_reducible assumption) | refine bw_alloc ?_ _ | refine bw_drew ?_))) (first
          | (go_at_call 13; (refine (Calls.upV (V := V4) (by repeat (first | exact Below.refl _ _ | (with_reducible assumption) | refine bw_alloc ?_ _ | refine bw_drew ?_)) (K1.out _ _ (by simp) (by simp) (by simp) (by simp) (by simp) (by simp) (by simp) (by simp) (by simp))).mono ?_); rintro e wx ⟨rfl, b0, bx⟩; clear b0)
          | (go_at_call 14; (with_reducible refine (Calls.upV (V := V4) (by repeat (first | exact Below.refl _ _ | (with_reducible assumption) | refine bw_alloc ?_ _ | refine bw_drew ?_)) (K2.out _ (below_up HV4.out (by repeat (first | exact Below.refl _ _ | (with_reducible assumption) | refine bw_alloc ?_ _ | refine bw_drew ?_))))).mono ?_); rintro e wx ⟨rfl, b0, bx⟩; clear b0)
          | (go_at_call 15; (with_reducible refine (Calls.upV (V := V4) (by repeat (first | exact Below.refl _ _ | (with_reducible assumption) | refine bw_alloc ?_ _ | refine bw_drew ?_)) (K3.out _)).mono ?_); rintro e wx ⟨rfl, b0, bx⟩; clear b0)
          | (go_at_call 12; (with_reducible refine (Calls.upV (V := V4) (by repeat (first | exact Below.refl _ _ | (with_reducible assumption) | refine bw_alloc ?_ _ | refine bw_drew ?_)) (K4.out _ (below_up HV4.out (by repeat (first | exact Below.refl _ _ | (with_reducible assumption) | refine bw_alloc ?_ _ | refine bw_drew ?_))))).mono ?_); rintro e wx ⟨rfl, b0, bx⟩; clear b0)
          | (go_at_call 12; (with_reducible refine (Calls.upV (V := V4) (by repeat (first | exact Below.refl _ _ | (with_reducible assumption) | refine bw_alloc ?_ _ | refine bw_drew ?_)) (K5.out _ (below_up HV4.out (by repeat (first | exact Below.refl _ _ | (with_reducible assumption) | refine bw_alloc ?_ _ | refine bw_drew ?_))))).mono ?_); rintro e wx ⟨rfl, b0, bx⟩; clear b0)
          | (go_at_call 10; (with_reducible refine (Calls.upV (V := V4) (by repeat (first | exact Below.refl _ _ | (with_reducible assumption) | refine bw_alloc ?_ _ | refine bw_drew ?_)) (K6.out _ (below_up HV4.out (by repeat (first | exact Below.refl _ _ | (with_reducible assumption) | refine bw_alloc ?_ _ | refine bw_drew ?_))))).mono ?_); rintro e wx ⟨rfl, b0, bx⟩; clear b0)
          | (go_at_call 11; (with_reducible refine (Calls.upV (V := V4) (by repeat (first | exact Below.refl _ _ | (with_reducible assumption) | refine bw_alloc ?_ _ | refine bw_drew ?_)) (K7.out _ (below_up HV4.out (by repeat (first | exact Below.refl _ _ | (with_reducible assumption) | refine bw_alloc ?_ _ | refine bw_drew ?_))))).mono ?_); rintro e wx ⟨rfl, b0, bx⟩; clear b0))
        all_goals
          go_wp2_with fail
          go_meet
          exact ⟨rfl, by assumption⟩
      case rest =>
        obtain ⟨rfl, H5⟩ := hcut
        clear MK bb
        go_wp2
        go_roundw
        case rel => exact ⟨i + 1, by omega, by go_num, below_up HP.out (below_up HV4.out H5.out)⟩
        case measure => simp [intOf]; omega
    · obtain rfl : i = N := by omega
      go_wp2
      go_ret
      exact ⟨rfl, HL5.out.trans (HL6.out.trans ((HV0.out.trans (HP.out.mono HV0.out.size)).mono HL6.out.size) |>.mono HL5.out.size)⟩
end Go.Proofs.Ytcanbjgbpkofaaa

/-
  The walk over the statement that from tick to tick sets change by one at most.
-/
namespace Go.Proofs.Ytcanbjgbpkofaaa
open Go.RowKit Go.Maps Go.Shelf
attribute [-go_sem] run_eql_struct run_neq_struct
attribute [local go_sem] bits_eql bits_neq none_eql none_neq bitsGuard

theorem and_sub {p q : Nat → Bool} (h : ∀ x, p x = true → q x = true) : andP p q = p := by
  funext x
  unfold andP
  cases hp : p x with
  | false => rfl
  | true => rw [h x hp]; rfl
theorem and_sup {p q : Nat → Bool} (h : ∀ x, q x = true → p x = true) : andP p q = q := by
  funext x
  unfold andP
  cases hq : q x with
  | false => rw [Bool.and_false]
  | true => rw [h x hq]; rfl
theorem cnt_step (p : Nat → Bool) (v : Int) (n : Nat) : cntN (orP p (oneP v)) n ≤ cntN p n + 1 := by
  have h1 := cntN_or p (oneP v) n
  have h2 := (cntN_one v n).1
  omega

set_option maxRecDepth 100000 in
set_option maxHeartbeats 16000000 in
theorem law_steps (W : World) (S R : Int) (a : Option Addr) (n cap : Nat) (L : List NV) (hn : Nums W a n cap L) :
    Calls Try.prog 7 #[.agg #[.int .i64 S, .int .i64 R, .slice a n cap]] W fun e w' => e = .returned (.bool true) ∧ Below W.heap.size W w' := by
  have HN := Lib.hid hn
  have hz2 := zeroSys
  clear hn
  go_enter Try.func7, Try.ntmps7
  go_upto_region 1 with fail
  refine gen_world (fun v => Below W.heap.size W v ∧ v.heap[W.heap.size]? = some (.cells #[.int .i64 S, .int .i64 R, .slice a n cap] 24 (0, 0))) ⟨(by repeat (first | exact Below.refl _ _ | (with_reducible assumption) | refine bw_alloc ?_ _ | refine bw_drew ?_)), heap_alloc_new W _⟩ ?_
  intro W1 ⟨hl1, hb0⟩
  have HL1 := Lib.hid hl1
  have HB0 := Lib.hid hb0
  clear hl1 hb0
  go_upto_region 2 with (go_at_call 8; (with_reducible refine (awake_any _).mono ?_); rintro e w1 ⟨rfl, b1⟩; have HL2 := Lib.hid (below_up HL1.out b1); have HB1 := Lib.hid (kept_obj b1 HB0.out); clear b1)
  have d0 : w1.cell? ⟨W.heap.size, 0, none⟩ = some (.int .i64 S) := by rw [blk_cell HB1.out]; rfl
  have d1 : w1.cell? ⟨W.heap.size, 1, none⟩ = some (.int .i64 R) := by rw [blk_cell HB1.out]; rfl
  have d2 : w1.cell? ⟨W.heap.size, 2, none⟩ = some (.slice a n cap) := by rw [blk_cell HB1.out]; rfl
  have C := Lib.hid (made5_any S R (HN.out.below HL2.out))
  go_upto_region 3 with (go_at_call 9; (with_reducible refine (C.out).mono ?_); rintro e w5 ⟨s, r, a5, N, c5, M, rfl, ho5, hok5, hi5, hm5, b5⟩; have HT5 := Lib.hid (ho5.tasks hok5); have HM := Lib.hid hm5; have HL5 := Lib.hid (below_up HL2.out b5); clear ho5 hok5 hi5 hm5 b5)
  have hN1 : 0 < N := by have := HM.out.pos; have := HT5.out.len; omega
  have hN6 : N ≤ 6 := by have := HM.out.six; have := HT5.out.len; omega
  obtain ⟨ns, rfl⟩ : ∃ ns : Nat, s = (ns : Int) := ⟨s.toNat, by have := HM.out.s1; omega⟩
  have hns : ns ≤ 8 := by have := HM.out.s8; omega
  have hr0 := HM.out.r0
  have hr3 := HM.out.r3
  obtain ⟨g5, o5, rfl⟩ : ∃ g o, a5 = some ⟨g, o, none⟩ := by
    obtain ⟨t0, ht0⟩ := nth_of HT5.out.len hN1
    obtain ⟨g, o, e, _⟩ := HT5.out.view.at_ ht0
    exact ⟨g, o, e⟩
  refine gen_world (fun v => Below w5.heap.size w5 v ∧ v.heap[w5.heap.size]? = some (.cells #[.int .i64 (ns : Int), .int .i64 r, .slice (some ⟨g5, o5, none⟩) N c5] 28 (0, 0))) ⟨(by repeat (first | exact Below.refl _ _ | (with_reducible assumption) | refine bw_alloc ?_ _ | refine bw_drew ?_)), heap_alloc_new w5 _⟩ ?_
  intro W6 ⟨hl6, hs6⟩
  have HL6 := Lib.hid hl6
  have HS6 := Lib.hid hs6
  have HTL : Hid (∀ i T, M[i]? = some T → Told T ∧ T.ok w5 ∧ At w5 g5 (o5 + i * 7) T ∧ T.id = (i : Int) + 1 ∧ ∃ C : Nat, T.c = (C : Int) ∧ 1 ≤ C ∧ C ≤ 24) := fun i T hT => by
    have hg := HM.out.good i T hT
    refine ⟨hg.told HM.out.s8, HT5.out.ok.at_ hT, ?_, hg.id, T.c.toNat, by have := hg.c1; omega, by have := hg.c1; omega, by have := hg.cd; have := hg.dt; have := hg.t24; omega⟩
    obtain ⟨g, o, e, h⟩ := HT5.out.view.at_ hT
    cases e
    exact h
  clear hl6 hs6 C d0 d1 d2 HL1 HL2 HB0 HB1 hz2
  refine gen_world (fun v => Below W6.heap.size W6 v) (Below.refl _ _) ?_
  intro V0 hv0
  have HV0 := Lib.hid hv0
  clear hv0
  go_wp2
  go_loopw [5] (fun u wr => ∃ i : Nat, i ≤ N ∧ u = .int .i64 i ∧ Hid (Below V0.heap.size V0 wr)) (fun u _ => (N - intOf u).toNat)
  case atStart => exact ⟨0, Nat.zero_le _, rfl, Below.refl _ _⟩
  case round =>
    obtain ⟨i, hi, rfl, HP⟩ := hrel
    have s2 : wr.cell? ⟨w5.heap.size, 2, none⟩ = some (.slice (some ⟨g5, o5, none⟩) N c5) := by rw [blk_cell (kept_obj HP.out (kept_obj HV0.out HS6.out))]; rfl
    by_cases hlt : i < N
    · obtain ⟨T, hTi⟩ := nth_of HT5.out.len hlt
      have HTI := Lib.hid (HTL.out i T hTi)
      obtain ⟨C, hC, hC1, hC24⟩ := HTI.out.2.2.2.2
      have HC := Lib.hid hC
      have HW5 : Hid (Below w5.heap.size w5 wr) := HL6.out.trans ((HV0.out.trans (HP.out.mono HV0.out.size)).mono HL6.out.size)
      obtain ⟨y0, y1, y2, y3, y4, y5, y6⟩ := HTI.out.2.2.1
      have t0 := kept_cell HW5.out y0
      have t1 := kept_cell HW5.out y1
      have t2 := kept_cell HW5.out y2
      have t3 := kept_cell HW5.out y3
      have t4 := kept_cell HW5.out y4
      have t5 := kept_cell HW5.out y5
      have t6 := kept_cell HW5.out y6
      have i0 : (0 : Int) ≤ (i : Int) := by omega
      have i1 : (i : Int) < (N : Int) := by omega
      have i2 : IntKind.i64.wrap ((i : Int) + 1) = (i : Int) + 1 := IntWalk.i64_in _ (by omega)
      clear hC y0 y1 y2 y3 y4 y5 y6
      go_upto_region 7 with fail
      obtain ⟨gt, hgt⟩ : ∃ gt, wr.heap.size = gt := ⟨_, rfl⟩
      refine gen_world (fun v => Below wr.heap.size wr v ∧ v.heap[wr.heap.size]? = some (.cells #[.int .i64 T.id, .int .i64 T.c, .int .i64 T.d, .int .i64 T.t, .int .i64 T.p, .slice T.a1 T.ch.length T.c1, .slice T.a2 T.us.length T.c2] TT (0, 0))) ⟨(by repeat (first | exact Below.refl _ _ | (with_reducible assumption) | refine bw_alloc ?_ _ | refine bw_drew ?_)), heap_alloc_new wr _⟩ ?_
      intro V1 ⟨hv1, ht1⟩
      rw [hgt] at ht1 ⊢
      have HT1 := Lib.hid ht1
      have HP1 := Lib.hid (below_up HP.out hv1)
      have HOK := Lib.hid (HTI.out.2.1.below (below_up HW5.out hv1))
      have HTT := Lib.hid HTI.out.1
      clear hv1 ht1 hgt t0 t1 t2 t3 t4 t5 t6 s2 HTI HW5 HP
      go_wp2
      go_loopw [7] (fun u wr => ∃ p : Nat, p ≤ C ∧ u = .int .i64 p ∧ Hid (Below V1.heap.size V1 wr)) (fun u _ => (C - intOf u).toNat)
      case atStart => exact ⟨0, Nat.zero_le _, rfl, Below.refl _ _⟩
      case round =>
        obtain ⟨p, hp, rfl, HR⟩ := hrel
        have ht := kept_obj HR.out HT1.out
        have t0 : wr.cell? ⟨gt, 0, none⟩ = some (.int .i64 T.id) := by rw [blk_cell ht]; rfl
        have t1 : wr.cell? ⟨gt, 1, none⟩ = some (.int .i64 T.c) := by rw [blk_cell ht]; rfl
        have t2 : wr.cell? ⟨gt, 2, none⟩ = some (.int .i64 T.d) := by rw [blk_cell ht]; rfl
        have t3 : wr.cell? ⟨gt, 3, none⟩ = some (.int .i64 T.t) := by rw [blk_cell ht]; rfl
        have t4 : wr.cell? ⟨gt, 4, none⟩ = some (.int .i64 T.p) := by rw [blk_cell ht]; rfl
        have t5 : wr.cell? ⟨gt, 5, none⟩ = some (.slice T.a1 T.ch.length T.c1) := by rw [blk_cell ht]; rfl
        have t6 : wr.cell? ⟨gt, 6, none⟩ = some (.slice T.a2 T.us.length T.c2) := by rw [blk_cell ht]; rfl
        by_cases hpC : p < C
        · have q1 : (p : Int) < T.c := by have := HC.out; omega
          have q2 : IntKind.i64.wrap ((p : Int) + 1) = (p : Int) + 1 := IntWalk.i64_in _ (by omega)
          have P0 := Lib.hid (fun (v : World) (hv : Below wr.heap.size wr v) => before_any T HTT.out C p HC.out v (HOK.out.below (below_up HR.out hv)))
          have P1 := Lib.hid (fun (v : World) (hv : Below wr.heap.size wr v) => before_any T HTT.out C (p + 1) HC.out v (HOK.out.below (below_up HR.out hv)))
          have P2 := Lib.hid (fun (v : World) (hv : Below wr.heap.size wr v) => behind_any T HTT.out C p HC.out v (HOK.out.below (below_up HR.out hv)))
          have P3 := Lib.hid (fun (v : World) (hv : Below wr.heap.size wr v) => behind_any T HTT.out C (p + 1) HC.out v (HOK.out.below (below_up HR.out hv)))
          rw [Nat.min_eq_left (Nat.le_of_lt hpC)] at P0 P2
          rw [Nat.min_eq_left (show p + 1 ≤ C from hpC), show ((p + 1 : Nat) : Int) = (p : Int) + 1 from rfl] at P1 P3
          have K1 := Lib.hid (fun w => rand_any (inP T.us 0 p) (inP T.us 0 (p + 1)) w)
          have K2 := Lib.hid (fun w => rand_any (inP T.us p C) (inP T.us (p + 1) C) w)
          rw [and_sub (fun x => inP_mono T.us (Nat.le_refl 0) (Nat.le_succ p))] at K1
          rw [and_sup (fun x => inP_mono T.us (Nat.le_succ p) (Nat.le_refl C))] at K2
          have LA := Lib.hid (fun w => rlen_any (inP T.us 0 p) w)
          have LB := Lib.hid (fun w => rlen_any (inP T.us 0 (p + 1)) w)
          have LC := Lib.hid (fun w => rlen_any (inP T.us p C) w)
          have LD := Lib.hid (fun w => rlen_any (inP T.us (p + 1) C) w)
          have n1 : cntN (inP T.us 0 (p + 1)) 256 ≤ cntN (inP T.us 0 p) 256 + 1 := by rw [inP_next T.us p (Nat.zero_le p)]; exact cnt_step _ _ _
          have n2 : cntN (inP T.us p C) 256 ≤ cntN (inP T.us (p + 1) C) 256 + 1 := by rw [inP_first T.us hpC]; exact cnt_step _ _ _
          have m1 := cntN_le (inP T.us 0 p) 256
          have m2 := cntN_le (inP T.us 0 (p + 1)) 256
          have m3 := cntN_le (inP T.us p C) 256
          have m4 := cntN_le (inP T.us (p + 1) C) 256
          unfold SetBack at P0 P1 P2 P3
          generalize cntN (inP T.us 0 p) 256 = ca at *
          generalize cntN (inP T.us 0 (p + 1)) 256 = cb at *
          generalize cntN (inP T.us p C) 256 = cc at *
          generalize cntN (inP T.us (p + 1) C) 256 = cd at *
          generalize wd (inP T.us 0 p) = A at *
          generalize wd (inP T.us 0 (p + 1)) = B at *
          generalize wd (inP T.us p C) = E at *
          generalize wd (inP T.us (p + 1) C) = D at *
          have QA := eq4_self (A 0) (A 1) (A 2) (A 3)
          have QD := eq4_self (D 0) (D 1) (D 2) (D 3)
          obtain ⟨d1, hd1⟩ : ∃ d1 : Int, d1 = (cb : Int) - (ca : Int) := ⟨_, rfl⟩
          obtain ⟨d2, hd2⟩ : ∃ d2 : Int, d2 = (cc : Int) - (cd : Int) := ⟨_, rfl⟩
          have q3 : IntKind.i64.wrap ((cb : Int) - (ca : Int)) = d1 := by rw [hd1]; exact IntWalk.i64_in _ (by omega)
          have q4 : IntKind.i64.wrap ((cc : Int) - (cd : Int)) = d2 := by rw [hd2]; exact IntWalk.i64_in _ (by omega)
          have q5 : decide (1 < d1) = false := decide_eq_false (by omega)
          have q6 : decide (1 < d2) = false := decide_eq_false (by omega)
          clear hd1 hd2 n1 n2 m1 m2 m3 m4 ht
          go_upto_region 11 with (go_at_call 10; (with_reducible refine (P0.out _ (Below.refl _ _)).mono ?_); rintro e x1 ⟨rfl, b1⟩; have HX1 := Lib.hid b1; clear b1)
          obtain ⟨ga, hga⟩ : ∃ ga, x1.heap.size = ga := ⟨_, rfl⟩
          refine gen_world (fun v => Below wr.heap.size wr v ∧ v.heap[x1.heap.size]? = some (.cells #[.int .u64 (A 0), .int .u64 (A 1), .int .u64 (A 2), .int .u64 (A 3)] ST4 (0, 0))) ⟨bw_alloc HX1.out _, heap_alloc_new x1 _⟩ ?_
          intro V2 ⟨hv, hx⟩
          rw [hga] at hx ⊢
          have HV2 := Lib.hid (hv)
          have HT2 := Lib.hid (kept_obj hv (kept_obj HR.out HT1.out))
          have HA := Lib.hid hx
          clear hv hx hga HX1 t0 t1 t2 t3 t4 t5 t6
          have t0 : V2.cell? ⟨gt, 0, none⟩ = some (.int .i64 T.id) := by rw [blk_cell HT2.out]; rfl
          have t1 : V2.cell? ⟨gt, 1, none⟩ = some (.int .i64 T.c) := by rw [blk_cell HT2.out]; rfl
          have t2 : V2.cell? ⟨gt, 2, none⟩ = some (.int .i64 T.d) := by rw [blk_cell HT2.out]; rfl
          have t3 : V2.cell? ⟨gt, 3, none⟩ = some (.int .i64 T.t) := by rw [blk_cell HT2.out]; rfl
          have t4 : V2.cell? ⟨gt, 4, none⟩ = some (.int .i64 T.p) := by rw [blk_cell HT2.out]; rfl
          have t5 : V2.cell? ⟨gt, 5, none⟩ = some (.slice T.a1 T.ch.length T.c1) := by rw [blk_cell HT2.out]; rfl
          have t6 : V2.cell? ⟨gt, 6, none⟩ = some (.slice T.a2 T.us.length T.c2) := by rw [blk_cell HT2.out]; rfl
          go_upto_region 12 with (go_at_call 10; (with_reducible refine (P1.out _ HV2.out).mono ?_); rintro e x2 ⟨rfl, b1⟩; have HX2 := Lib.hid b1; clear b1)
          obtain ⟨gb, hgb⟩ : ∃ gb, x2.heap.size = gb := ⟨_, rfl⟩
          refine gen_world (fun v => Below V2.heap.size V2 v ∧ v.heap[x2.heap.size]? = some (.cells #[.int .u64 (B 0), .int .u64 (B 1), .int .u64 (B 2), .int .u64 (B 3)] ST4 (0, 0))) ⟨bw_alloc HX2.out _, heap_alloc_new x2 _⟩ ?_
          intro V3 ⟨hv, hx⟩
          rw [hgb] at hx ⊢
          have HV3 := Lib.hid (below_up HV2.out hv)
          have HT3 := Lib.hid (kept_obj hv HT2.out)
          have HA := Lib.hid (kept_obj hv HA.out)
          have HB := Lib.hid hx
          clear hv hx hgb HX2 t0 t1 t2 t3 t4 t5 t6
          have t0 : V3.cell? ⟨gt, 0, none⟩ = some (.int .i64 T.id) := by rw [blk_cell HT3.out]; rfl
          have t1 : V3.cell? ⟨gt, 1, none⟩ = some (.int .i64 T.c) := by rw [blk_cell HT3.out]; rfl
          have t2 : V3.cell? ⟨gt, 2, none⟩ = some (.int .i64 T.d) := by rw [blk_cell HT3.out]; rfl
          have t3 : V3.cell? ⟨gt, 3, none⟩ = some (.int .i64 T.t) := by rw [blk_cell HT3.out]; rfl
          have t4 : V3.cell? ⟨gt, 4, none⟩ = some (.int .i64 T.p) := by rw [blk_cell HT3.out]; rfl
          have t5 : V3.cell? ⟨gt, 5, none⟩ = some (.slice T.a1 T.ch.length T.c1) := by rw [blk_cell HT3.out]; rfl
          have t6 : V3.cell? ⟨gt, 6, none⟩ = some (.slice T.a2 T.us.length T.c2) := by rw [blk_cell HT3.out]; rfl
          go_upto_region 13 with (go_at_call 11; (with_reducible refine (P2.out _ HV3.out).mono ?_); rintro e x3 ⟨rfl, b1⟩; have HX3 := Lib.hid b1; clear b1)
          obtain ⟨ge, hge⟩ : ∃ ge, x3.heap.size = ge := ⟨_, rfl⟩
          refine gen_world (fun v => Below V3.heap.size V3 v ∧ v.heap[x3.heap.size]? = some (.cells #[.int .u64 (E 0), .int .u64 (E 1), .int .u64 (E 2), .int .u64 (E 3)] ST4 (0, 0))) ⟨bw_alloc HX3.out _, heap_alloc_new x3 _⟩ ?_
          intro V4 ⟨hv, hx⟩
          rw [hge] at hx ⊢
          have HV4 := Lib.hid (below_up HV3.out hv)
          have HT4 := Lib.hid (kept_obj hv HT3.out)
          have HA := Lib.hid (kept_obj hv HA.out)
          have HB := Lib.hid (kept_obj hv HB.out)
          have HE := Lib.hid hx
          clear hv hx hge HX3 t0 t1 t2 t3 t4 t5 t6
          have t0 : V4.cell? ⟨gt, 0, none⟩ = some (.int .i64 T.id) := by rw [blk_cell HT4.out]; rfl
          have t1 : V4.cell? ⟨gt, 1, none⟩ = some (.int .i64 T.c) := by rw [blk_cell HT4.out]; rfl
          have t2 : V4.cell? ⟨gt, 2, none⟩ = some (.int .i64 T.d) := by rw [blk_cell HT4.out]; rfl
          have t3 : V4.cell? ⟨gt, 3, none⟩ = some (.int .i64 T.t) := by rw [blk_cell HT4.out]; rfl
          have t4 : V4.cell? ⟨gt, 4, none⟩ = some (.int .i64 T.p) := by rw [blk_cell HT4.out]; rfl
          have t5 : V4.cell? ⟨gt, 5, none⟩ = some (.slice T.a1 T.ch.length T.c1) := by rw [blk_cell HT4.out]; rfl
          have t6 : V4.cell? ⟨gt, 6, none⟩ = some (.slice T.a2 T.us.length T.c2) := by rw [blk_cell HT4.out]; rfl
          go_upto_region 14 with (go_at_call 11; (with_reducible refine (P3.out _ HV4.out).mono ?_); rintro e x4 ⟨rfl, b1⟩; have HX4 := Lib.hid b1; clear b1)
          obtain ⟨gd, hgd⟩ : ∃ gd, x4.heap.size = gd := ⟨_, rfl⟩
          refine gen_world (fun v => Below V4.heap.size V4 v ∧ v.heap[x4.heap.size]? = some (.cells #[.int .u64 (D 0), .int .u64 (D 1), .int .u64 (D 2), .int .u64 (D 3)] ST4 (0, 0))) ⟨bw_alloc HX4.out _, heap_alloc_new x4 _⟩ ?_
          intro V5 ⟨hv, hx⟩
          rw [hgd] at hx ⊢
          have HV5 := Lib.hid (below_up HV4.out hv)
          have HT5 := Lib.hid (kept_obj hv HT4.out)
          have HA := Lib.hid (kept_obj hv HA.out)
          have HB := Lib.hid (kept_obj hv HB.out)
          have HE := Lib.hid (kept_obj hv HE.out)
          have HD := Lib.hid hx
          clear hv hx hgd HX4 t0 t1 t2 t3 t4 t5 t6
          have MK : Hid (∀ w', Below V5.heap.size V5 w' → (w'.cell? ⟨ga, 0, none⟩ = some (.int .u64 (A 0)) ∧ w'.cell? ⟨ga, 1, none⟩ = some (.int .u64 (A 1)) ∧ w'.cell? ⟨ga, 2, none⟩ = some (.int .u64 (A 2)) ∧ w'.cell? ⟨ga, 3, none⟩ = some (.int .u64 (A 3)) ∧ w'.cell? ⟨gb, 0, none⟩ = some (.int .u64 (B 0)) ∧ w'.cell? ⟨gb, 1, none⟩ = some (.int .u64 (B 1)) ∧ w'.cell? ⟨gb, 2, none⟩ = some (.int .u64 (B 2)) ∧ w'.cell? ⟨gb, 3, none⟩ = some (.int .u64 (B 3)) ∧ w'.cell? ⟨ge, 0, none⟩ = some (.int .u64 (E 0)) ∧ w'.cell? ⟨ge, 1, none⟩ = some (.int .u64 (E 1)) ∧ w'.cell? ⟨ge, 2, none⟩ = some (.int .u64 (E 2)) ∧ w'.cell? ⟨ge, 3, none⟩ = some (.int .u64 (E 3)) ∧ w'.cell? ⟨gd, 0, none⟩ = some (.int .u64 (D 0)) ∧ w'.cell? ⟨gd, 1, none⟩ = some (.int .u64 (D 1)) ∧ w'.cell? ⟨gd, 2, none⟩ = some (.int .u64 (D 2)) ∧ w'.cell? ⟨gd, 3, none⟩ = some (.int .u64 (D 3)))) := fun w' hb => by
            have x1 := kept_obj hb HA.out
            have x2 := kept_obj hb HB.out
            have x3 := kept_obj hb HE.out
            have x4 := kept_obj hb HD.out
            exact ⟨by rw [blk_cell x1]; rfl, by rw [blk_cell x1]; rfl, by rw [blk_cell x1]; rfl, by rw [blk_cell x1]; rfl, by rw [blk_cell x2]; rfl, by rw [blk_cell x2]; rfl, by rw [blk_cell x2]; rfl, by rw [blk_cell x2]; rfl, by rw [blk_cell x3]; rfl, by rw [blk_cell x3]; rfl, by rw [blk_cell x3]; rfl, by rw [blk_cell x3]; rfl, by rw [blk_cell x4]; rfl, by rw [blk_cell x4]; rfl, by rw [blk_cell x4]; rfl, by rw [blk_cell x4]; rfl⟩
          have bb := Below.refl V5.heap.size V5
          clear P0 P1 P2 P3 HT2 HT3 HT4 HT5
          go_cut [74] from 47 to 74 (fun u wx => u = .bool false ∧ Hid (Below V5.heap.size V5 wx))
          case first =>
            go_region_held3 (fun w' => w'.cell? ⟨ga, 0, none⟩ = some (.int .u64 (A 0)) ∧ w'.cell? ⟨ga, 1, none⟩ = some (.int .u64 (A 1)) ∧ w'.cell? ⟨ga, 2, none⟩ = some (.int .u64 (A 2)) ∧ w'.cell? ⟨ga, 3, none⟩ = some (.int .u64 (A 3)) ∧ w'.cell? ⟨gb, 0, none⟩ = some (.int .u64 (B 0)) ∧ w'.cell? ⟨gb, 1, none⟩ = some (.int .u64 (B 1)) ∧ w'.cell? ⟨gb, 2, none⟩ = some (.int .u64 (B 2)) ∧ w'.cell? ⟨gb, 3, none⟩ = some (.int .u64 (B 3)) ∧ w'.cell? ⟨ge, 0, none⟩ = some (.int .u64 (E 0)) ∧ w'.cell? ⟨ge, 1, none⟩ = some (.int .u64 (E 1)) ∧ w'.cell? ⟨ge, 2, none⟩ = some (.int .u64 (E 2)) ∧ w'.cell? ⟨ge, 3, none⟩ = some (.int .u64 (E 3)) ∧ w'.cell? ⟨gd, 0, none⟩ = some (.int .u64 (D 0)) ∧ w'.cell? ⟨gd, 1, none⟩ = some (.int .u64 (D 1)) ∧ w'.cell? ⟨gd, 2, none⟩ = some (.int .u64 (D 2)) ∧ w'.cell? ⟨gd, 3, none⟩ = some (.int .u64 (D 3))) (exact MK.out _ (by repeat (first | exact Below.refl _ _ | (with_reducible assumption) | refine bw_alloc ?_ _ | refine bw_drew ?_))) (first
              | (go_at_call 15; (with_reducible refine (Calls.upV (V := V5) (by repeat (first | exact Below.refl _ _ | (with_reducible assumption) | refine bw_alloc ?_ _ | refine bw_drew ?_)) (K1.out _)).mono ?_); rintro e wx ⟨rfl, b0, bx⟩; clear b0)
              | (go_at_call 15; (with_reducible refine (Calls.upV (V := V5) (by repeat (first | exact Below.refl _ _ | (with_reducible assumption) | refine bw_alloc ?_ _ | refine bw_drew ?_)) (K2.out _)).mono ?_); rintro e wx ⟨rfl, b0, bx⟩; clear b0)
              | (go_at_call 17; (with_reducible refine (Calls.upV (V := V5) (by repeat (first | exact Below.refl _ _ | (with_reducible assumption) | refine bw_alloc ?_ _ | refine bw_drew ?_)) (LB.out _)).mono ?_); rintro e wx ⟨rfl, b0, bx⟩; clear b0)
              | (go_at_call 17; (with_reducible refine (Calls.upV (V := V5) (by repeat (first | exact Below.refl _ _ | (with_reducible assumption) | refine bw_alloc ?_ _ | refine bw_drew ?_)) (LA.out _)).mono ?_); rintro e wx ⟨rfl, b0, bx⟩; clear b0)
              | (go_at_call 17; (with_reducible refine (Calls.upV (V := V5) (by repeat (first | exact Below.refl _ _ | (with_reducible assumption) | refine bw_alloc ?_ _ | refine bw_drew ?_)) (LC.out _)).mono ?_); rintro e wx ⟨rfl, b0, bx⟩; clear b0)
              | (go_at_call 17; (with_reducible refine (Calls.upV (V := V5) (by repeat (first | exact Below.refl _ _ | (with_reducible assumption) | refine bw_alloc ?_ _ | refine bw_drew ?_)) (LD.out _)).mono ?_); rintro e wx ⟨rfl, b0, bx⟩; clear b0))
            all_goals
              go_wp2_with fail
              go_meet
              exact ⟨rfl, by assumption⟩
          case rest =>
            obtain ⟨rfl, H6⟩ := hcut
            clear MK bb
            go_wp2
            go_roundw
            case rel => exact ⟨p + 1, by omega, by go_num, below_up HR.out (below_up HV5.out H6.out)⟩
            case measure => simp [intOf]; omega
        · obtain rfl : p = C := by omega
          have q1 : ¬ (p : Int) < T.c := by have := HC.out; omega
          clear ht
          go_wp2
          go_roundw
          case rel => exact ⟨i + 1, by omega, by go_num, below_up HP1.out HR.out⟩
          case measure => simp [intOf]; omega
    · obtain rfl : i = N := by omega
      go_wp2
      go_ret
      exact ⟨rfl, HL5.out.trans (HL6.out.trans ((HV0.out.trans (HP.out.mono HV0.out.size)).mono HL6.out.size) |>.mono HL5.out.size)⟩
end Go.Proofs.Ytcanbjgbpkofaaa

/-
  The walk over the statement that at no place more sets are useful than most tells.
-/
namespace Go.Proofs.Ytcanbjgbpkofaaa
open Go.RowKit Go.Maps Go.Shelf
attribute [-go_sem] run_eql_struct run_neq_struct
attribute [local go_sem] bits_eql bits_neq none_eql none_neq bitsGuard

theorem most_is (us : List Int) {C : Nat} (hC : 1 ≤ C) (O : Nat → Bool) :
    (((mostOf us C O).1 = 0 ∧ (mostOf us C O).2 = 0) ∨ (0 < (mostOf us C O).1 ∧ 1 ≤ (mostOf us C O).2 ∧ (mostOf us C O).2 < C ∧ usefulN us C O (mostOf us C O).2 = (mostOf us C O).1 ∧ ∀ p, 1 ≤ p → p < (mostOf us C O).2 → usefulN us C O p < (mostOf us C O).1)) ∧ ∀ p, 1 ≤ p → p < C → usefulN us C O p ≤ (mostOf us C O).1 := by
  refine ⟨?_, fun p h1 h2 => most_ge us O h1 h2⟩
  rcases best_at (usefulN us C O) (min (C - 1) us.length) with h | ⟨a, b, c, d, e⟩
  · exact .inl h
  · exact .inr ⟨a, b, by show (best _ _).2 < C; omega, d, e⟩

set_option maxRecDepth 100000 in
set_option maxHeartbeats 16000000 in
theorem law_most (W : World) (S R : Int) (a : Option Addr) (n cap : Nat) (L : List NV) (hn : Nums W a n cap L) (O : Nat → Bool) :
    Calls Try.prog 4 #[.agg #[.int .i64 S, .int .i64 R, .slice a n cap], .agg #[.int .u64 (wd O 0), .int .u64 (wd O 1), .int .u64 (wd O 2), .int .u64 (wd O 3)]] W fun e w' => e = .returned (.bool true) ∧ Below W.heap.size W w' := by
  have HN := Lib.hid hn
  have hz2 := zeroSys
  clear hn
  go_enter Try.func4, Try.ntmps4
  go_upto_region 1 with fail
  refine gen_world (fun v => Below W.heap.size W v ∧ v.heap[W.heap.size]? = some (.cells #[.int .i64 S, .int .i64 R, .slice a n cap] 24 (0, 0)) ∧ v.heap[W.heap.size + 1]? = some (.cells #[.int .u64 (wd O 0), .int .u64 (wd O 1), .int .u64 (wd O 2), .int .u64 (wd O 3)] ST4 (0, 0))) ⟨(by repeat (first | exact Below.refl _ _ | (with_reducible assumption) | refine bw_alloc ?_ _ | refine bw_drew ?_)), (two_boxes W rfl _ _).1, (two_boxes W rfl _ _).2⟩ ?_
  intro W1 ⟨hl1, hb0, ho0⟩
  have HL1 := Lib.hid hl1
  have HB0 := Lib.hid hb0
  have HO0 := Lib.hid ho0
  clear hl1 hb0 ho0
  go_upto_region 2 with (go_at_call 8; (with_reducible refine (awake_any _).mono ?_); rintro e w1 ⟨rfl, b1⟩; have HL2 := Lib.hid (below_up HL1.out b1); have HB1 := Lib.hid (kept_obj b1 HB0.out); have HO0 := Lib.hid (kept_obj b1 HO0.out); clear b1)
  have d0 : w1.cell? ⟨W.heap.size, 0, none⟩ = some (.int .i64 S) := by rw [blk_cell HB1.out]; rfl
  have d1 : w1.cell? ⟨W.heap.size, 1, none⟩ = some (.int .i64 R) := by rw [blk_cell HB1.out]; rfl
  have d2 : w1.cell? ⟨W.heap.size, 2, none⟩ = some (.slice a n cap) := by rw [blk_cell HB1.out]; rfl
  have C := Lib.hid (made5_any S R (HN.out.below HL2.out))
  go_upto_region 3 with (go_at_call 9; (with_reducible refine (C.out).mono ?_); rintro e w5 ⟨s, r, a5, N, c5, M, rfl, ho5, hok5, hi5, hm5, b5⟩; have HT5 := Lib.hid (ho5.tasks hok5); have HM := Lib.hid hm5; have HL5 := Lib.hid (below_up HL2.out b5); have HO0 := Lib.hid (kept_obj b5 HO0.out); clear ho5 hok5 hi5 hm5 b5)
  have hN1 : 0 < N := by have := HM.out.pos; have := HT5.out.len; omega
  have hN6 : N ≤ 6 := by have := HM.out.six; have := HT5.out.len; omega
  obtain ⟨ns, rfl⟩ : ∃ ns : Nat, s = (ns : Int) := ⟨s.toNat, by have := HM.out.s1; omega⟩
  have hns : ns ≤ 8 := by have := HM.out.s8; omega
  have hr0 := HM.out.r0
  have hr3 := HM.out.r3
  obtain ⟨g5, o5, rfl⟩ : ∃ g o, a5 = some ⟨g, o, none⟩ := by
    obtain ⟨t0, ht0⟩ := nth_of HT5.out.len hN1
    obtain ⟨g, o, e, _⟩ := HT5.out.view.at_ ht0
    exact ⟨g, o, e⟩
  refine gen_world (fun v => Below w5.heap.size w5 v ∧ v.heap[w5.heap.size]? = some (.cells #[.int .i64 (ns : Int), .int .i64 r, .slice (some ⟨g5, o5, none⟩) N c5] 28 (0, 0))) ⟨(by repeat (first | exact Below.refl _ _ | (with_reducible assumption) | refine bw_alloc ?_ _ | refine bw_drew ?_)), heap_alloc_new w5 _⟩ ?_
  intro W6 ⟨hl6, hs6⟩
  have HL6 := Lib.hid hl6
  have HS6 := Lib.hid hs6
  have HO0 := Lib.hid (kept_obj hl6 HO0.out)
  have HTL : Hid (∀ i T, M[i]? = some T → Told T ∧ T.ok w5 ∧ At w5 g5 (o5 + i * 7) T ∧ T.id = (i : Int) + 1 ∧ ∃ C : Nat, T.c = (C : Int) ∧ 1 ≤ C ∧ C ≤ 24) := fun i T hT => by
    have hg := HM.out.good i T hT
    refine ⟨hg.told HM.out.s8, HT5.out.ok.at_ hT, ?_, hg.id, T.c.toNat, by have := hg.c1; omega, by have := hg.c1; omega, by have := hg.cd; have := hg.dt; have := hg.t24; omega⟩
    obtain ⟨g, o, e, h⟩ := HT5.out.view.at_ hT
    cases e
    exact h
  clear hl6 hs6 C d0 d1 d2 HL1 HL2 HB0 HB1 hz2
  refine gen_world (fun v => Below W6.heap.size W6 v) (Below.refl _ _) ?_
  intro V0 hv0
  have HV0 := Lib.hid hv0
  have HOB := Lib.hid (kept_obj hv0 HO0.out)
  obtain ⟨go, hgo⟩ : ∃ go, W.heap.size + 1 = go := ⟨_, rfl⟩
  rw [hgo] at HOB ⊢
  clear hv0 HO0 hgo
  go_wp2
  go_loopw [7] (fun u wr => ∃ i : Nat, i ≤ N ∧ u = .int .i64 i ∧ Hid (Below V0.heap.size V0 wr)) (fun u _ => (N - intOf u).toNat)
  case atStart => exact ⟨0, Nat.zero_le _, rfl, Below.refl _ _⟩
  case round =>
    obtain ⟨i, hi, rfl, HP⟩ := hrel
    have s2 : wr.cell? ⟨w5.heap.size, 2, none⟩ = some (.slice (some ⟨g5, o5, none⟩) N c5) := by rw [blk_cell (kept_obj HP.out (kept_obj HV0.out HS6.out))]; rfl
    by_cases hlt : i < N
    · obtain ⟨T, hTi⟩ := nth_of HT5.out.len hlt
      have HTI := Lib.hid (HTL.out i T hTi)
      obtain ⟨C, hC, hC1, hC24⟩ := HTI.out.2.2.2.2
      have HC := Lib.hid hC
      have HW5 : Hid (Below w5.heap.size w5 wr) := HL6.out.trans ((HV0.out.trans (HP.out.mono HV0.out.size)).mono HL6.out.size)
      obtain ⟨y0, y1, y2, y3, y4, y5, y6⟩ := HTI.out.2.2.1
      have t0 := kept_cell HW5.out y0
      have t1 := kept_cell HW5.out y1
      have t2 := kept_cell HW5.out y2
      have t3 := kept_cell HW5.out y3
      have t4 := kept_cell HW5.out y4
      have t5 := kept_cell HW5.out y5
      have t6 := kept_cell HW5.out y6
      have i0 : (0 : Int) ≤ (i : Int) := by omega
      have i1 : (i : Int) < (N : Int) := by omega
      have i2 : IntKind.i64.wrap ((i : Int) + 1) = (i : Int) + 1 := IntWalk.i64_in _ (by omega)
      clear hC y0 y1 y2 y3 y4 y5 y6
      go_upto_region 7 with fail
      obtain ⟨gt, hgt⟩ : ∃ gt, wr.heap.size = gt := ⟨_, rfl⟩
      refine gen_world (fun v => Below wr.heap.size wr v ∧ v.heap[wr.heap.size]? = some (.cells #[.int .i64 T.id, .int .i64 T.c, .int .i64 T.d, .int .i64 T.t, .int .i64 T.p, .slice T.a1 T.ch.length T.c1, .slice T.a2 T.us.length T.c2] TT (0, 0))) ⟨(by repeat (first | exact Below.refl _ _ | (with_reducible assumption) | refine bw_alloc ?_ _ | refine bw_drew ?_)), heap_alloc_new wr _⟩ ?_
      intro V1 ⟨hv1, ht1⟩
      rw [hgt] at ht1 ⊢
      have HT1 := Lib.hid ht1
      have HP1 := Lib.hid (below_up HP.out hv1)
      have HOK := Lib.hid (HTI.out.2.1.below (below_up HW5.out hv1))
      have HTT := Lib.hid HTI.out.1
      have HO1 := Lib.hid (kept_obj HP1.out HOB.out)
      clear hv1 hgt t0 t1 t2 t3 t4 t5 t6 s2 HTI HW5 HP
      have t0 : V1.cell? ⟨gt, 0, none⟩ = some (.int .i64 T.id) := by rw [blk_cell ht1]; rfl
      have t1 : V1.cell? ⟨gt, 1, none⟩ = some (.int .i64 T.c) := by rw [blk_cell ht1]; rfl
      have t2 : V1.cell? ⟨gt, 2, none⟩ = some (.int .i64 T.d) := by rw [blk_cell ht1]; rfl
      have t3 : V1.cell? ⟨gt, 3, none⟩ = some (.int .i64 T.t) := by rw [blk_cell ht1]; rfl
      have t4 : V1.cell? ⟨gt, 4, none⟩ = some (.int .i64 T.p) := by rw [blk_cell ht1]; rfl
      have t5 : V1.cell? ⟨gt, 5, none⟩ = some (.slice T.a1 T.ch.length T.c1) := by rw [blk_cell ht1]; rfl
      have t6 : V1.cell? ⟨gt, 6, none⟩ = some (.slice T.a2 T.us.length T.c2) := by rw [blk_cell ht1]; rfl
      have o0 : V1.cell? ⟨go, 0, none⟩ = some (.int .u64 (wd O 0)) := by rw [blk_cell HO1.out]; rfl
      have o1 : V1.cell? ⟨go, 1, none⟩ = some (.int .u64 (wd O 1)) := by rw [blk_cell HO1.out]; rfl
      have o2 : V1.cell? ⟨go, 2, none⟩ = some (.int .u64 (wd O 2)) := by rw [blk_cell HO1.out]; rfl
      have o3 : V1.cell? ⟨go, 3, none⟩ = some (.int .u64 (wd O 3)) := by rw [blk_cell HO1.out]; rfl
      clear ht1
      have MC := Lib.hid (fun (v : World) (hv : Below V1.heap.size V1 v) => most_any T HTT.out C HC.out v (HOK.out.below hv) O)
      have HMI := Lib.hid (most_is T.us hC1 O)
      generalize (mostOf T.us C O).1 = m at *
      generalize (mostOf T.us C O).2 = ma at *
      go_upto_region 8 with (go_at_call 16; (with_reducible refine (MC.out _ (Below.refl _ _)).mono ?_); rintro e w3 ⟨rfl, b3⟩; have HB3 := Lib.hid b3; clear b3)
      clear o0 o1 o2 o3 t0 t1 t2 t3 t4 t5 t6 MC
      refine gen_world (fun v => Below V1.heap.size V1 v) HB3.out ?_
      intro V2 hv2
      have HV2 := Lib.hid hv2
      have ht2 := kept_obj hv2 HT1.out
      clear hv2 HB3
      have t0 : V2.cell? ⟨gt, 0, none⟩ = some (.int .i64 T.id) := by rw [blk_cell ht2]; rfl
      have t1 : V2.cell? ⟨gt, 1, none⟩ = some (.int .i64 T.c) := by rw [blk_cell ht2]; rfl
      have t2 : V2.cell? ⟨gt, 2, none⟩ = some (.int .i64 T.d) := by rw [blk_cell ht2]; rfl
      have t3 : V2.cell? ⟨gt, 3, none⟩ = some (.int .i64 T.t) := by rw [blk_cell ht2]; rfl
      have t4 : V2.cell? ⟨gt, 4, none⟩ = some (.int .i64 T.p) := by rw [blk_cell ht2]; rfl
      have t5 : V2.cell? ⟨gt, 5, none⟩ = some (.slice T.a1 T.ch.length T.c1) := by rw [blk_cell ht2]; rfl
      have t6 : V2.cell? ⟨gt, 6, none⟩ = some (.slice T.a2 T.us.length T.c2) := by rw [blk_cell ht2]; rfl
      clear ht2
      go_cut [57] from 34 to 57 (fun u wx => u = .bool false ∧ Hid (Below V1.heap.size V1 wx))
      case first =>
        rcases HMI.out.1 with ⟨h1, h2⟩ | ⟨h1, h2, h3, _, _⟩
        · have d1 : decide ((m : Int) < 0) = false := decide_eq_false (by omega)
          have d2 : decide (0 < (m : Int)) = false := decide_eq_false (by omega)
          have d3 : ((m : Int) == 0) = true := by rw [beq_iff_eq]; omega
          have d4 : ((ma : Int) == 0) = true := by rw [beq_iff_eq]; omega
          have d5 : ((ma : Int) != 0) = false := by rw [bne_eq_false_iff_eq]; omega
          have d6 : ¬ 0 < m := by omega
          have d7 : decide (0 < m) = false := decide_eq_false d6
          clear h1 h2
          go_wp2_with fail
          go_meet
          exact ⟨by first | rfl | (simp; omega), HV2⟩
        · have d1 : decide ((m : Int) < 0) = false := decide_eq_false (by omega)
          have d2 : decide (0 < (m : Int)) = true := decide_eq_true (by omega)
          have d3 : ((m : Int) == 0) = false := by rw [beq_eq_false_iff_ne]; omega
          have d4 : decide ((ma : Int) < 1) = false := decide_eq_false (by omega)
          have d5 : decide (T.c ≤ (ma : Int)) = false := decide_eq_false (by have := HC.out; omega)
          have d8 : 0 < m := h1
          have d9 : decide (0 < m) = true := decide_eq_true h1
          have d6 : ¬ (ma : Int) < 1 := by omega
          have d7 : ¬ T.c ≤ (ma : Int) := by have := HC.out; omega
          clear h1 h2 h3
          go_wp2_with fail
          go_meet
          exact ⟨by first | rfl | (simp; omega), HV2⟩
      case rest =>
        obtain ⟨rfl, H3⟩ := hcut
        clear HV2 t0 t1 t2 t3 t4 t5 t6
        go_wp2
        go_loopw [11] (fun u wr => ∃ p : Nat, 1 ≤ p ∧ p ≤ C ∧ u = .int .i64 p ∧ Hid (Below V1.heap.size V1 wr)) (fun u _ => (C - intOf u).toNat)
        case atStart => exact ⟨1, Nat.le_refl _, hC1, rfl, H3⟩
        case round =>
          obtain ⟨p, hp1, hp, rfl, HR⟩ := hrel
          have ht := kept_obj HR.out HT1.out
          have ho := kept_obj HR.out HO1.out
          have t0 : wr.cell? ⟨gt, 0, none⟩ = some (.int .i64 T.id) := by rw [blk_cell ht]; rfl
          have t1 : wr.cell? ⟨gt, 1, none⟩ = some (.int .i64 T.c) := by rw [blk_cell ht]; rfl
          have t2 : wr.cell? ⟨gt, 2, none⟩ = some (.int .i64 T.d) := by rw [blk_cell ht]; rfl
          have t3 : wr.cell? ⟨gt, 3, none⟩ = some (.int .i64 T.t) := by rw [blk_cell ht]; rfl
          have t4 : wr.cell? ⟨gt, 4, none⟩ = some (.int .i64 T.p) := by rw [blk_cell ht]; rfl
          have t5 : wr.cell? ⟨gt, 5, none⟩ = some (.slice T.a1 T.ch.length T.c1) := by rw [blk_cell ht]; rfl
          have t6 : wr.cell? ⟨gt, 6, none⟩ = some (.slice T.a2 T.us.length T.c2) := by rw [blk_cell ht]; rfl
          by_cases hpC : p < C
          · have q1 : (p : Int) < T.c := by have := HC.out; omega
            have q2 : IntKind.i64.wrap ((p : Int) + 1) = (p : Int) + 1 := IntWalk.i64_in _ (by omega)
            have UC := Lib.hid (fun (v : World) (hv : Below wr.heap.size wr v) => useful_any T HTT.out C p HC.out v (HOK.out.below (below_up HR.out hv)))
            rw [Nat.min_eq_left (Nat.le_of_lt hpC)] at UC
            have AO := Lib.hid (fun w => rand_any (andP (inP T.us 0 p) (inP T.us p C)) O w)
            have LO := Lib.hid (fun w => rlen_any (andP (andP (inP T.us 0 p) (inP T.us p C)) O) w)
            rw [show cntN (andP (andP (inP T.us 0 p) (inP T.us p C)) O) 256 = usefulN T.us C O p from rfl] at LO
            have HK := HMI.out.2 p hp1 hpC
            unfold SetBack at UC
            generalize wd (andP (andP (inP T.us 0 p) (inP T.us p C)) O) = X at *
            generalize wd (andP (inP T.us 0 p) (inP T.us p C)) = U at *
            obtain ⟨k, hk⟩ : ∃ k, usefulN T.us C O p = k := ⟨_, rfl⟩
            have HKK := Lib.hid hk
            rw [hk] at HK LO
            clear hk
            have MK : Hid (∀ w', Below wr.heap.size wr w' → (w'.cell? ⟨gt, 0, none⟩ = some (.int .i64 T.id) ∧ w'.cell? ⟨gt, 1, none⟩ = some (.int .i64 T.c) ∧ w'.cell? ⟨gt, 2, none⟩ = some (.int .i64 T.d) ∧ w'.cell? ⟨gt, 3, none⟩ = some (.int .i64 T.t) ∧ w'.cell? ⟨gt, 4, none⟩ = some (.int .i64 T.p) ∧ w'.cell? ⟨gt, 5, none⟩ = some (.slice T.a1 T.ch.length T.c1) ∧ w'.cell? ⟨gt, 6, none⟩ = some (.slice T.a2 T.us.length T.c2) ∧ w'.cell? ⟨go, 0, none⟩ = some (.int .u64 (wd O 0)) ∧ w'.cell? ⟨go, 1, none⟩ = some (.int .u64 (wd O 1)) ∧ w'.cell? ⟨go, 2, none⟩ = some (.int .u64 (wd O 2)) ∧ w'.cell? ⟨go, 3, none⟩ = some (.int .u64 (wd O 3)))) := fun w' hb => by
              have x0 := kept_obj hb ht
              have x1 := kept_obj hb ho
              exact ⟨by rw [blk_cell x0]; rfl, by rw [blk_cell x0]; rfl, by rw [blk_cell x0]; rfl, by rw [blk_cell x0]; rfl, by rw [blk_cell x0]; rfl, by rw [blk_cell x0]; rfl, by rw [blk_cell x0]; rfl, by rw [blk_cell x1]; rfl, by rw [blk_cell x1]; rfl, by rw [blk_cell x1]; rfl, by rw [blk_cell x1]; rfl⟩
            have bb := Below.refl wr.heap.size wr
            clear ht ho
            go_upto_region 13 with fail
            go_cut [12] from 64 to 69 (fun u wx => u = .int .i64 (k : Int) ∧ Hid (Below wr.heap.size wr wx))
            case first =>
              go_region_held3 (fun w' => w'.cell? ⟨gt, 0, none⟩ = some (.int .i64 T.id) ∧ w'.cell? ⟨gt, 1, none⟩ = some (.int .i64 T.c) ∧ w'.cell? ⟨gt, 2, none⟩ = some (.int .i64 T.d) ∧ w'.cell? ⟨gt, 3, none⟩ = some (.int .i64 T.t) ∧ w'.cell? ⟨gt, 4, none⟩ = some (.int .i64 T.p) ∧ w'.cell? ⟨gt, 5, none⟩ = some (.slice T.a1 T.ch.length T.c1) ∧ w'.cell? ⟨gt, 6, none⟩ = some (.slice T.a2 T.us.length T.c2) ∧ w'.cell? ⟨go, 0, none⟩ = some (.int .u64 (wd O 0)) ∧ w'.cell? ⟨go, 1, none⟩ = some (.int .u64 (wd O 1)) ∧ w'.cell? ⟨go, 2, none⟩ = some (.int .u64 (wd O 2)) ∧ w'.cell? ⟨go, 3, none⟩ = some (.int .u64 (wd O 3))) (exact MK.out _ (by repeat (first | exact Below.refl _ _ | (with_reducible assumption) | refine bw_alloc ?_ _ | refine bw_drew ?_))) (first
                | (go_at_call 12; (with_reducible refine (Calls.upV (V := wr) (by repeat (first | exact Below.refl _ _ | (with_reducible assumption) | refine bw_alloc ?_ _ | refine bw_drew ?_)) (UC.out _ (by repeat (first | exact Below.refl _ _ | (with_reducible assumption) | refine bw_alloc ?_ _ | refine bw_drew ?_)))).mono ?_); rintro e wx ⟨rfl, b0, bx⟩; clear b0)
                | (go_at_call 15; (with_reducible refine (Calls.upV (V := wr) (by repeat (first | exact Below.refl _ _ | (with_reducible assumption) | refine bw_alloc ?_ _ | refine bw_drew ?_)) (AO.out _)).mono ?_); rintro e wx ⟨rfl, b0, bx⟩; clear b0)
                | (go_at_call 17; (with_reducible refine (Calls.upV (V := wr) (by repeat (first | exact Below.refl _ _ | (with_reducible assumption) | refine bw_alloc ?_ _ | refine bw_drew ?_)) (LO.out _)).mono ?_); rintro e wx ⟨rfl, b0, bx⟩; clear b0))
              all_goals
                go_wp2_with fail
                go_meet
                exact ⟨rfl, by assumption⟩
            case rest =>
              obtain ⟨rfl, H4⟩ := hcut
              clear MK bb t0 t1 t2 t3 t4 t5 t6 UC AO LO
              have e1 : ¬ m < k := by omega
              have e0 : decide (m < k) = false := decide_eq_false e1
              go_upto_region 14 with fail
              go_cut [92] from 70 to 92 (fun u wx => u = .bool false ∧ Hid (Below wr.heap.size wr wx))
              case first =>
                rcases Nat.lt_trichotomy p ma with hpa | hpa | hpa
                · have e2 : ((p : Int) == (ma : Int)) = false := by rw [beq_eq_false_iff_ne]; omega
                  have e3 : decide ((p : Int) < (ma : Int)) = true := decide_eq_true (by omega)
                  have e4 : ((k : Int) == (m : Int)) = false := by
                    rw [beq_eq_false_iff_ne]
                    rcases HMI.out.1 with ⟨_, h2⟩ | ⟨_, _, _, _, h5⟩
                    · omega
                    · have := h5 p hp1 hpa
                      rw [HKK.out] at this
                      omega
                  have e6 : p < ma := hpa
                  have e7 : decide (p < ma) = true := decide_eq_true hpa
                  clear hpa HK
                  go_wp2_with fail
                  go_meet
                  exact ⟨by first | rfl | (simp; omega) | (simp [e4]; omega), H4⟩
                · have hkm : k = m := by
                    rcases HMI.out.1 with ⟨_, h2⟩ | ⟨_, _, _, h4, _⟩
                    · omega
                    · rw [← hpa, HKK.out] at h4; exact h4
                  subst hpa hkm
                  clear HK
                  go_wp2_with fail
                  go_meet
                  exact ⟨by first | rfl | simp, H4⟩
                · have e2 : ((p : Int) == (ma : Int)) = false := by rw [beq_eq_false_iff_ne]; omega
                  have e3 : decide ((p : Int) < (ma : Int)) = false := decide_eq_false (by omega)
                  have e6 : ¬ p < ma := by omega
                  have e7 : decide (p < ma) = false := decide_eq_false e6
                  clear hpa HK
                  go_wp2_with fail
                  go_meet
                  exact ⟨by first | rfl | (simp; omega), H4⟩
              case rest =>
                obtain ⟨rfl, H5⟩ := hcut
                clear HK e1 e0
                go_wp2
                go_roundw
                case rel => exact ⟨p + 1, by omega, by omega, by go_num, below_up HR.out H5.out⟩
                case measure => simp [intOf]; omega
          · obtain rfl : p = C := by omega
            have q1 : ¬ (p : Int) < T.c := by have := HC.out; omega
            clear ht ho
            go_wp2
            go_roundw
            case rel => exact ⟨i + 1, by omega, by go_num, below_up HP1.out HR.out⟩
            case measure => simp [intOf]; omega
    · obtain rfl : i = N := by omega
      go_wp2
      go_ret
      exact ⟨rfl, HL5.out.trans (HL6.out.trans ((HV0.out.trans (HP.out.mono HV0.out.size)).mono HL6.out.size) |>.mono HL5.out.size)⟩
end Go.Proofs.Ytcanbjgbpkofaaa

/-
  The walk over the statement that with more other sets no fewer are useful.
-/
namespace Go.Proofs.Ytcanbjgbpkofaaa
open Go.RowKit Go.Maps Go.Shelf
attribute [-go_sem] run_eql_struct run_neq_struct
attribute [local go_sem] bits_eql bits_neq none_eql none_neq bitsGuard

theorem usefulN_left (us : List Int) (C : Nat) (O1 O2 : Nat → Bool) (p : Nat) : usefulN us C O1 p ≤ usefulN us C (orP O1 O2) p :=
  cntN_mono fun x _ h => by
    unfold andP at h ⊢
    unfold orP
    rw [Bool.and_eq_true] at h ⊢
    exact ⟨h.1, by rw [h.2]; rfl⟩
theorem usefulN_right (us : List Int) (C : Nat) (O1 O2 : Nat → Bool) (p : Nat) : usefulN us C O2 p ≤ usefulN us C (orP O1 O2) p :=
  cntN_mono fun x _ h => by
    unfold andP at h ⊢
    unfold orP
    rw [Bool.and_eq_true] at h ⊢
    exact ⟨h.1, by rw [h.2, Bool.or_true]⟩
theorem usefulN_both (us : List Int) (C : Nat) (O1 O2 : Nat → Bool) (p : Nat) : usefulN us C (orP O1 O2) p ≤ usefulN us C O1 p + usefulN us C O2 p := by
  unfold usefulN
  rw [cntN_same (q := orP (andP (andP (inP us 0 p) (inP us p C)) O1) (andP (andP (inP us 0 p) (inP us p C)) O2)) (fun x _ => by unfold andP orP; rw [Bool.and_or_distrib_left])]
  exact cntN_or _ _ _
theorem allN_iff {L : List TV} {id : Int} {x : Nat} : ∀ {n : Nat}, allN L id n x = true ↔ ∃ (k : Nat) (T : TV), k < n ∧ L[k]? = some T ∧ ¬ T.id = id ∧ inP T.us 0 T.c.toNat x = true
  | 0 => by
    constructor
    · intro h; exact absurd h (by simp [allN, noneP])
    · rintro ⟨_, _, h, _⟩; exact absurd h (Nat.not_lt_zero _)
  | n + 1 => by
    have ih := allN_iff (L := L) (id := id) (x := x) (n := n)
    cases hT : L[n]? with
    | none =>
      have e : allN L id (n + 1) = allN L id n := by rw [allN, hT]
      rw [e, ih]
      constructor
      · rintro ⟨k, T, h1, h2⟩; exact ⟨k, T, by omega, h2⟩
      · rintro ⟨k, T, h1, h2, h3⟩
        refine ⟨k, T, ?_, h2, h3⟩
        rcases Nat.lt_or_ge k n with g | g
        · exact g
        · obtain rfl : k = n := by omega
          rw [hT] at h2; cases h2
    | some T =>
      by_cases hi : T.id = id
      · rw [allN_is hT hi, ih]
        constructor
        · rintro ⟨k, T, h1, h2⟩; exact ⟨k, T, by omega, h2⟩
        · rintro ⟨k, T', h1, h2, h3, h4⟩
          refine ⟨k, T', ?_, h2, h3, h4⟩
          rcases Nat.lt_or_ge k n with g | g
          · exact g
          · obtain rfl : k = n := by omega
            rw [hT] at h2; cases h2; exact absurd hi h3
      · rw [allN_not hT hi]
        unfold orP
        rw [Bool.or_eq_true, ih]
        constructor
        · rintro (⟨k, T, h1, h2⟩ | h)
          · exact ⟨k, T, by omega, h2⟩
          · exact ⟨n, T, by omega, hT, hi, h⟩
        · rintro ⟨k, T', h1, h2, h3, h4⟩
          rcases Nat.lt_or_ge k n with g | g
          · exact .inl ⟨k, T', g, h2, h3, h4⟩
          · obtain rfl : k = n := by omega
            rw [hT] at h2; cases h2; exact .inr h4
/-- All others' sets and one's own are all. -/
theorem all_whole {L : List TV} {i n : Nat} {T : TV} (hT : L[i]? = some T) (hi : i < n) (hid : ∀ (k : Nat) (T' : TV), L[k]? = some T' → T'.id = (k : Int) + 1) : orP (allN L T.id n) (inP T.us 0 T.c.toNat) = allN L 0 n := by
  funext x
  apply bool_ext
  unfold orP
  rw [Bool.or_eq_true, allN_iff, allN_iff]
  constructor
  · rintro (⟨k, T', h1, h2, h3, h4⟩ | h)
    · exact ⟨k, T', h1, h2, by have := hid k T' h2; omega, h4⟩
    · exact ⟨i, T, hi, hT, by have := hid i T hT; omega, h⟩
  · rintro ⟨k, T', h1, h2, h3, h4⟩
    by_cases e : T'.id = T.id
    · obtain rfl : k = i := by have := hid k T' h2; have := hid i T hT; omega
      rw [hT] at h2; cases h2
      exact .inr h4
    · exact .inl ⟨k, T', h1, h2, e, h4⟩

set_option maxRecDepth 100000 in
set_option maxHeartbeats 16000000 in
theorem law_grow (W : World) (S R : Int) (a : Option Addr) (n cap : Nat) (L : List NV) (hn : Nums W a n cap L) (O1 O2 : Nat → Bool) :
    Calls Try.prog 6 #[.agg #[.int .i64 S, .int .i64 R, .slice a n cap], .agg #[.int .u64 (wd O1 0), .int .u64 (wd O1 1), .int .u64 (wd O1 2), .int .u64 (wd O1 3)], .agg #[.int .u64 (wd O2 0), .int .u64 (wd O2 1), .int .u64 (wd O2 2), .int .u64 (wd O2 3)]] W fun e w' => e = .returned (.bool true) ∧ Below W.heap.size W w' := by
  have HN := Lib.hid hn
  have hz2 := zeroSys
  clear hn
  go_enter Try.func6, Try.ntmps6
  go_upto_region 1 with fail
  refine gen_world (fun v => Below W.heap.size W v ∧ v.heap[W.heap.size]? = some (.cells #[.int .i64 S, .int .i64 R, .slice a n cap] 24 (0, 0)) ∧ v.heap[W.heap.size + 1]? = some (.cells #[.int .u64 (wd O1 0), .int .u64 (wd O1 1), .int .u64 (wd O1 2), .int .u64 (wd O1 3)] ST4 (0, 0)) ∧ v.heap[W.heap.size + 2]? = some (.cells #[.int .u64 (wd O2 0), .int .u64 (wd O2 1), .int .u64 (wd O2 2), .int .u64 (wd O2 3)] ST4 (0, 0))) ⟨(by repeat (first | exact Below.refl _ _ | (with_reducible assumption) | refine bw_alloc ?_ _ | refine bw_drew ?_)), (three_boxes W rfl _ _ _).1, (three_boxes W rfl _ _ _).2.1, (three_boxes W rfl _ _ _).2.2⟩ ?_
  intro W1 ⟨hl1, hb0, ho0, ho1⟩
  have HL1 := Lib.hid hl1
  have HB0 := Lib.hid hb0
  have HO0 := Lib.hid ho0
  have HO1 := Lib.hid ho1
  clear hl1 hb0 ho0 ho1
  go_upto_region 2 with (go_at_call 8; (with_reducible refine (awake_any _).mono ?_); rintro e w1 ⟨rfl, b1⟩; have HL2 := Lib.hid (below_up HL1.out b1); have HB1 := Lib.hid (kept_obj b1 HB0.out); have HO0 := Lib.hid (kept_obj b1 HO0.out); have HO1 := Lib.hid (kept_obj b1 HO1.out); clear b1)
  have d0 : w1.cell? ⟨W.heap.size, 0, none⟩ = some (.int .i64 S) := by rw [blk_cell HB1.out]; rfl
  have d1 : w1.cell? ⟨W.heap.size, 1, none⟩ = some (.int .i64 R) := by rw [blk_cell HB1.out]; rfl
  have d2 : w1.cell? ⟨W.heap.size, 2, none⟩ = some (.slice a n cap) := by rw [blk_cell HB1.out]; rfl
  have C := Lib.hid (made5_any S R (HN.out.below HL2.out))
  go_upto_region 3 with (go_at_call 9; (with_reducible refine (C.out).mono ?_); rintro e w5 ⟨s, r, a5, N, c5, M, rfl, ho5, hok5, hi5, hm5, b5⟩; have HT5 := Lib.hid (ho5.tasks hok5); have HM := Lib.hid hm5; have HL5 := Lib.hid (below_up HL2.out b5); have HO0 := Lib.hid (kept_obj b5 HO0.out); have HO1 := Lib.hid (kept_obj b5 HO1.out); clear ho5 hok5 hi5 hm5 b5)
  have hN1 : 0 < N := by have := HM.out.pos; have := HT5.out.len; omega
  have hN6 : N ≤ 6 := by have := HM.out.six; have := HT5.out.len; omega
  obtain ⟨ns, rfl⟩ : ∃ ns : Nat, s = (ns : Int) := ⟨s.toNat, by have := HM.out.s1; omega⟩
  have hns : ns ≤ 8 := by have := HM.out.s8; omega
  have hr0 := HM.out.r0
  have hr3 := HM.out.r3
  obtain ⟨g5, o5, rfl⟩ : ∃ g o, a5 = some ⟨g, o, none⟩ := by
    obtain ⟨t0, ht0⟩ := nth_of HT5.out.len hN1
    obtain ⟨g, o, e, _⟩ := HT5.out.view.at_ ht0
    exact ⟨g, o, e⟩
  refine gen_world (fun v => Below w5.heap.size w5 v ∧ v.heap[w5.heap.size]? = some (.cells #[.int .i64 (ns : Int), .int .i64 r, .slice (some ⟨g5, o5, none⟩) N c5] 28 (0, 0))) ⟨(by repeat (first | exact Below.refl _ _ | (with_reducible assumption) | refine bw_alloc ?_ _ | refine bw_drew ?_)), heap_alloc_new w5 _⟩ ?_
  intro W6 ⟨hl6, hs6⟩
  have HL6 := Lib.hid hl6
  have HS6 := Lib.hid hs6
  have HO0 := Lib.hid (kept_obj hl6 HO0.out)
  have HO1 := Lib.hid (kept_obj hl6 HO1.out)
  have HTL : Hid (∀ i T, M[i]? = some T → Told T ∧ T.ok w5 ∧ At w5 g5 (o5 + i * 7) T ∧ T.id = (i : Int) + 1 ∧ ∃ C : Nat, T.c = (C : Int) ∧ 1 ≤ C ∧ C ≤ 24) := fun i T hT => by
    have hg := HM.out.good i T hT
    refine ⟨hg.told HM.out.s8, HT5.out.ok.at_ hT, ?_, hg.id, T.c.toNat, by have := hg.c1; omega, by have := hg.c1; omega, by have := hg.cd; have := hg.dt; have := hg.t24; omega⟩
    obtain ⟨g, o, e, h⟩ := HT5.out.view.at_ hT
    cases e
    exact h
  clear hl6 hs6 C d0 d1 d2 HL1 HL2 HB0 HB1 hz2
  obtain ⟨ga, hga⟩ : ∃ ga, W.heap.size + 1 = ga := ⟨_, rfl⟩
  obtain ⟨gb, hgb⟩ : ∃ gb, W.heap.size + 2 = gb := ⟨_, rfl⟩
  have hgb2 : W.heap.size + 1 + 1 = gb := hgb
  rw [hga] at HO0
  rw [hgb] at HO1
  rw [hga] at hgb2 ⊢
  rw [hgb2]
  have ao0 : W6.cell? ⟨ga, 0, none⟩ = some (.int .u64 (wd O1 0)) := by rw [blk_cell HO0.out]; rfl
  have ao1 : W6.cell? ⟨ga, 1, none⟩ = some (.int .u64 (wd O1 1)) := by rw [blk_cell HO0.out]; rfl
  have ao2 : W6.cell? ⟨ga, 2, none⟩ = some (.int .u64 (wd O1 2)) := by rw [blk_cell HO0.out]; rfl
  have ao3 : W6.cell? ⟨ga, 3, none⟩ = some (.int .u64 (wd O1 3)) := by rw [blk_cell HO0.out]; rfl
  have bo0 : W6.cell? ⟨gb, 0, none⟩ = some (.int .u64 (wd O2 0)) := by rw [blk_cell HO1.out]; rfl
  have bo1 : W6.cell? ⟨gb, 1, none⟩ = some (.int .u64 (wd O2 1)) := by rw [blk_cell HO1.out]; rfl
  have bo2 : W6.cell? ⟨gb, 2, none⟩ = some (.int .u64 (wd O2 2)) := by rw [blk_cell HO1.out]; rfl
  have bo3 : W6.cell? ⟨gb, 3, none⟩ = some (.int .u64 (wd O2 3)) := by rw [blk_cell HO1.out]; rfl
  have KO := Lib.hid (ror_two O1 O2)
  clear hga hgb hgb2
  go_upto_region 4 with (go_at_call 13; (refine (KO.out _ _ (by simp) (by simp) (by simp) (by simp) (by simp) (by simp) (by simp) (by simp) (by simp)).mono ?_); rintro e w7 ⟨rfl, b7⟩; have HB7 := Lib.hid (below_up (bw_alloc (Below.refl _ _) _) b7 : Below W6.heap.size W6 w7); clear b7)
  clear ao0 ao1 ao2 ao3 bo0 bo1 bo2 bo3 KO
  obtain ⟨gl, hgl⟩ : ∃ gl, w7.heap.size = gl := ⟨_, rfl⟩
  refine gen_world (fun v => Below W6.heap.size W6 v ∧ v.heap[w7.heap.size]? = some (.cells #[.int .u64 (wd (orP O1 O2) 0), .int .u64 (wd (orP O1 O2) 1), .int .u64 (wd (orP O1 O2) 2), .int .u64 (wd (orP O1 O2) 3)] ST4 (0, 0))) ⟨bw_alloc HB7.out _, heap_alloc_new w7 _⟩ ?_
  intro V0 ⟨hv0, hl0⟩
  rw [hgl] at hl0 ⊢
  have HV0 := Lib.hid hv0
  have HA0 := Lib.hid (kept_obj hv0 HO0.out)
  have HB0 := Lib.hid (kept_obj hv0 HO1.out)
  have HC0 := Lib.hid hl0
  have HSY := Lib.hid (kept_obj hv0 HS6.out)
  have HIDS : Hid (∀ (k : Nat) (T' : TV), M[k]? = some T' → T'.id = (k : Int) + 1) := fun k T' h => (HTL.out k T' h).2.2.2.1
  have HALL : Hid (∀ T ∈ M, Told T) := fun T h => by
    obtain ⟨k, hk⟩ := List.getElem?_of_mem h
    exact (HTL.out k T hk).1
  clear hv0 hl0 hgl HB7 HO0 HO1
  go_wp2
  go_loopw [10] (fun u wr => ∃ i : Nat, i ≤ N ∧ u = .int .i64 i ∧ Hid (Below V0.heap.size V0 wr)) (fun u _ => (N - intOf u).toNat)
  case atStart => exact ⟨0, Nat.zero_le _, rfl, Below.refl _ _⟩
  case round =>
    obtain ⟨i, hi, rfl, HP⟩ := hrel
    have s2 : wr.cell? ⟨w5.heap.size, 2, none⟩ = some (.slice (some ⟨g5, o5, none⟩) N c5) := by rw [blk_cell (kept_obj HP.out HSY.out)]; rfl
    by_cases hlt : i < N
    · obtain ⟨T, hTi⟩ := nth_of HT5.out.len hlt
      have HTI := Lib.hid (HTL.out i T hTi)
      obtain ⟨C, hC, hC1, hC24⟩ := HTI.out.2.2.2.2
      have HC := Lib.hid hC
      have HW5 : Hid (Below w5.heap.size w5 wr) := HL6.out.trans ((HV0.out.trans (HP.out.mono HV0.out.size)).mono HL6.out.size)
      obtain ⟨y0, y1, y2, y3, y4, y5, y6⟩ := HTI.out.2.2.1
      have t0 := kept_cell HW5.out y0
      have t1 := kept_cell HW5.out y1
      have t2 := kept_cell HW5.out y2
      have t3 := kept_cell HW5.out y3
      have t4 := kept_cell HW5.out y4
      have t5 := kept_cell HW5.out y5
      have t6 := kept_cell HW5.out y6
      have i0 : (0 : Int) ≤ (i : Int) := by omega
      have i1 : (i : Int) < (N : Int) := by omega
      have i2 : IntKind.i64.wrap ((i : Int) + 1) = (i : Int) + 1 := IntWalk.i64_in _ (by omega)
      clear hC y0 y1 y2 y3 y4 y5 y6
      have CM := Lib.hid (fun (O : Nat → Bool) (v : World) (hv : Below wr.heap.size wr v) => most_any T HTI.out.1 C HC.out v (HTI.out.2.1.below (below_up HW5.out hv)) O)
      have M1 := Lib.hid (CM.out O1)
      have M2 := Lib.hid (CM.out (orP O1 O2))
      have M3 := Lib.hid (CM.out O2)
      have UC := Lib.hid (fun (v : World) (hv : Below wr.heap.size wr v) => used_any T HTI.out.1 C HC.out v (HTI.out.2.1.below (below_up HW5.out hv)))
      have AL := Lib.hid (fun (id : Int) (v : World) (hv : Below wr.heap.size wr v) => all_any M HALL.out id v (some ⟨g5, o5, none⟩) N c5 (by omega) (HT5.out.below (below_up HW5.out hv)))
      have A0 := Lib.hid (AL.out 0)
      have A1 := Lib.hid (AL.out T.id)
      have KW := Lib.hid (ror_two (allN M T.id N) (inP T.us 0 C))
      have hCC : T.c.toNat = C := by have := HC.out; omega
      have hwh := all_whole hTi hlt HIDS.out
      rw [hCC] at hwh
      rw [hwh] at KW
      have n1 : (mostOf T.us C O1).1 ≤ (mostOf T.us C (orP O1 O2)).1 := best_mono fun p _ _ => usefulN_left T.us C O1 O2 p
      have n2 : (mostOf T.us C O2).1 ≤ (mostOf T.us C (orP O1 O2)).1 := best_mono fun p _ _ => usefulN_right T.us C O1 O2 p
      have n3 : (mostOf T.us C (orP O1 O2)).1 ≤ (mostOf T.us C O1).1 + (mostOf T.us C O2).1 := best_add fun p _ _ => usefulN_both T.us C O1 O2 p
      have n4 := most_le T.us C O1
      have n5 := most_le T.us C O2
      unfold SetBack at UC A0 A1
      clear hCC hwh CM AL
      generalize (mostOf T.us C O1).1 = x at *
      generalize (mostOf T.us C O2).1 = z at *
      generalize (mostOf T.us C (orP O1 O2)).1 = y at *
      generalize (mostOf T.us C O1).2 = x' at *
      generalize (mostOf T.us C O2).2 = z' at *
      generalize (mostOf T.us C (orP O1 O2)).2 = y' at *
      generalize wd (allN M 0 N) = Wh at *
      generalize wd (allN M T.id N) = Ot at *
      generalize wd (inP T.us 0 C) = Ow at *
      have QW := eq4_self (Wh 0) (Wh 1) (Wh 2) (Wh 3)
      obtain ⟨xz, hxz⟩ : ∃ xz, xz = x + z := ⟨_, rfl⟩
      have e1 : IntKind.i64.wrap ((x : Int) + (z : Int)) = (xz : Int) := by rw [show (x : Int) + (z : Int) = (xz : Int) by omega]; exact IntWalk.i64_in _ (by omega)
      have MK : Hid (∀ w', Below wr.heap.size wr w' → (w'.cell? ⟨w5.heap.size, 2, none⟩ = some (.slice (some ⟨g5, o5, none⟩) N c5) ∧ w'.cell? ⟨g5, o5 + i * 7, none⟩ = some (.int .i64 T.id) ∧ w'.cell? ⟨g5, o5 + i * 7 + 1, none⟩ = some (.int .i64 T.c) ∧ w'.cell? ⟨g5, o5 + i * 7 + 2, none⟩ = some (.int .i64 T.d) ∧ w'.cell? ⟨g5, o5 + i * 7 + 3, none⟩ = some (.int .i64 T.t) ∧ w'.cell? ⟨g5, o5 + i * 7 + 4, none⟩ = some (.int .i64 T.p) ∧ w'.cell? ⟨g5, o5 + i * 7 + 5, none⟩ = some (.slice T.a1 T.ch.length T.c1) ∧ w'.cell? ⟨g5, o5 + i * 7 + 6, none⟩ = some (.slice T.a2 T.us.length T.c2) ∧ w'.cell? ⟨ga, 0, none⟩ = some (.int .u64 (wd O1 0)) ∧ w'.cell? ⟨ga, 1, none⟩ = some (.int .u64 (wd O1 1)) ∧ w'.cell? ⟨ga, 2, none⟩ = some (.int .u64 (wd O1 2)) ∧ w'.cell? ⟨ga, 3, none⟩ = some (.int .u64 (wd O1 3)) ∧ w'.cell? ⟨gb, 0, none⟩ = some (.int .u64 (wd O2 0)) ∧ w'.cell? ⟨gb, 1, none⟩ = some (.int .u64 (wd O2 1)) ∧ w'.cell? ⟨gb, 2, none⟩ = some (.int .u64 (wd O2 2)) ∧ w'.cell? ⟨gb, 3, none⟩ = some (.int .u64 (wd O2 3)) ∧ w'.cell? ⟨gl, 0, none⟩ = some (.int .u64 (wd (orP O1 O2) 0)) ∧ w'.cell? ⟨gl, 1, none⟩ = some (.int .u64 (wd (orP O1 O2) 1)) ∧ w'.cell? ⟨gl, 2, none⟩ = some (.int .u64 (wd (orP O1 O2) 2)) ∧ w'.cell? ⟨gl, 3, none⟩ = some (.int .u64 (wd (orP O1 O2) 3)))) := fun w' hb => by
        have x1 := kept_obj (below_up HP.out hb) HA0.out
        have x2 := kept_obj (below_up HP.out hb) HB0.out
        have x3 := kept_obj (below_up HP.out hb) HC0.out
        exact ⟨kept_cell hb s2, kept_cell hb t0, kept_cell hb t1, kept_cell hb t2, kept_cell hb t3, kept_cell hb t4, kept_cell hb t5, kept_cell hb t6, by rw [blk_cell x1]; rfl, by rw [blk_cell x1]; rfl, by rw [blk_cell x1]; rfl, by rw [blk_cell x1]; rfl, by rw [blk_cell x2]; rfl, by rw [blk_cell x2]; rfl, by rw [blk_cell x2]; rfl, by rw [blk_cell x2]; rfl, by rw [blk_cell x3]; rfl, by rw [blk_cell x3]; rfl, by rw [blk_cell x3]; rfl, by rw [blk_cell x3]; rfl⟩
      have bb := Below.refl wr.heap.size wr
      have HXZ := Lib.hid hxz
      clear hTi hxz
      go_upto_region 7 with fail
      clear s2 t0 t1 t2 t3 t4 t5 t6
      go_cut [11, 12] from 33 to 42 (fun u v wx => u = .int .i64 (x : Int) ∧ v = .int .i64 (x' : Int) ∧ Hid (Below wr.heap.size wr wx))
      case first =>
        go_region_held3 (fun w' => w'.cell? ⟨w5.heap.size, 2, none⟩ = some (.slice (some ⟨g5, o5, none⟩) N c5) ∧ w'.cell? ⟨g5, o5 + i * 7, none⟩ = some (.int .i64 T.id) ∧ w'.cell? ⟨g5, o5 + i * 7 + 1, none⟩ = some (.int .i64 T.c) ∧ w'.cell? ⟨g5, o5 + i * 7 + 2, none⟩ = some (.int .i64 T.d) ∧ w'.cell? ⟨g5, o5 + i * 7 + 3, none⟩ = some (.int .i64 T.t) ∧ w'.cell? ⟨g5, o5 + i * 7 + 4, none⟩ = some (.int .i64 T.p) ∧ w'.cell? ⟨g5, o5 + i * 7 + 5, none⟩ = some (.slice T.a1 T.ch.length T.c1) ∧ w'.cell? ⟨g5, o5 + i * 7 + 6, none⟩ = some (.slice T.a2 T.us.length T.c2) ∧ w'.cell? ⟨ga, 0, none⟩ = some (.int .u64 (wd O1 0)) ∧ w'.cell? ⟨ga, 1, none⟩ = some (.int .u64 (wd O1 1)) ∧ w'.cell? ⟨ga, 2, none⟩ = some (.int .u64 (wd O1 2)) ∧ w'.cell? ⟨ga, 3, none⟩ = some (.int .u64 (wd O1 3)) ∧ w'.cell? ⟨gb, 0, none⟩ = some (.int .u64 (wd O2 0)) ∧ w'.cell? ⟨gb, 1, none⟩ = some (.int .u64 (wd O2 1)) ∧ w'.cell? ⟨gb, 2, none⟩ = some (.int .u64 (wd O2 2)) ∧ w'.cell? ⟨gb, 3, none⟩ = some (.int .u64 (wd O2 3)) ∧ w'.cell? ⟨gl, 0, none⟩ = some (.int .u64 (wd (orP O1 O2) 0)) ∧ w'.cell? ⟨gl, 1, none⟩ = some (.int .u64 (wd (orP O1 O2) 1)) ∧ w'.cell? ⟨gl, 2, none⟩ = some (.int .u64 (wd (orP O1 O2) 2)) ∧ w'.cell? ⟨gl, 3, none⟩ = some (.int .u64 (wd (orP O1 O2) 3))) (exact MK.out _ (by repeat (first | exact Below.refl _ _ | (with_reducible assumption) | refine bw_alloc ?_ _ | refine bw_drew ?_))) (first
          | (go_at_call 16; (with_reducible refine (Calls.upV (V := wr) (by repeat (first | exact Below.refl _ _ | (with_reducible assumption) | refine bw_alloc ?_ _ | refine bw_drew ?_)) (M1.out _ (by repeat (first | exact Below.refl _ _ | (with_reducible assumption) | refine bw_alloc ?_ _ | refine bw_drew ?_)))).mono ?_); rintro e wx ⟨rfl, b0, bx⟩; clear b0))
        all_goals
          go_wp2_with fail
          go_meet
          exact ⟨rfl, rfl, by assumption⟩
      case rest =>
        obtain ⟨rfl, rfl, H1⟩ := hcut
        have bb := H1.out
        go_upto_region 8 with fail
        go_cut [13, 14] from 43 to 52 (fun u v wx => u = .int .i64 (y : Int) ∧ v = .int .i64 (y' : Int) ∧ Hid (Below wr.heap.size wr wx))
        case first =>
          go_region_held3 (fun w' => w'.cell? ⟨w5.heap.size, 2, none⟩ = some (.slice (some ⟨g5, o5, none⟩) N c5) ∧ w'.cell? ⟨g5, o5 + i * 7, none⟩ = some (.int .i64 T.id) ∧ w'.cell? ⟨g5, o5 + i * 7 + 1, none⟩ = some (.int .i64 T.c) ∧ w'.cell? ⟨g5, o5 + i * 7 + 2, none⟩ = some (.int .i64 T.d) ∧ w'.cell? ⟨g5, o5 + i * 7 + 3, none⟩ = some (.int .i64 T.t) ∧ w'.cell? ⟨g5, o5 + i * 7 + 4, none⟩ = some (.int .i64 T.p) ∧ w'.cell? ⟨g5, o5 + i * 7 + 5, none⟩ = some (.slice T.a1 T.ch.length T.c1) ∧ w'.cell? ⟨g5, o5 + i * 7 + 6, none⟩ = some (.slice T.a2 T.us.length T.c2) ∧ w'.cell? ⟨ga, 0, none⟩ = some (.int .u64 (wd O1 0)) ∧ w'.cell? ⟨ga, 1, none⟩ = some (.int .u64 (wd O1 1)) ∧ w'.cell? ⟨ga, 2, none⟩ = some (.int .u64 (wd O1 2)) ∧ w'.cell? ⟨ga, 3, none⟩ = some (.int .u64 (wd O1 3)) ∧ w'.cell? ⟨gb, 0, none⟩ = some (.int .u64 (wd O2 0)) ∧ w'.cell? ⟨gb, 1, none⟩ = some (.int .u64 (wd O2 1)) ∧ w'.cell? ⟨gb, 2, none⟩ = some (.int .u64 (wd O2 2)) ∧ w'.cell? ⟨gb, 3, none⟩ = some (.int .u64 (wd O2 3)) ∧ w'.cell? ⟨gl, 0, none⟩ = some (.int .u64 (wd (orP O1 O2) 0)) ∧ w'.cell? ⟨gl, 1, none⟩ = some (.int .u64 (wd (orP O1 O2) 1)) ∧ w'.cell? ⟨gl, 2, none⟩ = some (.int .u64 (wd (orP O1 O2) 2)) ∧ w'.cell? ⟨gl, 3, none⟩ = some (.int .u64 (wd (orP O1 O2) 3))) (exact MK.out _ (by repeat (first | exact Below.refl _ _ | (with_reducible assumption) | refine bw_alloc ?_ _ | refine bw_drew ?_))) (first
            | (go_at_call 16; (with_reducible refine (Calls.upV (V := wr) (by repeat (first | exact Below.refl _ _ | (with_reducible assumption) | refine bw_alloc ?_ _ | refine bw_drew ?_)) (M2.out _ (by repeat (first | exact Below.refl _ _ | (with_reducible assumption) | refine bw_alloc ?_ _ | refine bw_drew ?_)))).mono ?_); rintro e wx ⟨rfl, b0, bx⟩; clear b0))
          all_goals
            go_wp2_with fail
            go_meet
            exact ⟨rfl, rfl, by assumption⟩
        case rest =>
          obtain ⟨rfl, rfl, H2⟩ := hcut
          have bb := H2.out
          go_upto_region 9 with fail
          go_cut [15, 16] from 53 to 62 (fun u v wx => u = .int .i64 (z : Int) ∧ v = .int .i64 (z' : Int) ∧ Hid (Below wr.heap.size wr wx))
          case first =>
            go_region_held3 (fun w' => w'.cell? ⟨w5.heap.size, 2, none⟩ = some (.slice (some ⟨g5, o5, none⟩) N c5) ∧ w'.cell? ⟨g5, o5 + i * 7, none⟩ = some (.int .i64 T.id) ∧ w'.cell? ⟨g5, o5 + i * 7 + 1, none⟩ = some (.int .i64 T.c) ∧ w'.cell? ⟨g5, o5 + i * 7 + 2, none⟩ = some (.int .i64 T.d) ∧ w'.cell? ⟨g5, o5 + i * 7 + 3, none⟩ = some (.int .i64 T.t) ∧ w'.cell? ⟨g5, o5 + i * 7 + 4, none⟩ = some (.int .i64 T.p) ∧ w'.cell? ⟨g5, o5 + i * 7 + 5, none⟩ = some (.slice T.a1 T.ch.length T.c1) ∧ w'.cell? ⟨g5, o5 + i * 7 + 6, none⟩ = some (.slice T.a2 T.us.length T.c2) ∧ w'.cell? ⟨ga, 0, none⟩ = some (.int .u64 (wd O1 0)) ∧ w'.cell? ⟨ga, 1, none⟩ = some (.int .u64 (wd O1 1)) ∧ w'.cell? ⟨ga, 2, none⟩ = some (.int .u64 (wd O1 2)) ∧ w'.cell? ⟨ga, 3, none⟩ = some (.int .u64 (wd O1 3)) ∧ w'.cell? ⟨gb, 0, none⟩ = some (.int .u64 (wd O2 0)) ∧ w'.cell? ⟨gb, 1, none⟩ = some (.int .u64 (wd O2 1)) ∧ w'.cell? ⟨gb, 2, none⟩ = some (.int .u64 (wd O2 2)) ∧ w'.cell? ⟨gb, 3, none⟩ = some (.int .u64 (wd O2 3)) ∧ w'.cell? ⟨gl, 0, none⟩ = some (.int .u64 (wd (orP O1 O2) 0)) ∧ w'.cell? ⟨gl, 1, none⟩ = some (.int .u64 (wd (orP O1 O2) 1)) ∧ w'.cell? ⟨gl, 2, none⟩ = some (.int .u64 (wd (orP O1 O2) 2)) ∧ w'.cell? ⟨gl, 3, none⟩ = some (.int .u64 (wd (orP O1 O2) 3))) (exact MK.out _ (by repeat (first | exact Below.refl _ _ | (with_reducible assumption) | refine bw_alloc ?_ _ | refine bw_drew ?_))) (first
              | (go_at_call 16; (with_reducible refine (Calls.upV (V := wr) (by repeat (first | exact Below.refl _ _ | (with_reducible assumption) | refine bw_alloc ?_ _ | refine bw_drew ?_)) (M3.out _ (by repeat (first | exact Below.refl _ _ | (with_reducible assumption) | refine bw_alloc ?_ _ | refine bw_drew ?_)))).mono ?_); rintro e wx ⟨rfl, b0, bx⟩; clear b0))
            all_goals
              go_wp2_with fail
              go_meet
              exact ⟨rfl, rfl, by assumption⟩
          case rest =>
            obtain ⟨rfl, rfl, H3⟩ := hcut
            have bb := H3.out
            have f1 : ¬ y < x := by omega
            have f2 : ¬ y < z := by omega
            have f3 : ¬ xz < y := by have := HXZ.out; omega
            have f4 : decide (y < x) = false := decide_eq_false f1
            have f5 : decide (y < z) = false := decide_eq_false f2
            have f6 : decide (xz < y) = false := decide_eq_false f3
            clear n1 n2 n3 n4 n5 M1 M2 M3
            obtain ⟨s2, t0, t1, t2, t3, t4, t5, t6, _⟩ := MK.out _ H3.out
            go_upto_region 13 with (go_at_call 14; (with_reducible refine (UC.out _ H3.out).mono ?_); rintro e x4 ⟨rfl, b4⟩; have HX4 := Lib.hid (below_up H3.out b4); clear b4)
            obtain ⟨gw, hgw⟩ : ∃ gw, x4.heap.size = gw := ⟨_, rfl⟩
            refine gen_world (fun v => Below wr.heap.size wr v ∧ v.heap[x4.heap.size]? = some (.cells #[.int .u64 (Ow 0), .int .u64 (Ow 1), .int .u64 (Ow 2), .int .u64 (Ow 3)] ST4 (0, 0))) ⟨bw_alloc HX4.out _, heap_alloc_new x4 _⟩ ?_
            intro V4 ⟨hv4, ho4⟩
            rw [hgw] at ho4 ⊢
            have HV4 := Lib.hid hv4
            have HW4 := Lib.hid ho4
            clear hv4 ho4 hgw HX4 s2 t0 t1 t2 t3 t4 t5 t6
            obtain ⟨s2, t0, t1, t2, t3, t4, t5, t6, _⟩ := MK.out _ HV4.out
            go_upto_region 14 with (go_at_call 22; (with_reducible refine (A0.out _ HV4.out).mono ?_); rintro e x5 ⟨rfl, b5⟩; have HX5 := Lib.hid b5; clear b5)
            obtain ⟨gh, hgh⟩ : ∃ gh, x5.heap.size = gh := ⟨_, rfl⟩
            refine gen_world (fun v => Below V4.heap.size V4 v ∧ v.heap[x5.heap.size]? = some (.cells #[.int .u64 (Wh 0), .int .u64 (Wh 1), .int .u64 (Wh 2), .int .u64 (Wh 3)] ST4 (0, 0))) ⟨bw_alloc HX5.out _, heap_alloc_new x5 _⟩ ?_
            intro V5 ⟨hv5, ho5⟩
            rw [hgh] at ho5 ⊢
            have HV5 := Lib.hid (below_up HV4.out hv5)
            have HW5b := Lib.hid (kept_obj hv5 HW4.out)
            have HH5 := Lib.hid ho5
            clear hv5 ho5 hgh HX5 s2 t0 t1 t2 t3 t4 t5 t6
            have MK2 : Hid (∀ w', Below V5.heap.size V5 w' → (w'.cell? ⟨w5.heap.size, 2, none⟩ = some (.slice (some ⟨g5, o5, none⟩) N c5) ∧ w'.cell? ⟨g5, o5 + i * 7, none⟩ = some (.int .i64 T.id) ∧ w'.cell? ⟨gw, 0, none⟩ = some (.int .u64 (Ow 0)) ∧ w'.cell? ⟨gw, 1, none⟩ = some (.int .u64 (Ow 1)) ∧ w'.cell? ⟨gw, 2, none⟩ = some (.int .u64 (Ow 2)) ∧ w'.cell? ⟨gw, 3, none⟩ = some (.int .u64 (Ow 3)) ∧ w'.cell? ⟨gh, 0, none⟩ = some (.int .u64 (Wh 0)) ∧ w'.cell? ⟨gh, 1, none⟩ = some (.int .u64 (Wh 1)) ∧ w'.cell? ⟨gh, 2, none⟩ = some (.int .u64 (Wh 2)) ∧ w'.cell? ⟨gh, 3, none⟩ = some (.int .u64 (Wh 3)))) := fun w' hb => by
              obtain ⟨s2, t0, _⟩ := MK.out _ (below_up HV5.out hb)
              have x1 := kept_obj hb HW5b.out
              have x2 := kept_obj hb HH5.out
              exact ⟨s2, t0, by rw [blk_cell x1]; rfl, by rw [blk_cell x1]; rfl, by rw [blk_cell x1]; rfl, by rw [blk_cell x1]; rfl, by rw [blk_cell x2]; rfl, by rw [blk_cell x2]; rfl, by rw [blk_cell x2]; rfl, by rw [blk_cell x2]; rfl⟩
            have bc := Below.refl V5.heap.size V5
            go_cut [100] from 87 to 100 (fun u wx => u = .bool false ∧ Hid (Below V5.heap.size V5 wx))
            case first =>
              go_region_held3 (fun w' => w'.cell? ⟨w5.heap.size, 2, none⟩ = some (.slice (some ⟨g5, o5, none⟩) N c5) ∧ w'.cell? ⟨g5, o5 + i * 7, none⟩ = some (.int .i64 T.id) ∧ w'.cell? ⟨gw, 0, none⟩ = some (.int .u64 (Ow 0)) ∧ w'.cell? ⟨gw, 1, none⟩ = some (.int .u64 (Ow 1)) ∧ w'.cell? ⟨gw, 2, none⟩ = some (.int .u64 (Ow 2)) ∧ w'.cell? ⟨gw, 3, none⟩ = some (.int .u64 (Ow 3)) ∧ w'.cell? ⟨gh, 0, none⟩ = some (.int .u64 (Wh 0)) ∧ w'.cell? ⟨gh, 1, none⟩ = some (.int .u64 (Wh 1)) ∧ w'.cell? ⟨gh, 2, none⟩ = some (.int .u64 (Wh 2)) ∧ w'.cell? ⟨gh, 3, none⟩ = some (.int .u64 (Wh 3))) (exact MK2.out _ (by repeat (first | exact Below.refl _ _ | (with_reducible assumption) | refine bw_alloc ?_ _ | refine bw_drew ?_))) (first
                | (go_at_call 22; (with_reducible refine (Calls.upV (V := V5) (by repeat (first | exact Below.refl _ _ | (with_reducible assumption) | refine bw_alloc ?_ _ | refine bw_drew ?_)) (A1.out _ (below_up HV5.out (by repeat (first | exact Below.refl _ _ | (with_reducible assumption) | refine bw_alloc ?_ _ | refine bw_drew ?_))))).mono ?_); rintro e wx ⟨rfl, b0, bx⟩; clear b0)
                | (go_at_call 13; (refine (Calls.upV (V := V5) (by repeat (first | exact Below.refl _ _ | (with_reducible assumption) | refine bw_alloc ?_ _ | refine bw_drew ?_)) (KW.out _ _ (by simp) (by simp) (by simp) (by simp) (by simp) (by simp) (by simp) (by simp) (by simp))).mono ?_); rintro e wx ⟨rfl, b0, bx⟩; clear b0))
              all_goals
                go_wp2_with fail
                go_meet
                exact ⟨rfl, by assumption⟩
            case rest =>
              obtain ⟨rfl, H6⟩ := hcut
              clear MK MK2 bc bb
              go_wp2
              go_roundw
              case rel => exact ⟨i + 1, by omega, by go_num, below_up HP.out (below_up HV5.out H6.out)⟩
              case measure => simp [intOf]; omega
    · obtain rfl : i = N := by omega
      go_wp2
      go_ret
      exact ⟨rfl, HL5.out.trans (HL6.out.trans ((HV0.out.trans (HP.out.mono HV0.out.size)).mono HL6.out.size) |>.mono HL5.out.size)⟩
end Go.Proofs.Ytcanbjgbpkofaaa

/-
  Sets that came in, opened; the rows of the statements of blocks.
-/
namespace Go.Proofs.Ytcanbjgbpkofaaa
open Go.ChangeShapes Go.WideShapes Go.ChangeAt Go.RowKit
section
variable {H : Type} {enc : TypeId × Value → H} {W : World} {base : Nat} {spare : Nat → Bool} {held : Bool}
set_option maxRecDepth 100000 in
/-- A set by value. -/
theorem open_set {r : Reach} {b0 : Nat} {v : Value} {d : DataW H} {p : List MemPlace} (hv : Value.okWide Try.prog W r b0 32 v) (h : DataW.Trod enc Try.prog W base spare held 32 v d p) :
    ∃ O : Nat → Bool, v = .agg #[.int .u64 (wd O 0), .int .u64 (wd O 1), .int .u64 (wd O 2), .int .u64 (wd O 3)] := by
  simp only [Value.okWide, Try.underlying32] at hv
  obtain ⟨cs, rfl, hsz, _⟩ := hv
  obtain ⟨fuel, hf⟩ := h
  have k2 : Try.prog.cellsOf 32 = 4 := by kernel_rfl
  rcases cs with ⟨cs⟩
  have hl4 : cs.length = 4 := by rw [k2] at hsz; exact hsz
  match cs, hl4 with
  | [v0, v1, v2, v3], _ =>
    obtain ⟨x, ⟨rfl, rfl, rfl, rfl⟩, hx⟩ := open_bits (v0 := v0) (v1 := v1) (v2 := v2) (v3 := v3) hf
    obtain ⟨O, h0, h1, h2, h3⟩ := words_set x hx
    exact ⟨O, by rw [h0, h1, h2, h3]⟩
end
theorem row_parts (W : World) (S R : Int) (a : Option Addr) (n cap : Nat) (L : List NV) (hn : Nums W a n cap L) (x : Int) (_ : (Lit.int .i64 x).wf = true) :
    Calls Try.prog 3 #[.agg #[.int .i64 S, .int .i64 R, .slice a n cap], .int .i64 x] W fun e w' => e = .returned (.bool true) ∧ Below W.heap.size W w' := law_parts W S R a n cap L hn x
theorem row_steps (W : World) (S R : Int) (a : Option Addr) (n cap : Nat) (L : List NV) (hn : Nums W a n cap L) :
    Calls Try.prog 7 #[.agg #[.int .i64 S, .int .i64 R, .slice a n cap]] W fun e w' => e = .returned (.bool true) ∧ Below W.heap.size W w' := law_steps W S R a n cap L hn
theorem row_most (W : World) (S R : Int) (a : Option Addr) (n cap : Nat) (L : List NV) (hn : Nums W a n cap L) (O : Nat → Bool) :
    Calls Try.prog 4 #[.agg #[.int .i64 S, .int .i64 R, .slice a n cap], .agg #[.int .u64 (wd O 0), .int .u64 (wd O 1), .int .u64 (wd O 2), .int .u64 (wd O 3)]] W fun e w' => e = .returned (.bool true) ∧ Below W.heap.size W w' := law_most W S R a n cap L hn O
theorem row_grow (W : World) (S R : Int) (a : Option Addr) (n cap : Nat) (L : List NV) (hn : Nums W a n cap L) (O1 O2 : Nat → Bool) :
    Calls Try.prog 6 #[.agg #[.int .i64 S, .int .i64 R, .slice a n cap], .agg #[.int .u64 (wd O1 0), .int .u64 (wd O1 1), .int .u64 (wd O1 2), .int .u64 (wd O1 3)], .agg #[.int .u64 (wd O2 0), .int .u64 (wd O2 1), .int .u64 (wd O2 2), .int .u64 (wd O2 3)]] W fun e w' => e = .returned (.bool true) ∧ Below W.heap.size W w' := law_grow W S R a n cap L hn O1 O2
end Go.Proofs.Ytcanbjgbpkofaaa
