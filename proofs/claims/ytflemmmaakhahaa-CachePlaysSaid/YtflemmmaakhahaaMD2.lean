/- Texts of this claim, put together: CLaw5. -/
import Derived.Test.YtflemmmaakhahaaMD1
import Derived.Deep.RegionHeld3
import Derived.Deep.CutBlock
import Derived.Deep.CutRange
import Derived.Deep.DeepCutAuto
set_option linter.unusedVariables false
set_option linter.unusedSimpArgs false

/-
  The walk over the statement that a cache goes on, step by step, as the document says.
-/
namespace Go.Proofs.Ytflemmmaakhahaa
open Go.RowKit Go.Maps
attribute [-go_sem] run_eql_struct run_neq_struct
attribute [local go_sem] work_eql workGuard bits_neq bitsGuard

set_option maxRecDepth 100000 in
set_option maxHeartbeats 32000000 in
theorem law_plays (W : World) (S R : Int) (a : Option Addr) (n cap : Nat) (L : List NV) (hn : Nums W a n cap L) (a2 : Option Addr) (n2 cap2 : Nat) (l : Nat → OV) (hp : Steps W a2 n2 l) :
    Calls Try.prog 3 #[.agg #[.int .i64 S, .int .i64 R, .slice a n cap], .slice a2 n2 cap2] W fun e w' => e = .returned (.bool true) ∧ Below W.heap.size W w' := by
  have hsm := hp.small
  have HP := Lib.hid hp
  clear hp
  have HN := Lib.hid hn
  have hz2 := zeroSys
  clear hn
  go_enter Try.func3, Try.ntmps3
  go_upto_region 1 with fail
  refine gen_world (fun v => Below W.heap.size W v ∧ v.cell? ⟨W.heap.size, 0, none⟩ = some (.int .i64 S) ∧ v.cell? ⟨W.heap.size, 1, none⟩ = some (.int .i64 R) ∧ v.cell? ⟨W.heap.size, 2, none⟩ = some (.slice a n cap)) ⟨(by repeat (first | exact Below.refl _ _ | (with_reducible assumption) | refine bw_alloc ?_ _ | refine bw_drew ?_)), by rw [World.cell?_alloc_new]; rfl, by rw [World.cell?_alloc_new]; rfl, by rw [World.cell?_alloc_new]; rfl⟩ ?_
  intro W1 ⟨hl1, e0, e1, e2⟩
  have HL1 := Lib.hid hl1
  clear hl1
  go_upto_region 2 with (go_at_call 9; (with_reducible refine (cawake_any _).mono ?_); rintro e w1 ⟨rfl, b1⟩; have HL2 := Lib.hid (below_up HL1.out b1); have d0 := kept_cell b1 e0; have d1 := kept_cell b1 e1; have d2 := kept_cell b1 e2; clear b1 e0 e1 e2)
  have C := Lib.hid (made5_any S R (HN.out.below HL2.out))
  go_upto_region 3 with (go_at_call 10; (with_reducible refine (C.out).mono ?_); rintro e w5 ⟨s, r, a5, N, c5, M, rfl, ho5, hok5, hi5, hm5, b5⟩; have HT5 := Lib.hid (ho5.tasks hok5); have HM := Lib.hid hm5; have HL5 := Lib.hid (below_up HL2.out b5); clear ho5 hok5 hi5 hm5 b5)
  have hN1 : 0 < N := by have := HM.out.pos; have := HT5.out.len; omega
  have hN6 : N ≤ 6 := by have := HM.out.six; have := HT5.out.len; omega
  obtain ⟨ns, rfl⟩ : ∃ ns : Nat, s = (ns : Int) := ⟨s.toNat, by have := HM.out.s1; omega⟩
  have hns : ns ≤ 8 := by have := HM.out.s8; omega
  have hr0 := HM.out.r0
  have hr3 := HM.out.r3
  obtain ⟨g5, o5, rfl⟩ : ∃ g o, a5 = some ⟨g, o, none⟩ := by
    obtain ⟨t0, ht0⟩ := nth_of HT5.out.len hN1
    obtain ⟨g, o, e, _⟩ := HT5.out.view.at_ ht0
    exact ⟨g, o, e⟩
  have hS : (w5.alloc (.cells #[.int .i64 (ns : Int), .int .i64 r, .slice (some ⟨g5, o5, none⟩) N c5] 29)).heap[w5.heap.size]? = some (.cells #[.int .i64 (ns : Int), .int .i64 r, .slice (some ⟨g5, o5, none⟩) N c5] 29 (0, 0)) := heap_alloc_new w5 _
  refine gen_world (fun v => Below w5.heap.size w5 v ∧ v.heap[w5.heap.size]? = some (.cells #[.int .i64 (ns : Int), .int .i64 r, .slice (some ⟨g5, o5, none⟩) N c5] 29 (0, 0))) ⟨(by repeat (first | exact Below.refl _ _ | (with_reducible assumption) | refine bw_alloc ?_ _ | refine bw_drew ?_)), hS⟩ ?_
  intro W6 ⟨hl6, hs6⟩
  have HL6 := Lib.hid hl6
  have HS6 := Lib.hid hs6
  have z0 : W6.cell? ⟨w5.heap.size, 0, none⟩ = some (.int .i64 (ns : Int)) := by rw [blk_cell hs6]; rfl
  have CN := Lib.hid (cnew_some ns (by omega) W6)
  clear hs6 hl6 hS C d0 d1 d2 HL1 HL2
  go_upto_region 6 with (go_at_call 11; (refine (CN.out).mono ?_); rintro e w6 ⟨b, rr, rfl, hc, hb, hrr, b6⟩; have HC := Lib.hid hc; have HLB := Lib.hid (Nat.lt_of_lt_of_le (lt_of_block HS6.out) hb); have HLR := Lib.hid (Nat.lt_of_lt_of_le (lt_of_block HS6.out) hrr); have HS7 := Lib.hid (kept_obj b6 HS6.out); have HL7 := Lib.hid (below_up HL6.out b6); clear hc hb hrr b6)
  clear CN z0 HL6 HS6
  have z0 : w6.cell? ⟨w5.heap.size, 0, none⟩ = some (.int .i64 (ns : Int)) := by rw [blk_cell HS7.out]; rfl
  have RN := Lib.hid (rnew_any ns (by omega) w6)
  go_upto_region 8 with (go_at_call 12; (refine (RN.out).mono ?_); rintro e w7 ⟨b2, r2, rfl, hc2, hb2, hr2, b7⟩; have HRC := Lib.hid hc2; have HB2 := Lib.hid hb2; have HR2 := Lib.hid hr2; have B7 := Lib.hid b7; clear hc2 hb2 hr2 b7)
  refine gen_world (Play0 w5 ns r (some ⟨g5, o5, none⟩) N c5 b rr w7.heap.size b2 (fun _ => 0) (fun _ => 0) (fun _ => noWork) r2) (by
    have q0 := lt_of_block HS7.out
    have q1 := HC.out.lt
    have q2 := HRC.out.lt
    have q3 := HB2.out
    have q4 := HR2.out
    exact ⟨TickAt.new (below_up HL7.out B7.out) (kept_obj B7.out HS7.out) (HC.out.below B7.out) HLB.out HLR.out ((Below.refl _ _).alloc (Nat.le_refl _) _) (arr_new6 _ _), HRC.out.below ((Below.refl _ _).alloc (Nat.le_refl _) _), by omega, by omega, by omega, by omega, by omega, by omega, by omega, by omega⟩) ?_
  intro W8 hw8
  have H8 := Lib.hid hw8
  obtain ⟨g2, hg2⟩ : ∃ g2, w7.heap.size = g2 := ⟨_, rfl⟩
  rw [hg2] at H8
  simp only [hg2]
  clear hw8 HL7 HS7 HC HRC HB2 HR2 B7 RN z0 hg2
  obtain ⟨m, hm⟩ : ∃ m, m = min n2 80 := ⟨_, rfl⟩
  have hm1 : m ≤ n2 := by omega
  have hm8 : m ≤ 80 := by omega
  have hor : m = n2 ∨ (m = 80 ∧ 80 < n2) := by omega
  have HOR := Lib.hid hor
  clear hm hor
  go_wp2
  go_loopw [10, 11, 12, 13, 14, 15, 16, 17, 18, 19, 20, 21, 22, 23] (fun u v1 v2 v3 v4 v5 v6 v7 v8 v9 v10 v11 v12 v13 wr => ∃ (i : Nat) (Lc : Nat → Int) (ff : Nat → WK) (r2 : Nat), i ≤ m ∧ u = .int .i64 i ∧ Hid (Play0 w5 ns r (some ⟨g5, o5, none⟩) N c5 b rr g2 b2 Lc Lc ff r2 wr) ∧ Hid (∀ k, k < 6 → Inv r (100 + i) (ff k))) (fun u _ _ _ _ _ _ _ _ _ _ _ _ _ _ => (m - intOf u).toNat)
  case atStart => exact ⟨0, _, _, r2, by omega, rfl, H8, fun k hk => inv_none r _⟩
  case round =>
    obtain ⟨i, Lc, ff, r2, hi, rfl, HQ, HI⟩ := hrel
    clear H8
    by_cases hlt : i < m
    · obtain ⟨g, og', rfl, hcells⟩ := (HP.out.below (below_up HL5.out HQ.out.t.low)).at_ i (by omega)
      have hok := HP.out.wf i (by omega)
      obtain ⟨O, hO⟩ : ∃ O, l i = O := ⟨_, rfl⟩
      rw [hO] at hcells hok
      have HOK := Lib.hid hok
      have hi1 : (i : Int) < (n2 : Int) := by omega
      have hi2 : (i : Int) < 80 := by omega
      have hi3 : (0 : Int) ≤ (i : Int) := by omega
      have hi4 : IntKind.i64.wrap ((i : Int) + 1) = (i : Int) + 1 := IntWalk.i64_in _ (by omega)
      have y0 : wr.cell? ⟨g, og' + i * 15, none⟩ = some (.int .i64 O.kd) := (by have := hcells 0 _ rfl; rwa [Nat.add_zero] at this); have y1 : wr.cell? ⟨g, og' + i * 15 + 1, none⟩ = some (.int .i64 O.st) := (by have := hcells 1 _ rfl; rwa [← Nat.add_assoc] at this); have y2 : wr.cell? ⟨g, og' + i * 15 + 2, none⟩ = some (.int .i64 O.ow) := (by have := hcells 2 _ rfl; rwa [← Nat.add_assoc] at this); have y3 : wr.cell? ⟨g, og' + i * 15 + 3, none⟩ = some (.int .i64 O.nn) := (by have := hcells 3 _ rfl; rwa [← Nat.add_assoc] at this); have y4 : wr.cell? ⟨g, og' + i * 15 + 4, none⟩ = some (.bool O.raw) := (by have := hcells 4 _ rfl; rwa [← Nat.add_assoc] at this); have y5 : wr.cell? ⟨g, og' + i * 15 + 5, none⟩ = some (.bool O.fl) := (by have := hcells 5 _ rfl; rwa [← Nat.add_assoc] at this); have y6 : wr.cell? ⟨g, og' + i * 15 + 6, none⟩ = some (.int .i64 O.rl) := (by have := hcells 6 _ rfl; rwa [← Nat.add_assoc] at this); have y7 : wr.cell? ⟨g, og' + i * 15 + 7, none⟩ = some (.int .i64 O.wk.dn) := (by have := hcells 7 _ rfl; rwa [← Nat.add_assoc] at this); have y8 : wr.cell? ⟨g, og' + i * 15 + 8, none⟩ = some (.int .i64 O.wk.dm) := (by have := hcells 8 _ rfl; rwa [← Nat.add_assoc] at this); have y9 : wr.cell? ⟨g, og' + i * 15 + 9, none⟩ = some (.int .i64 O.wk.db) := (by have := hcells 9 _ rfl; rwa [← Nat.add_assoc] at this); have y10 : wr.cell? ⟨g, og' + i * 15 + 10, none⟩ = some (.int .i64 O.wk.rl) := (by have := hcells 10 _ rfl; rwa [← Nat.add_assoc] at this); have y11 : wr.cell? ⟨g, og' + i * 15 + 11, none⟩ = some (.int .u64 (wd O.wk.sn 0)) := (by have := hcells 11 _ rfl; rwa [← Nat.add_assoc] at this); have y12 : wr.cell? ⟨g, og' + i * 15 + 12, none⟩ = some (.int .u64 (wd O.wk.sn 1)) := (by have := hcells 12 _ rfl; rwa [← Nat.add_assoc] at this); have y13 : wr.cell? ⟨g, og' + i * 15 + 13, none⟩ = some (.int .u64 (wd O.wk.sn 2)) := (by have := hcells 13 _ rfl; rwa [← Nat.add_assoc] at this); have y14 : wr.cell? ⟨g, og' + i * 15 + 14, none⟩ = some (.int .u64 (wd O.wk.sn 3)) := (by have := hcells 14 _ rfl; rwa [← Nat.add_assoc] at this)
      clear hcells hok hO
      go_upto_region 12 with fail
      obtain ⟨og, hog⟩ : ∃ og, wr.heap.size = og := ⟨_, rfl⟩
      refine gen_world (PlayO w5 ns r (some ⟨g5, o5, none⟩) N c5 b rr g2 b2 og O Lc Lc ff r2) (by
        have q0 := lt_of_block HQ.out.t.sb
        have q1 := HQ.out.t.ch.lt
        have q2 := HQ.out.t.ar.lt
        have q3 := HQ.out.rc.lt
        subst hog
        exact ⟨HQ.out.below ((Below.refl _ _).alloc (Nat.le_refl _) _), heap_alloc_new wr _, q0, by omega, by omega, by omega, by omega, by omega⟩) ?_
      intro V1 hv1
      have H1 := Lib.hid hv1
      simp only [hog]
      clear hv1 hog y0 y1 y2 y3 y4 y5 y6 y7 y8 y9 y10 y11 y12 y13 y14
      obtain ⟨y0, y1, y2, y3, y4, y5, y6, y7, y8, y9, y10, y11, y12, y13, y14⟩ := H1.out.ocells
      obtain ⟨t1, s1, e1, p1, p2, p3, p4⟩ : ∃ (t : Int) (k : Nat), O.st.tmod 10 = t ∧ -10 < t ∧ t < 10 ∧ (t + 10) % 10 = (k : Int) ∧ k < 10 := by
        have a := Int.tmod_lt_of_pos O.st (show (0 : Int) < 10 by omega)
        have b := Int.lt_tmod_of_pos O.st (show (0 : Int) < 10 by omega)
        exact ⟨O.st.tmod 10, ((O.st.tmod 10 + 10) % 10).toNat, rfl, b, a, by omega, by omega⟩
      obtain ⟨t3, s3, e3, p5, p6, p7, p8⟩ : ∃ (t : Int) (k : Nat), O.ow.tmod 7 = t ∧ -7 < t ∧ t < 7 ∧ (t + 7) % 7 = (k : Int) ∧ k < 7 := by
        have a := Int.tmod_lt_of_pos O.ow (show (0 : Int) < 7 by omega)
        have b := Int.lt_tmod_of_pos O.ow (show (0 : Int) < 7 by omega)
        exact ⟨O.ow.tmod 7, ((O.ow.tmod 7 + 7) % 7).toNat, rfl, b, a, by omega, by omega⟩
      have v1 : IntKind.i64.wrap (t1 + 10) = t1 + 10 := IntWalk.i64_in _ (by omega)
      have v2 : (t1 + 10).tmod 10 = (s1 : Int) := by rw [Int.tmod_eq_emod_of_nonneg (by omega)]; exact p3
      have v3 : IntKind.i64.wrap ((s1 : Int) - 1) = (s1 : Int) - 1 := IntWalk.i64_in _ (by omega)
      have v4 : 0 ≤ t1 + 10 := by omega
      have v5 : IntKind.i64.wrap (t3 + 7) = t3 + 7 := IntWalk.i64_in _ (by omega)
      have v6 : (t3 + 7).tmod 7 = (s3 : Int) := by rw [Int.tmod_eq_emod_of_nonneg (by omega)]; exact p7
      have v7 : 0 ≤ t3 + 7 := by omega
      clear p1 p2 p3 p4 p5 p6 p7 p8
      obtain ⟨q, hq⟩ : ∃ q, O.raw = q := ⟨_, rfl⟩
      have HQR := Lib.hid hq
      rw [hq] at y4
      clear hq
      go_upto_if 61 with fail
      go_cut [12, 13] from 62 to 65 (fun u v wx => ∃ s o : Int, u = .int .i64 s ∧ v = .int .i64 o ∧ Hid (PlayO w5 ns r (some ⟨g5, o5, none⟩) N c5 b rr g2 b2 og O Lc Lc ff r2 wx))
      case first =>
        cases q
        all_goals
          go_wp2_with fail
          go_meet
          exact ⟨_, _, rfl, rfl, H1⟩
      case rest =>
        obtain ⟨s, ow, rfl, rfl, H2⟩ := hcut
        clear y0 y1 y2 y3 y4 y5 y6 y7 y8 y9 y10 y11 y12 y13 y14 e1 e3 v1 v2 v3 v4 v5 v6 v7 H1
        obtain ⟨y0, y1, y2, y3, y4, y5, y6, y7, y8, y9, y10, y11, y12, y13, y14⟩ := H2.out.ocells
        obtain ⟨kq, hkq, hkq2⟩ := and_small O.kd 7 (by omega)
        have hk3 : bits .and .i64 O.kd 7 = (kq : Int) := hkq2
        clear hkq2
        obtain ⟨qf, hqf⟩ : ∃ qf, O.fl = qf := ⟨_, rfl⟩
        rw [hqf] at y5
        clear hqf
        go_upto_block 2 with fail
        go_cut [14, 15, 16, 17, 18, 19, 20, 21, 22, 23] from 69 to 202 (fun u x1 x2 x3 x4 x5 x6 x7 x8 x9 wx => u = .bool true ∧ ∃ (Lc' : Nat → Int) (f' : Nat → WK) (r2' : Nat), Hid (PlayO w5 ns r (some ⟨g5, o5, none⟩) N c5 b rr g2 b2 og O Lc' Lc' f' r2' wx) ∧ Hid (∀ k, k < 6 → Inv r (100 + (i + 1)) (f' k)))
        case first =>
          refine switch_part hN1 hN6 hns hr0 hr3 hi2 HM HT5 HOK HI H2 (Lib.hid ?_)
          intro x14 x15 x16 x17 x18 x19 x20 x21 x22 x23 x69 x70 x71 x72 x73 x74 x75 x76 x77 x78 x79 x80 x81 x82 x83 x84 x85 x86 x87 x88 x89 x90 x91 x92 x93 x94 x95 x96 x97 x98 x99 x100 x101 x102 x103 x104 x105 x106 x107 x108 x109 x110 x111 x112 x113 x114 x115 x116 x117 x118 x119 x120 x121 x122 x123 x124 x125 x126 x127 x128 x129 x130 x131 x132 x133 x134 x135 x136 x137 x138 x139 x140 x141 x142 x143 x144 x145 x146 x147 x148 x149 x150 x151 x152 x153 x154 x155 x156 x157 x158 x159 x160 x161 x162 x163 x164 x165 x166 x167 x168 x169 x170 x171 x172 x173 x174 x175 x176 x177 x178 x179 x180 x181 x182 x183 x184 x185 x186 x187 x188 x189 x190 x191 x192 x193 x194 x195 x196 x197 x198 x199 x200 x201 x202 L4 f4 r4 w' hu H11 HI9
          subst hu
          go_wp2_with fail
          go_meet
          exact ⟨rfl, _, _, _, H11, HI9⟩
        case rest =>
          obtain ⟨rfl, L3, f3, r3, H3, HI3⟩ := hcut
          clear y0 y1 y2 y3 y4 y5 y6 y7 y8 y9 y10 y11 y12 y13 y14 H2
          refine (‹∀ (a : Act) (w : World), Code.wp _ _ _ a w → _› _ _ ?_)
          refine same_part H3 (Lib.hid ?_)
          intro x203 x204 x205 x206 x207 x208 x209 x210 x211 x212 x213 x214 x215 x216 x217 x218 x219 x220 x221 x222 x223 x224 x225 x226 x227 x228 x229 w' hu HB9
          subst hu
          go_wp2_with fail
          go_roundw
          case rel => exact ⟨i + 1, L3, f3, r3, by omega, by go_num, (H3.out.below HB9.out).p, HI3⟩
          case measure => simp [intOf]; omega
    · obtain rfl : i = m := by omega
      have q1 : ¬ ((i : Int) < (n2 : Int)) ∨ ((i : Int) < (n2 : Int) ∧ ¬ ((i : Int) < 80)) := by
        rcases HOR.out with h | ⟨h1, h2⟩
        · left; omega
        · right; omega
      rcases q1 with q1 | ⟨q1, q2⟩
      all_goals
        go_wp2
        go_ret
        exact ⟨rfl, below_up HL5.out HQ.out.t.low⟩
end Go.Proofs.Ytflemmmaakhahaa
