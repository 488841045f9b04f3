/-
  The walk over the statement that tasks are told by priority.
-/
import Derived.Test.YtknjldmpcokgfaaKOrd
import Derived.Test.YtknjldmpcokgfaaKW17
import Derived.Test.YtknjldmpcokgfaaKW12
namespace Go.Proofs.Ytknjldmpcokgfaa
open Go.RowKit Go.Maps Go.Shelf

/-- A task stored in a box. -/
abbrev set7 (w : World) (b : Nat) (x : TV) : World := (((((((w.setCell ⟨b, 0, none⟩ (.int .i64 x.id)).setCell ⟨b, 1, none⟩ (.int .i64 x.c)).setCell ⟨b, 2, none⟩ (.int .i64 x.d)).setCell ⟨b, 3, none⟩ (.int .i64 x.t)).setCell ⟨b, 4, none⟩ (.int .i64 x.p)).setCell ⟨b, 5, none⟩ (.slice x.a1 x.ch.length x.c1)).setCell ⟨b, 6, none⟩ (.slice x.a2 x.us.length x.c2))
theorem set7_box {w : World} {b : Nat} (hb : w.heap[b]? = some (.cells #[.int .i64 0, .int .i64 0, .int .i64 0, .int .i64 0, .int .i64 0, .slice none 0 0, .slice none 0 0] TT (0, 0))) (x : TV) : AtB (set7 w b x) b x := by
  have h := blk_set (blk_set (blk_set (blk_set (blk_set (blk_set (blk_set hb (o := 0) (.int .i64 x.id)) (o := 1) (.int .i64 x.c)) (o := 2) (.int .i64 x.d)) (o := 3) (.int .i64 x.t)) (o := 4) (.int .i64 x.p)) (o := 5) (.slice x.a1 x.ch.length x.c1)) (o := 6) (.slice x.a2 x.us.length x.c2)
  refine ⟨?_, ?_, ?_, ?_, ?_, ?_, ?_⟩ <;> (rw [blk_cell h]; simp)
theorem set7_all {W0 w : World} {b : Nat} (hb : w.heap[b]? = some (.cells #[.int .i64 0, .int .i64 0, .int .i64 0, .int .i64 0, .int .i64 0, .slice none 0 0, .slice none 0 0] TT (0, 0))) {x : TV} (hx : x.ok w) (hi : IsI w x.a1 x.ch ∧ IsI w x.a2 x.us) (hl : Below W0.heap.size W0 w) (hB : W0.heap.size ≤ b) : x.ok (set7 w b x) ∧ AtB (set7 w b x) b x ∧ Below W0.heap.size W0 (set7 w b x) :=
  ⟨hx.kept hi (keepI_set7 hb _ _ _ _ _ _ _), set7_box hb x, below_set7 hl hB _ _ _ _ _ _ _⟩

set_option maxRecDepth 100000 in
set_option maxHeartbeats 3000000 in
theorem law_order (W : World) (S R : Int) (a : Option Addr) (n cap : Nat) (L : List NV) (hn : Nums W a n cap L) :
    Calls Try.prog 6 #[.agg #[.int .i64 S, .int .i64 R, .slice a n cap]] W fun e w' => e = .returned (.bool true) ∧ Below W.heap.size W w' := by
  have HN := Lib.hid hn
  have hz1 := zeroTask
  have hz2 := zeroSys
  clear hn
  go_enter Try.func6, Try.ntmps6
  go_upto_region 1 with fail
  refine gen_world (fun v => Below W.heap.size W v ∧ v.cell? ⟨W.heap.size, 0, none⟩ = some (.int .i64 S) ∧ v.cell? ⟨W.heap.size, 1, none⟩ = some (.int .i64 R) ∧ v.cell? ⟨W.heap.size, 2, none⟩ = some (.slice a n cap)) ⟨(by repeat (first | exact Below.refl _ _ | (with_reducible assumption) | refine bw_alloc ?_ _ | refine bw_drew ?_)), by rw [World.cell?_alloc_new]; rfl, by rw [World.cell?_alloc_new]; rfl, by rw [World.cell?_alloc_new]; rfl⟩ ?_
  intro W1 ⟨hl1, e0, e1, e2⟩
  have HL1 := Lib.hid hl1
  clear hl1
  go_upto_region 2 with (go_at_call 7; (with_reducible refine (awake_any _).mono ?_); rintro e w1 ⟨rfl, b1⟩; have HL2 := Lib.hid (below_up HL1.out b1); have d0 := kept_cell b1 e0; have d1 := kept_cell b1 e1; have d2 := kept_cell b1 e2; clear b1 e0 e1 e2)
  have C := Lib.hid (made5_any S R (HN.out.below HL2.out))
  go_upto_region 3 with (go_at_call 15; (with_reducible refine (C.out).mono ?_); rintro e w5 ⟨s, r, a5, N, c5, T, rfl, ho5, hok5, hi5, hm5, b5⟩; have HT5 := Lib.hid (ho5.tasks hok5); have HM := Lib.hid hm5; have HL5 := Lib.hid (below_up HL2.out b5); clear ho5 hok5 hi5 hm5 b5)
  have hN1 : 0 < N := by have := HM.out.pos; have := HT5.out.len; omega
  have hN6 : N ≤ 6 := by have := HM.out.six; have := HT5.out.len; omega
  have hS : (w5.alloc (.cells #[.int .i64 s, .int .i64 r, .slice a5 N c5] 28)).heap[w5.heap.size]? = some (.cells #[.int .i64 s, .int .i64 r, .slice a5 N c5] 28 (0, 0)) := heap_alloc_new w5 _
  refine gen_world (fun v => Below w5.heap.size w5 v ∧ v.heap[w5.heap.size]? = some (.cells #[.int .i64 s, .int .i64 r, .slice a5 N c5] 28 (0, 0))) ⟨(by repeat (first | exact Below.refl _ _ | (with_reducible assumption) | refine bw_alloc ?_ _ | refine bw_drew ?_)), hS⟩ ?_
  intro W6 ⟨hl6, hs6⟩
  have HL6 := Lib.hid hl6
  have HS6 := Lib.hid hs6
  have e2 : W6.cell? ⟨w5.heap.size, 2, none⟩ = some (.slice a5 N c5) := by rw [blk_cell hs6]; rfl
  have e0 : W6.cell? ⟨w5.heap.size, 0, none⟩ = some (.int .i64 s) := by rw [blk_cell hs6]; rfl
  have e3 : W6.cell? ⟨w5.heap.size, 1, none⟩ = some (.int .i64 r) := by rw [blk_cell hs6]; rfl
  have HSM := Lib.hid (made_small HM.out)
  have CP := Lib.hid (prio_sys s r (HT5.out.below hl6) hN1 (by omega) (made_small HM.out))
  clear hs6 hl6 hS C d0 d1 d2 HL1 HL2
  go_upto_region 4 with (go_at_call 19; (with_reducible refine (CP.out).mono ?_); rintro e w7 ⟨a7, n7, c7, M, rfl, ho7, hok7, hi7, hr7, b7⟩; have HT7 := Lib.hid (ho7.tasks hok7); have HR := Lib.hid hr7; have HL7 := Lib.hid (below_up HL6.out b7); have HS7 := Lib.hid (kept_obj b7 HS6.out); clear ho7 hok7 hi7 hr7 b7)
  obtain rfl : n7 = N := by
    have := HR.out.1.length_eq
    rw [List.length_map, List.length_map, HT7.out.len, HT5.out.len] at this
    exact this
  clear CP HL6 HS6 e0 e2 e3
  have HT57 := Lib.hid (HT5.out.below HL7.out)
  have HLW := Lib.hid (below_up HL5.out HL7.out)
  have CF : Hid (∀ (i : Nat) (y0 : TV), M[i]? = some y0 → ∀ v, Below w7.heap.size w7 v → Calls Try.prog 21 #[.agg #[.int .i64 s, .int .i64 r, .slice a5 n7 c5], .int .i64 y0.id] v fun e w' => ∃ y : TV, e = .returned (.tuple #[.agg #[.int .i64 y.id, .int .i64 y.c, .int .i64 y.d, .int .i64 y.t, .int .i64 y.p, .slice y.a1 y.ch.length y.c1, .slice y.a2 y.us.length y.c2], .bool true]) ∧ y.ok w' ∧ (IsI w' y.a1 y.ch ∧ IsI w' y.a2 y.us) ∧ y.tk = y0.tk ∧ Below v.heap.size v w') := by
    intro i y0 hy v hb
    refine (find_sys s r y0.id (HT57.out.below hb) hN1 HSM.out).mono ?_
    rintro e w' ⟨y, b, rfl, hyo, hyi, ht, hb'⟩
    have hf := made_find HM.out (t := y0.tk) (HR.out.1.mem_iff.1 (List.mem_map.2 ⟨y0, List.mem_of_getElem? hy, rfl⟩))
    rcases ht with ⟨rfl, q⟩ | ⟨rfl, q, _⟩
    · have e9 : findTk (T.map TV.tk) y0.id = some y0.tk := hf
      rw [e9] at q
      exact ⟨y, rfl, hyo, hyi, (Option.some.inj q).symm, hb'⟩
    · have e9 : findTk (T.map TV.tk) y0.id = some y0.tk := hf
      rw [e9] at q; cases q
  have CH : Hid (∀ (i : Nat) (y0 : TV), M[i]? = some y0 → ∀ v, Below w7.heap.size w7 v → Calls Try.prog 23 #[.agg #[.int .i64 s, .int .i64 r, .slice a5 n7 c5], .int .i64 y0.id] v fun e w' => ∃ (a' : Option Addr) (n' c' : Nat) (H : List TV), e = .returned (.slice a' n' c') ∧ Tasks w' a' n' c' H ∧ H.map TV.tk = (M.take i).map TV.tk ∧ Below v.heap.size v w') := by
    intro i y0 hy v hb
    refine (higher_sys s r y0.id (HT57.out.below hb) hN1 (by omega) HSM.out).mono ?_
    rintro e w' ⟨a', n', c', H, rfl, ht, hh, hb'⟩
    refine ⟨a', n', c', H, rfl, ht, ?_, hb'⟩
    rw [highs_take HM.out HR.out (i := i) (t := y0.tk) (by simp [hy]) hh, List.map_take]
  have C9 : Hid (∀ v, Below w7.heap.size w7 v → Calls Try.prog 23 #[.agg #[.int .i64 s, .int .i64 r, .slice a5 n7 c5], .int .i64 99] v fun e w' => ∃ (a' : Option Addr) (c' : Nat), e = .returned (.slice a' 0 c') ∧ Below v.heap.size v w') := by
    intro v hb
    refine (higher_sys s r 99 (HT57.out.below hb) hN1 (by omega) HSM.out).mono ?_
    rintro e w' ⟨a', n', c', H, rfl, ht, hh, hb'⟩
    rcases hh with ⟨_, q⟩ | ⟨t, K, q, _⟩
    · have hl := congrArg List.length q
      rw [List.length_map, ht.len] at hl
      simp at hl
      subst hl
      exact ⟨a', c', rfl, hb'⟩
    · rw [made_nobody HM.out] at q; cases q
  have hst0 := ranks_strict HR.out (made_dist HM.out)
  rw [List.pairwise_map] at hst0
  have HST : Hid (∀ (i j : Nat) (x y : TV), i < j → M[i]? = some x → M[j]? = some y → x.p < y.p) := fun i j x y hij hx hy => by
    obtain ⟨hi, rfl⟩ := List.getElem?_eq_some_iff.1 hx
    obtain ⟨hj, rfl⟩ := List.getElem?_eq_some_iff.1 hy
    exact List.pairwise_iff_getElem.1 hst0 i j hi hj hij
  have e2 : w7.cell? ⟨w5.heap.size, 2, none⟩ = some (.slice a5 n7 c5) := by rw [blk_cell HS7.out]; rfl
  have d1 : ((n7 : Int) == (n7 : Int)) = true := by rw [beq_iff_eq]
  have d2 : ((n7 : Int) != (n7 : Int)) = false := by rw [bne, d1]; rfl
  have hlt7 : w5.heap.size < w7.heap.size := lt_of_block HS7.out
  clear HM HR HT5 HL5 HSM HL7 HT57 hst0
  generalize w5.heap.size = g at *
  go_wp2_with fail
  clear e2
  go_loopw [6] (fun u wr => ∃ i : Nat, i ≤ n7 ∧ u = .int .i64 i ∧ Hid (Below w7.heap.size w7 wr)) (fun u _ => (n7 - intOf u).toNat)
  case atStart => exact ⟨0, by omega, rfl, Below.refl _ _⟩
  case round =>
    obtain ⟨i, hi, rfl, HP⟩ := hrel
    have hgw : g < wr.heap.size := Nat.lt_of_lt_of_le hlt7 HP.out.size
    by_cases hlt : i < n7
    · obtain ⟨y, hy⟩ := nth_of HT7.out.len hlt
      have CF1 := Lib.hid (CF.out i y hy)
      have CH1 := Lib.hid (CH.out i y hy)
      have HY := Lib.hid (HT7.out.ok.at_ hy)
      obtain ⟨go, o, rfl, hat⟩ := HT7.out.view.at_ hy
      have HAT := Lib.hid hat
      obtain ⟨c0, c1, c2, c3, c4, c5', c6⟩ := hat.below HP.out
      have hk1 : (i : Int) < (n7 : Int) := by omega
      have hk0 : (0 : Int) ≤ (i : Int) := by omega
      have hic : i ≤ c7 := by have := HT7.out.le; omega
      have hic2 : (i : Int) ≤ (c7 : Int) := by omega
      have HTI := Lib.hid (HT7.out.take (show i ≤ n7 by omega))
      go_upto_region 9 with fail
      go_cut [44] from 29 to 44 (fun u wx => u = .bool false ∧ Hid (Below w7.heap.size w7 wx))
      case first =>
        by_cases h0 : i = 0
        · have f1 : ¬ (0 : Int) < (i : Int) := by omega
          have f3 : decide (0 < i) = false := decide_eq_false (by omega)
          clear h0
          go_quiet (fail)
          go_wp2_with fail
          go_meet
          exact ⟨by simp, below_same HP.out rfl rfl rfl rfl⟩
        · obtain ⟨z, hz⟩ := nth_of HT7.out.len (show i - 1 < n7 by omega)
          obtain ⟨go', o', e', ⟨z0, z1, z2, z3, z4, z5, z6⟩⟩ := (HT7.out.view.below HP.out).at_ hz
          cases e'
          have hzp := HST.out (i - 1) i z y (by omega) hz hy
          have f2 : (0 : Int) < (i : Int) := by omega
          have f3 : decide (0 < i) = true := decide_eq_true (by omega)
          have hwi : IntKind.i64.wrap ((i : Int) - 1) = ((i - 1 : Nat) : Int) := (IntWalk.i64_in _ (by omega)).trans (by omega)
          have hi1 : ((i - 1 : Nat) : Int) < (n7 : Int) := by omega
          have hi2 : (0 : Int) ≤ ((i - 1 : Nat) : Int) := by omega
          have d6 : decide (y.p ≤ z.p) = false := decide_eq_false (by omega)
          clear hz h0 hzp
          generalize i - 1 = i1 at *
          go_quiet (fail)
          go_wp2_with fail
          go_meet
          exact ⟨rfl, below_same HP.out rfl rfl rfl rfl⟩
      case rest =>
        obtain ⟨rfl, HP9⟩ := hcut
        clear c0 c1 c2 c3 c4 c5' c6 HP hgw
        have hb9 := kept_obj HP9.out HS7.out
        have b0 : wc.cell? ⟨g, 0, none⟩ = some (.int .i64 s) := by rw [blk_cell hb9]; rfl
        have b1 : wc.cell? ⟨g, 1, none⟩ = some (.int .i64 r) := by rw [blk_cell hb9]; rfl
        have b2 : wc.cell? ⟨g, 2, none⟩ = some (.slice a5 n7 c5) := by rw [blk_cell hb9]; rfl
        have hgw : g < wc.heap.size := lt_of_block hb9
        have c0 := (HAT.out.below HP9.out).c0
        have hgo : go < wc.heap.size := block_of_cell c0
        clear hb9
        go_upto_region 11 with fail
        go_cut [7, 8] from 45 to 54 (fun u v wx => v = .bool true ∧ ∃ (gx : Nat) (x : TV), u = .pointer (some ⟨gx, 0, none⟩) ∧ Hid (x.tk = y.tk) ∧ Hid (x.ok wx) ∧ Hid (AtB wx gx x) ∧ Hid (Below w7.heap.size w7 wx))
        case first =>
          go_region_law (go_simp; (with_reducible refine (CF1.out _ (below_up HP9.out (by repeat (first | exact Below.refl _ _ | (with_reducible assumption) | refine bw_alloc ?_ _ | refine bw_drew ?_)))).mono ?_); rintro e w8 ⟨x, rfl, hx, hxi, hxt, b8⟩; have HX := Lib.hid hx; have HXI := Lib.hid hxi; (try (have hq := kept_obj b8 (heap_alloc_new _ _); have FB := Lib.hid (set7_all hq hx hxi (below_up HP9.out (below_up ((by repeat (first | exact Below.refl _ _ | (with_reducible assumption) | refine bw_alloc ?_ _ | refine bw_drew ?_)) : Below wc.heap.size wc _) b8)) HP9.out.size); have q0 := (blk_cell hq 0).trans rfl; have q1 := (blk_cell hq 1).trans rfl; have q2 := (blk_cell hq 2).trans rfl; have q3 := (blk_cell hq 3).trans rfl; have q4 := (blk_cell hq 4).trans rfl; have q5 := (blk_cell hq 5).trans rfl; have q6 := (blk_cell hq 6).trans rfl; have fq0 := blk_free hq 0; have fq1 := blk_free hq 1; have fq2 := blk_free hq 2; have fq3 := blk_free hq 3; have fq4 := blk_free hq 4; have fq5 := blk_free hq 5; have fq6 := blk_free hq 6; clear hq)); have HXT := Lib.hid hxt; have H8 := Lib.hid (below_up HP9.out (below_up ((by repeat (first | exact Below.refl _ _ | (with_reducible assumption) | refine bw_alloc ?_ _ | refine bw_drew ?_)) : Below wc.heap.size wc _) b8)); clear hx hxi hxt b8)
          all_goals
            go_wp2_with fail
            go_meet
            refine ⟨rfl, _, x, rfl, HXT, Lib.hid ?_, Lib.hid ?_, Lib.hid ?_⟩
            · first | (with_reducible exact FB.out.1) | (with_reducible exact HX.out.below (by repeat (first | exact Below.refl _ _ | (with_reducible assumption) | refine bw_alloc ?_ _ | refine bw_drew ?_)))
            · first | (with_reducible exact FB.out.2.1) | (with_reducible exact atB_new w8 x _)
            · first | (with_reducible exact FB.out.2.2) | (with_reducible exact below_up H8.out (by repeat (first | exact Below.refl _ _ | (with_reducible assumption) | refine bw_alloc ?_ _ | refine bw_drew ?_)))
        case rest =>
          clear b0 b1 b2 hgw c0 hgo HP9 CF1
          obtain ⟨rfl, gx, x, rfl, HXT, HX, HXB, HP11⟩ := hcut
          have hb9 := kept_obj HP11.out HS7.out
          have b0 : wc.cell? ⟨g, 0, none⟩ = some (.int .i64 s) := by rw [blk_cell hb9]; rfl
          have b1 : wc.cell? ⟨g, 1, none⟩ = some (.int .i64 r) := by rw [blk_cell hb9]; rfl
          have b2 : wc.cell? ⟨g, 2, none⟩ = some (.slice a5 n7 c5) := by rw [blk_cell hb9]; rfl
          have c0 := (HAT.out.below HP11.out).c0
          clear hb9
          go_upto_region 12 with fail
          go_cut [9] from 55 to 61 (fun u wx => ∃ (a' : Option Addr) (n' c' : Nat) (H : List TV), u = .slice a' n' c' ∧ Hid (Tasks wx a' n' c' H) ∧ Hid (H.map TV.tk = (M.take i).map TV.tk) ∧ Hid (x.ok wx) ∧ Hid (AtB wx gx x) ∧ Hid (Below w7.heap.size w7 wx))
          case first =>
            go_region_law (go_simp; (with_reducible refine (CH1.out _ (below_up HP11.out (by repeat (first | exact Below.refl _ _ | (with_reducible assumption) | refine bw_alloc ?_ _ | refine bw_drew ?_)))).mono ?_); rintro e w8 ⟨a', n', c', H, rfl, ht, hh, b8⟩; have HTH := Lib.hid ht; have HHH := Lib.hid hh; have H8 := Lib.hid (below_up ((by repeat (first | exact Below.refl _ _ | (with_reducible assumption) | refine bw_alloc ?_ _ | refine bw_drew ?_)) : Below wc.heap.size wc _) b8); clear ht hh b8)
            all_goals
              go_wp2_with fail
              go_meet
              refine ⟨a', n', c', H, rfl, Lib.hid ?_, HHH, Lib.hid ?_, Lib.hid ?_, Lib.hid ?_⟩
              · exact HTH.out.below (by repeat (first | exact Below.refl _ _ | (with_reducible assumption) | refine bw_alloc ?_ _ | refine bw_drew ?_))
              · exact (HX.out.below H8.out).below (by repeat (first | exact Below.refl _ _ | (with_reducible assumption) | refine bw_alloc ?_ _ | refine bw_drew ?_))
              · exact (HXB.out.below H8.out).below (by repeat (first | exact Below.refl _ _ | (with_reducible assumption) | refine bw_alloc ?_ _ | refine bw_drew ?_))
              · exact below_up (below_up HP11.out H8.out) (by repeat (first | exact Below.refl _ _ | (with_reducible assumption) | refine bw_alloc ?_ _ | refine bw_drew ?_))
          case rest =>
            clear b0 b1 b2 c0 HP11 HX HXB CH1
            obtain ⟨a', n', c', H, rfl, HTH, HHH, HX, HXB, HP12⟩ := hcut
            have SS := Lib.hid (rsame_tasks HTH.out (HTI.out.below HP12.out))
            rw [HHH.out, decide_eq_true rfl] at SS
            go_upto_region 14 with (go_at_call 18; (with_reducible refine (SS.out).mono ?_); rintro e w9 ⟨rfl, b9⟩; have HP13 := Lib.hid (below_up HP12.out b9); have HX9 := Lib.hid (HX.out.below b9); have HXB9 := Lib.hid (HXB.out.below b9); clear b9)
            clear HP12 HX HXB SS HTH
            obtain ⟨m0, m1, m2, m3, m4, m5, m6⟩ := HXB9.out
            obtain ⟨c0, c1, c2, c3, c4, c5', c6⟩ := HAT.out.below HP13.out
            have ST : Hid (∀ v, Below w9.heap.size w9 v → _) := fun v hb => same_task x y v (HX9.out.below hb) (HY.out.below (below_up HP13.out hb))
            unfold TV.val at ST
            rw [decide_eq_true HXT.out] at ST
            go_cut [81] from 67 to 81 (fun u wx => u = .bool false ∧ Hid (Below w7.heap.size w7 wx))
            case first =>
              go_region_law (go_simp; (with_reducible refine (ST.out _ (by repeat (first | exact Below.refl _ _ | (with_reducible assumption) | refine bw_alloc ?_ _ | refine bw_drew ?_))).mono ?_); rintro e w10 ⟨rfl, b10⟩; have H10 := Lib.hid (below_up HP13.out (below_up ((by repeat (first | exact Below.refl _ _ | (with_reducible assumption) | refine bw_alloc ?_ _ | refine bw_drew ?_)) : Below w9.heap.size w9 _) b10)); clear b10)
              all_goals
                go_wp2_with fail
                go_meet
                exact ⟨rfl, Lib.hid (below_up H10.out (by repeat (first | exact Below.refl _ _ | (with_reducible assumption) | refine bw_alloc ?_ _ | refine bw_drew ?_)))⟩
            case rest =>
              clear HP13 HX9 HXB9 ST m0 m1 m2 m3 m4 m5 m6 c0 c1 c2 c3 c4 c5' c6
              obtain ⟨rfl, HP14⟩ := hcut
              go_wp2_with fail
              go_roundw
              case rel => exact ⟨i + 1, by omega, by go_num, HP14⟩
              case measure => simp [intOf]; omega
    · obtain rfl : i = n7 := by omega
      have hb9 := kept_obj HP.out HS7.out
      have b0 : wr.cell? ⟨g, 0, none⟩ = some (.int .i64 s) := by rw [blk_cell hb9]; rfl
      have b1 : wr.cell? ⟨g, 1, none⟩ = some (.int .i64 r) := by rw [blk_cell hb9]; rfl
      have b2 : wr.cell? ⟨g, 2, none⟩ = some (.slice a5 i c5) := by rw [blk_cell hb9]; rfl
      clear hb9
      go_wp2_with (go_at_call 23; (with_reducible refine (C9.out _ HP.out).mono ?_); rintro e w8 ⟨a', c', rfl, b8⟩; have H8 := Lib.hid (below_up HP.out b8); clear b8)
      go_ret
      exact ⟨rfl, below_up HLW.out H8.out⟩
end Go.Proofs.Ytknjldmpcokgfaa
