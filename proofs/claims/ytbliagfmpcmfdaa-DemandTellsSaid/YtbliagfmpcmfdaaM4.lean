/- Texts of this claim, put together: GP4, GP5, GS1, GSeq, GS2, GS3, GProg, GFacts, GAwk. -/
import Derived.Test.YtbliagfmpcmfdaaM3
import Derived.Laws.MakeOwn
import Derived.RangeFuncNested
import Derived.RangeFuncBound
import Derived.RangeFuncCalls
import Derived.RangeFuncLeaves
import Derived.RangeFuncBox
import Derived.Shelf.Abstract
import Derived.Shelf.RegionOpen
import Derived.OwnWalkIn
import Derived.TacticsInMore
import Derived.LoopNIn
import Derived.LoopIn
import Derived.Deep.DeepCutAuto
set_option linter.unusedVariables false
set_option linter.unusedSimpArgs false

/-
  The walk over the program's next deadline.
-/
namespace Go.Proofs.Ytbliagfmpcmfdaa
open Go.RowKit Go.Maps
attribute [-go_sem] run_min_int2 run_max_int2

theorem nextN_least {l : List Dm} {t : Int} {k : Nat} {x : Dm} {b : Int} (hx : l[k]? = some x) (h : nextN l t k = some b) : nextN l t (k + 1) = some (if nxtD x t < b then nxtD x t else b) := by
  rw [next_old hx h]; split <;> rfl

set_option maxRecDepth 100000 in
set_option maxHeartbeats 8000000 in
theorem pnext_any {w : World} {a : Option Addr} {n c : Nat} {l : List Dm} (h : Dems w a n c l) (t : Int) (ht : I64 t) : Calls Try.prog 15 #[.slice a n c, .int .i64 t] w fun e w' => e = .returned (.tuple #[.int .i64 ((nextS l t).getD 0), .bool (nextS l t).isSome]) ∧ Below w.heap.size w w' := by
  have HV := Lib.hid h.view
  have HL := Lib.hid h.len
  have hn9 := h.n9
  have hnc := h.le
  have hc9 := h.small
  have RC := Lib.hid (fun v (hb : Below w.heap.size w v) => pchk_any l n c h.len h.n9 a v (h.view.below hb))
  have TC := Lib.hid (fun v => ptime_any t v)
  obtain ⟨b1, hb1⟩ : ∃ b1, okL l = b1 := ⟨_, rfl⟩
  obtain ⟨b2, hb2⟩ : ∃ b2, timeB t = b2 := ⟨_, rfl⟩
  by_cases hbad : b1 = false ∨ (b1 = true ∧ b2 = false) ∨ (b1 = true ∧ b2 = true ∧ n = 0)
  · have HN : Hid (nextS l t = none) := by
      rcases hbad with rfl | ⟨rfl, rfl⟩ | ⟨rfl, rfl, rfl⟩
      · exact nextS_bad (.inl hb1)
      · exact nextS_bad (.inr hb2)
      · have e := HL.out
        have e2 : l = [] := List.length_eq_zero_iff.1 e
        show _ = _
        rw [nextS_is hb1 hb2, e2]; rfl
    rw [hb1] at RC
    rw [hb2] at TC
    clear hb1 hb2 h ht
    rcases hbad with rfl | ⟨rfl, rfl⟩ | ⟨rfl, rfl, rfl⟩
    all_goals
      go_enter Try.func15, Try.ntmps15
      go_wp2_with (first
        | (go_at_call 25; (with_reducible refine (RC.out _ (by repeat (first | exact Below.refl _ _ | (with_reducible assumption) | refine bw_alloc ?_ _ | refine bw_drew ?_))).mono ?_); rintro e w1 ⟨rfl, bx1⟩)
        | (go_at_call 28; (with_reducible refine (TC.out _).mono ?_); rintro e w2 ⟨rfl, rfl⟩))
      go_ret2
      exact ⟨by rw [HN.out]; rfl, bx1⟩
  obtain rfl : b1 = true := by cases b1 with | true => rfl | false => exact absurd (.inl rfl) hbad
  obtain rfl : b2 = true := by cases b2 with | true => rfl | false => exact absurd (.inr (.inl ⟨rfl, rfl⟩)) hbad
  have hn1 : 1 ≤ n := by
    cases n with
    | zero => exact absurd (.inr (.inr ⟨rfl, rfl, rfl⟩)) hbad
    | succ m => omega
  have HT := Lib.hid (timeB_iff.1 hb2)
  have HOK := Lib.hid (okL_iff.1 hb1).1
  have HRES := Lib.hid (nextS_is hb1 hb2)
  rw [hb1] at RC
  rw [hb2] at TC
  obtain ⟨res, hres⟩ : ∃ res, nextS l t = res := ⟨_, rfl⟩
  rw [hres] at HRES ⊢
  obtain ⟨x0, hx0⟩ := nth_of HL.out (show 0 < n by omega)
  have hxo := HOK.out x0 (List.mem_of_getElem? hx0)
  have J0 := Lib.hid (fun v => pafter_any x0 hxo t (by have := HT.out.1; omega) HT.out.2 v)
  have HN0 : Hid (nextN l t 1 = some (nxtD x0 t)) := next_new hx0 rfl
  obtain ⟨g, o, rfl, _⟩ := HV.out.at_ hx0
  have HC0 := Lib.hid (fun v (hb : Below w.heap.size w v) => (by obtain ⟨g', o', e', h'⟩ := (HV.out.below hb).at_ hx0; cases e'; rw [Nat.zero_mul, Nat.add_zero] at h'; exact h' : GAt v g o x0))
  have z1 : ((n : Int) == 0) = false := by rw [beq_eq_false_iff_ne]; omega
  have z2 : (0 : Int) < (n : Int) := by omega
  have HNC := Lib.hid hnc
  have HC9 := Lib.hid hc9
  have HN9 := Lib.hid hn9
  clear hbad hb1 hb2 h ht hres hx0 hxo hnc hc9 hn9 hn1
  go_enter Try.func15, Try.ntmps15
  go_upto_region 3 with (first
    | (go_at_call 25; (with_reducible refine (RC.out _ (by repeat (first | exact Below.refl _ _ | (with_reducible assumption) | refine bw_alloc ?_ _ | refine bw_drew ?_))).mono ?_); rintro e w1 ⟨rfl, bx1⟩; have HB1 := Lib.hid bx1; obtain ⟨c0, c1, c2⟩ := HC0.out _ bx1; clear bx1)
    | (go_at_call 28; (with_reducible refine (TC.out _).mono ?_); rintro e w2 ⟨rfl, rfl⟩))
  clear RC TC HC0
  obtain ⟨m, hm⟩ : ∃ m, n - 1 = m := ⟨_, rfl⟩
  have HM : Hid (n = m + 1) := by have := HNC.out; show n = m + 1; omega
  go_upto_region 4 with (go_at_call 30; (with_reducible refine (J0.out _).mono ?_); rintro e wj ⟨rfl, bxj⟩; have HB2 := Lib.hid (below_up HB1.out bxj); clear bxj)
  clear J0 c0 c1 c2
  obtain ⟨b0, hb0⟩ : ∃ b0, nxtD x0 t = b0 := ⟨_, rfl⟩
  rw [hb0] at HN0 ⊢
  clear hb0
  rcases (show c = 1 ∨ ¬ c = 1 by omega) with rfl | hc1
  all_goals
    go_cut [28, 29, 30] (fun s u k wx => ∃ (a2 : Option Addr) (d : Nat), s = .slice a2 m d ∧ u = .int .i64 (m : Int) ∧ k = .int .i64 0 ∧ Hid (GView wx a2 (l.drop 1)) ∧ Hid (Below w.heap.size w wx))
    case first =>
      have HG := Lib.hid (HV.out.below HB2.out)
      go_wp2_with fail
      go_meet
      first
        | exact ⟨_, _, rfl, rfl, rfl, Lib.hid (HG.out.drop 1), HB2⟩
        | (refine ⟨_, _, rfl, rfl, rfl, Lib.hid ?_, HB2⟩
           left
           have h1 := HL.out; have h2 := HNC.out
           rw [List.drop_eq_nil_iff]; omega)
    case rest =>
      obtain ⟨a2, d, rfl, rfl, rfl, HG, HP⟩ := hcut
      clear z1 z2 hm HB1 HB2
      have hm9 : (m : Int) < 9223372036854775807 := by have h1 := HN9.out; have h2 := HM.out; rw [h2] at h1; omega
      have HL2 : Hid ((l.drop 1).length = m) := by show _ = m; rw [List.length_drop, HL.out, HM.out]; omega
      go_upto_block 0 with fail
      go_cut [6] (fun u wx => ∃ b : Int, u = .int .i64 b ∧ Hid (res = some b) ∧ Hid (Below w.heap.size w wx))
      case first =>
        go_wp2
        go_loopw [6, 30] (fun g u wr => ∃ (k : Nat) (b : Int), k ≤ m ∧ u = .int .i64 k ∧ g = .int .i64 b ∧ Hid (nextN l t (k + 1) = some b) ∧ Hid (GView wr a2 (l.drop 1)) ∧ Hid (Below w.heap.size w wr)) (fun _ u _ => (m - intOf u).toNat)
        case atStart => exact ⟨0, b0, Nat.zero_le _, rfl, rfl, HN0, HG, HP⟩
        case round =>
          obtain ⟨k, b, hk, rfl, rfl, HN, HGr, HPr⟩ := hrel
          clear HG HP HN0
          by_cases hlt : k < m
          · obtain ⟨x, hx⟩ := nth_of HL2.out hlt
            obtain ⟨g, o, rfl, ⟨c0, c1, c2⟩⟩ := HGr.out.at_ hx
            have hx1 : l[k + 1]? = some x := by rw [List.getElem?_drop, Nat.add_comm] at hx; exact hx
            have hxo := HOK.out x (List.mem_of_getElem? hx1)
            have hk1 : (k : Int) < (m : Int) := by omega
            have hk0 : (0 : Int) ≤ (k : Int) := by omega
            have JC := Lib.hid (fun v => pafter_any x hxo t (by have := HT.out.1; omega) HT.out.2 v)
            have HN2 := Lib.hid (nextN_least hx1 HN.out)
            obtain ⟨q, hq⟩ : ∃ q, nxtD x t = q := ⟨_, rfl⟩
            rw [hq] at JC HN2
            clear hx hx1 hxo hq HN
            by_cases hqb : q < b
            · have mn : ∀ (ts : Array TypeId) (t : TypeId) (w : World), (Builtin.min_ ts t #[.int .i64 b, .int .i64 q]).run Try.prog w = .ok (.int .i64 q) w := fun ts t w => by rw [run_min_int2, if_pos hqb]
              rw [if_pos hqb] at HN2
              clear hqb
              go_wp2_with (go_at_call 30; (with_reducible refine (JC.out _).mono ?_); rintro e wj ⟨rfl, bxj⟩; have HPJ : Hid (Below wr.heap.size wr wj) := below_up (by repeat (first | exact Below.refl _ _ | (with_reducible assumption) | refine bw_alloc ?_ _ | refine bw_drew ?_)) bxj; clear bxj)
              go_roundw
              case rel => exact ⟨k + 1, q, by omega, by go_num, rfl, HN2, HGr.out.below HPJ.out, below_up HPr.out HPJ.out⟩
              case measure => simp [intOf]; omega
            · have mn : ∀ (ts : Array TypeId) (t : TypeId) (w : World), (Builtin.min_ ts t #[.int .i64 b, .int .i64 q]).run Try.prog w = .ok (.int .i64 b) w := fun ts t w => by rw [run_min_int2, if_neg hqb]
              rw [if_neg hqb] at HN2
              clear hqb
              go_wp2_with (go_at_call 30; (with_reducible refine (JC.out _).mono ?_); rintro e wj ⟨rfl, bxj⟩; have HPJ : Hid (Below wr.heap.size wr wj) := below_up (by repeat (first | exact Below.refl _ _ | (with_reducible assumption) | refine bw_alloc ?_ _ | refine bw_drew ?_)) bxj; clear bxj)
              go_roundw
              case rel => exact ⟨k + 1, b, by omega, by go_num, rfl, HN2, HGr.out.below HPJ.out, below_up HPr.out HPJ.out⟩
              case measure => simp [intOf]; omega
          · obtain rfl : k = m := by omega
            have HE : Hid (res = some b) := by rw [HRES.out]; show nextN l t l.length = _; rw [HL.out, HM.out]; exact HN.out
            go_wp2_with fail
            go_meet
            exact ⟨b, rfl, HE, HPr⟩
      case rest =>
        obtain ⟨b, rfl, HE, HPr⟩ := hcut
        clear HRES
        go_wp2_with fail
        go_ret2
        exact ⟨by rw [HE.out]; rfl, HPr.out⟩
end Go.Proofs.Ytbliagfmpcmfdaa

/-
  The walks over the program's period, and over a period's work.
-/
namespace Go.Proofs.Ytbliagfmpcmfdaa
open Go.RowKit Go.Maps

theorem infoU : (Try.prog.info? 58).map (fun i => (i.zero, i.size, i.bytes)) = some (some (.int .u64 0), 1, 8) := by kernel_rfl
theorem uparts {P : Program} {e : TypeId} {z : Value} {s b : Nat} (h : (P.info? e).map (fun i => (i.zero, i.size, i.bytes)) = some (some z, s, b)) : ∃ i, P.info? e = some i ∧ i.zero = some z ∧ i.size = s ∧ i.bytes = b := by
  obtain ⟨i, h1, h2⟩ := Option.map_eq_some_iff.1 h
  simp only [Prod.mk.injEq] at h2
  exact ⟨i, h1, h2.1, h2.2.1, h2.2.2⟩
theorem make_u (c : Nat) (hc : c ≤ 2000000000) (w : World) : (Instr.makeSlice 62 (.int .i64 0) (.int .i64 (c : Int))).run Try.prog w = .ok (.slice (some ⟨w.heap.size, 0, none⟩) 0 c) (w.alloc (.cells (madeCells #[.int .u64 0] c) 58)) := by
  obtain ⟨i0, hi, hz0, hz1, hz2⟩ := uparts infoU
  have h := run_make w 62 58 i0 (.int .u64 0) Try.underlying62 hi hz0 .i64 .i64 0 c (by omega) (by omega) (by rw [hz2]; omega) (by omega)
  rw [hz1] at h
  simpa [Value.cells] using h
theorem ownU_made (w : World) (cap : Nat) (hc : cap ≤ 2000000000) (T : TypeId) : OwnU (w.alloc (.cells (madeCells #[.int .u64 0] cap) T)) T w.heap.size (.slice (some ⟨w.heap.size, 0, none⟩) 0 cap) [] :=
  World.ownsRow_made (e := T) (size := 1) (base := w.heap.size) (w := w) (madeCells #[.int .u64 0] cap) cap (by simp) (by unfold maxLen; omega) (by rw [size_madeCells]; omega)

set_option maxRecDepth 100000 in
set_option maxHeartbeats 8000000 in
theorem pperiod_any {w : World} {a : Option Addr} {n c : Nat} {l : List Dm} (h : Dems w a n c l) : Calls Try.prog 18 #[.slice a n c] w fun e w' => e = .returned (.tuple #[.int .i64 (perS l).1, .int .i64 (perS l).2]) ∧ Below w.heap.size w w' := by
  have HV := Lib.hid h.view
  have HL := Lib.hid h.len
  have hn9 := h.n9
  have RC := Lib.hid (fun v (hb : Below w.heap.size w v) => pchk_any l n c h.len h.n9 a v (h.view.below hb))
  clear h
  by_cases hok : okL l = true
  rotate_left
  · have hok' : okL l = false := by cases e : okL l with | true => exact absurd e hok | false => rfl
    have HP := Lib.hid (perS_bad hok')
    rw [hok'] at RC
    clear hok hok'
    go_enter Try.func18, Try.ntmps18
    go_wp2_with (go_at_call 25; (with_reducible refine (RC.out _ (by repeat (first | exact Below.refl _ _ | (with_reducible assumption) | refine bw_alloc ?_ _ | refine bw_drew ?_))).mono ?_); rintro e w1 ⟨rfl, bx1⟩)
    go_ret2
    exact ⟨by rw [HP.out]; rfl, bx1⟩
  have HOK := Lib.hid hok
  rw [hok] at RC
  have HR := Lib.hid (per_row hok)
  have hn64 : n ≤ 64 := by have := (okL_iff.1 hok).2; have := HL.out; omega
  have MK := make_u n (by omega)
  have hOM : Hid (∀ (w : World) (T : TypeId), OwnU (w.alloc (.cells (madeCells #[.int .u64 0] n) T)) T w.heap.size (.slice (some ⟨w.heap.size, 0, none⟩) 0 n) []) := fun w T => ownU_made w n (by omega) T
  clear hok
  go_enter Try.func18, Try.ntmps18
  go_upto_region 4 with (go_at_call 25; (with_reducible refine (RC.out _ (by repeat (first | exact Below.refl _ _ | (with_reducible assumption) | refine bw_alloc ?_ _ | refine bw_drew ?_))).mono ?_); rintro e w1 ⟨rfl, bx1⟩; have HB1 := Lib.hid bx1; clear bx1)
  have HO1 := Lib.hid (hOM.out w1 58)
  go_upto_block 0 with fail
  go_cut [4] (fun u wx => ∃ (a' : Option Addr) (c' : Nat), u = .slice a' n c' ∧ Hid (UInts wx a' (l.map Dm.t)) ∧ Hid (Below w.heap.size w wx))
  case first =>
    go_wp2
    go_loopw [4, 17] (fun g u wr => ∃ (k : Nat) (a' : Option Addr) (c' : Nat), k ≤ n ∧ u = .int .i64 k ∧ g = .slice a' k c' ∧ Hid (OwnU wr 58 w1.heap.size (.slice a' k c') ((l.take k).map Dm.t)) ∧ Hid (Below w1.heap.size w1 wr)) (fun _ u _ => (n - intOf u).toNat)
    case atStart => exact ⟨0, _, _, Nat.zero_le _, rfl, rfl, HO1, Lib.hid (by repeat (first | exact Below.refl _ _ | (with_reducible assumption) | refine bw_alloc ?_ _ | refine bw_drew ?_))⟩
    case round =>
      obtain ⟨k, a', c', hk, rfl, rfl, HO, HB⟩ := hrel
      clear HO1 MK hOM
      by_cases hlt : k < n
      · obtain ⟨x, hx⟩ := nth_of HL.out hlt
        obtain ⟨g, o, rfl, ⟨c0, c1, c2⟩⟩ := (HV.out.below (below_up HB1.out HB.out)).at_ hx
        have hk1 : (k : Int) < (n : Int) := by omega
        have hk0 : (0 : Int) ≤ (k : Int) := by omega
        have hxt := HR.out x.t (List.mem_map.2 ⟨x, List.mem_of_getElem? hx, rfl⟩)
        have e1 : IntKind.u64.wrap x.t = x.t := IntWalk.u64_in _ (by omega)
        have HX : Hid ((l.take (k + 1)).map Dm.t = (l.take k).map Dm.t ++ [x.t]) := by show _ = _; rw [List.take_add_one, hx, List.map_append]; rfl
        have HLN : Hid (((l.take k).map Dm.t).length = k) := by show _ = _; rw [List.length_map, List.length_take]; have := HL.out; omega
        have HSM : Hid (((((l.take k).map Dm.t).length + 1 : Nat) : Int) ≤ 17592186044416) := by show _ ≤ _; rw [HLN.out]; omega
        have HNN : Hid (((l.take k).map Dm.t).length + 1 = k + 1) := by show _ = _; rw [HLN.out]
        have HSZ : Hid (w1.heap.size ≤ wr.heap.size) := HB.out.size
        generalize (l.take k).map Dm.t = Q at *
        clear hx hxt
        go_upto_region 7 with fail
        obtain ⟨v7, hv7⟩ : ∃ v7, wr.alloc (.cells #[.int .i64 x.c, .int .i64 x.d, .int .i64 x.t] 32) = v7 := ⟨_, rfl⟩
        have hbx : v7.cell? ⟨wr.heap.size, 2, none⟩ = some (.int .i64 x.t) := by rw [← hv7, World.cell?_alloc_new]; rfl
        have HB7 : Hid (Below wr.heap.size wr v7) := by rw [← hv7]; exact bw_alloc (Below.refl _ _) _
        rw [hv7]
        clear hv7 c0 c1 c2
        generalize wr.heap.size = gx at hbx ⊢
        go_wp2_with (at_builtin; refine wp_uints numU (m := 1) (l := [x.t]) rfl _ _ rfl rfl rfl ((HO.out.below HB7.out).below (by repeat (first | exact Below.refl _ _ | (with_reducible assumption) | refine bw_alloc ?_ _ | refine bw_drew ?_))) (Nat.le_trans (Nat.le_trans HSZ.out HB7.out.size) ((by repeat (first | exact Below.refl _ _ | (with_reducible assumption) | refine bw_alloc ?_ _ | refine bw_drew ?_)) : Below v7.heap.size v7 _).size) (uints_new v7 x.t _) rfl (by have := HSM.out; omega) (fun z => by cases z) (k + 1) HNN.out ?_; intro a6 c6 w6 o6 n6 l6; rw [← HX.out] at o6; have HO6 := Lib.hid o6; have HB6 : Hid (Below w1.heap.size w1 w6) := ((below_up HB.out HB7.out).trans (((by repeat (first | exact Below.refl _ _ | (with_reducible assumption) | refine bw_alloc ?_ _ | refine bw_drew ?_)) : Below v7.heap.size v7 _).mono (Nat.le_trans HSZ.out HB7.out.size))).grown n6 (Nat.le_trans (Nat.le_trans HSZ.out HB7.out.size) ((by repeat (first | exact Below.refl _ _ | (with_reducible assumption) | refine bw_alloc ?_ _ | refine bw_drew ?_)) : Below v7.heap.size v7 _).size) (fun q hq => (OwnU.new ((HO.out.below HB7.out).below (by repeat (first | exact Below.refl _ _ | (with_reducible assumption) | refine bw_alloc ?_ _ | refine bw_drew ?_))) hq).1); clear o6 n6 l6)
        go_roundw
        case rel => exact ⟨k + 1, a6, c6, by omega, by go_num, rfl, HO6, HB6⟩
        case measure => simp [intOf]; omega
      · obtain rfl : k = n := by omega
        have HE : Hid (UInts wr a' (l.map Dm.t)) := by
          obtain ⟨a9, c9, e9, hu, _⟩ := HO.out.slice
          obtain ⟨rfl, _, rfl⟩ := Value.slice.inj e9
          have : (l.take k).map Dm.t = l.map Dm.t := by rw [List.take_of_length_le (by have := HL.out; omega)]
          rw [this] at hu; exact hu
        have HBB := Lib.hid (below_up HB1.out HB.out)
        clear HO HB
        go_wp2_with fail
        go_meet
        exact ⟨a', c', rfl, HE, HBB⟩
  case rest =>
    obtain ⟨a', c', rfl, HU, HB⟩ := hcut
    have LC : Hid (∀ v, Below wc.heap.size wc v → Calls Try.prog 35 #[.slice a' n c'] v fun e w' => e = .returned (.tuple #[.int .u64 (perR l).1, .bool (perR l).2]) ∧ Below v.heap.size v w') := fun v hb => by
      have := lcms_any (l.map Dm.t) (fun z hz => by have := HR.out z hz; exact ⟨by omega, by omega⟩) (by rw [List.length_map, HL.out]; omega) c' a' v (reads_of (HU.out.below hb))
      rw [List.length_map, HL.out] at this
      exact this
    have hp := per_pos HOK.out
    have HS1 := Lib.hid (fun h1 h2 => perS_is HOK.out h1 h2)
    have HS2 := Lib.hid (fun h => perS_not HOK.out h)
    generalize (perR l).1 = P at *
    generalize (perR l).2 = pb at *
    clear HR HU HOK MK hOM HO1
    cases pb with
    | false =>
      have HE := Lib.hid (HS2.out (fun h => by cases h.1))
      clear hp HS1 HS2
      go_wp2_with (go_at_call 35; (with_reducible refine (LC.out _ (by repeat (first | exact Below.refl _ _ | (with_reducible assumption) | refine bw_alloc ?_ _ | refine bw_drew ?_))).mono ?_); rintro e w5 ⟨rfl, bx5⟩; have HB5 := Lib.hid (below_up HB.out bx5); clear bx5)
      go_ret2
      exact ⟨by rw [HE.out]; rfl, HB5.out⟩
    | true =>
      by_cases hq : P ≤ 1048576
      · have hq1 : ¬ 1048576 < P := by omega
        have HE := Lib.hid (HS1.out rfl hq)
        have e1 : IntKind.i64.wrap P = P := IntWalk.i64_in _ (by omega)
        clear hp HS1 HS2 hq
        go_wp2_with (go_at_call 35; (with_reducible refine (LC.out _ (by repeat (first | exact Below.refl _ _ | (with_reducible assumption) | refine bw_alloc ?_ _ | refine bw_drew ?_))).mono ?_); rintro e w5 ⟨rfl, bx5⟩; have HB5 := Lib.hid (below_up HB.out bx5); clear bx5)
        go_ret2
        exact ⟨by rw [HE.out]; rfl, HB5.out⟩
      · have hq1 : 1048576 < P := by omega
        have HE := Lib.hid (HS2.out (fun h => hq h.2))
        clear hp HS1 HS2 hq
        go_wp2_with (go_at_call 35; (with_reducible refine (LC.out _ (by repeat (first | exact Below.refl _ _ | (with_reducible assumption) | refine bw_alloc ?_ _ | refine bw_drew ?_))).mono ?_); rintro e w5 ⟨rfl, bx5⟩; have HB5 := Lib.hid (below_up HB.out bx5); clear bx5)
        go_ret2
        exact ⟨by rw [HE.out]; rfl, HB5.out⟩

set_option maxRecDepth 100000 in
set_option maxHeartbeats 8000000 in
theorem pload_any {w : World} {a : Option Addr} {n c : Nat} {l : List Dm} (h : Dems w a n c l) : Calls Try.prog 17 #[.slice a n c] w fun e w' => e = .returned (.tuple #[.int .i64 (ldS l).1, .int .i64 (ldS l).2.1, .int .i64 (ldS l).2.2]) ∧ Below w.heap.size w w' := by
  have HH := Lib.hid h
  have PC := Lib.hid (fun v (hb : Below w.heap.size w v) => pperiod_any (h.below hb))
  have HS1 := Lib.hid (fun q => ldS_bad (l := l) q)
  have HS2 := Lib.hid (fun q r => ldS_is (l := l) q r)
  have HS3 := Lib.hid (fun q r => ldS_over (l := l) q r)
  have HP := Lib.hid (fun q => perS_ok (l := l) q)
  have hmf : ∀ (fn : Fn) (first cap : Array Value) (w : World), (Instr.makeFunc fn first cap).run Try.prog w = .ok (.func fn first cap) w := fun _ _ _ _ => rfl
  generalize (perS l).1 = p at *
  generalize (perS l).2 = er at *
  clear h
  by_cases her : er = 0
  rotate_left
  · have her1 : (er != 0) = true := by simp [her]
    have HE := Lib.hid (HS1.out her)
    clear HS1 HS2 HS3 HP her
    go_enter Try.func17, Try.ntmps17
    go_wp2_with (go_at_call 18; (with_reducible refine (PC.out _ (by repeat (first | exact Below.refl _ _ | (with_reducible assumption) | refine bw_alloc ?_ _ | refine bw_drew ?_))).mono ?_); rintro e w1 ⟨rfl, bx1⟩; have HB1 := Lib.hid (below_up (show Below w.heap.size w _ from (by repeat (first | exact Below.refl _ _ | (with_reducible assumption) | refine bw_alloc ?_ _ | refine bw_drew ?_))) bx1); clear bx1)
    refine bodyPost_ret (v := .tuple #[.int .i64 0, .int .i64 0, .int .i64 er]) (by simp [results, Try.results17, go_sem]) rfl ⟨by rw [HE.out]; try rfl, below_up HB1.out (by repeat (first | exact Below.refl _ _ | (with_reducible assumption) | refine bw_alloc ?_ _ | refine bw_drew ?_))⟩
  subst her
  have hok := (HP.out rfl).1
  have hp0 := (HP.out rfl).2.2.2.1
  have hp1 := (HP.out rfl).2.2.2.2.1
  have HOK := Lib.hid hok
  have TC : Hid (∀ b V, Below w.heap.size w V → V.heap[b]? = some (.cells #[.int .i64 p] 2 (0, 0)) → Calls Try.prog 32 #[.func (.func 33) #[] #[.pointer (some ⟨b, 0, none⟩)], .slice a n c] V fun e w' => e = .returned (.tuple #[.int .i64 ((capA (loadN l p l.length)).getD 0), .bool (capA (loadN l p l.length)).isSome]) ∧ Below V.heap.size V w') := fun b V hb hbx => by
    have hok2 := (okL_iff.1 hok).1
    have := together_any l n c HH.out.len HH.out.n9 hok2 a V (HH.out.view.below hb) _ _ _ (each_load hok2 (by omega) hp1 hbx)
    rwa [sum_load] at this
  have HS2 := Lib.hid (HS2.out rfl)
  have HS3 := Lib.hid (HS3.out rfl)
  clear hok hp0 hp1
  by_cases hq : loadN l p l.length ≤ 4611686018427387904
  · have HE := Lib.hid (HS2.out hq)
    rw [cap_is hq] at TC
    generalize loadN l p l.length = q at *
    clear HS1 HS2 HS3 HP hq
    go_enter Try.func17, Try.ntmps17
    go_upto_region 2 with (go_at_call 18; (with_reducible refine (PC.out _ (by repeat (first | exact Below.refl _ _ | (with_reducible assumption) | refine bw_alloc ?_ _ | refine bw_drew ?_))).mono ?_); rintro e w1 ⟨rfl, bx1⟩; have HB1 := Lib.hid (below_up (show Below w.heap.size w _ from (by repeat (first | exact Below.refl _ _ | (with_reducible assumption) | refine bw_alloc ?_ _ | refine bw_drew ?_))) bx1); clear bx1)
    refine gen_world (fun v => Below w.heap.size w v ∧ v.heap[w1.heap.size]? = some (.cells #[.int .i64 p] 2 (0, 0))) ⟨below_up HB1.out (by repeat (first | exact Below.refl _ _ | (with_reducible assumption) | refine bw_alloc ?_ _ | refine bw_drew ?_)), heap_alloc_new w1 _⟩ ?_
    intro V ⟨hb, hx⟩
    have HB := Lib.hid hb
    have HX := Lib.hid hx
    generalize w1.heap.size = gx at *
    clear hb hx
    go_upto_region 5 with (go_at_call 32; (with_reducible refine (TC.out _ _ HB.out HX.out).mono ?_); rintro e w2 ⟨rfl, bx2⟩; have HB2 := Lib.hid (below_up HB.out bx2); have x0 : w2.cell? ⟨gx, 0, none⟩ = some (.int .i64 p) := (by have := kept_obj bx2 HX.out; rw [blk_cell this]; rfl); clear bx2)
    go_wp2
    go_quiet (fail)
    go_wp2
    refine bodyPost_ret (v := .tuple #[.int .i64 q, .int .i64 p, .int .i64 0]) (by simp [results, Try.results17, go_sem]) rfl ⟨by rw [HE.out]; try rfl, below_drewN HB2.out _⟩
  · have hq' : 4611686018427387904 < loadN l p l.length := by omega
    have HE := Lib.hid (HS3.out hq')
    rw [cap_not hq'] at TC
    clear HS1 HS2 HS3 HP hq hq'
    go_enter Try.func17, Try.ntmps17
    go_upto_region 2 with (go_at_call 18; (with_reducible refine (PC.out _ (by repeat (first | exact Below.refl _ _ | (with_reducible assumption) | refine bw_alloc ?_ _ | refine bw_drew ?_))).mono ?_); rintro e w1 ⟨rfl, bx1⟩; have HB1 := Lib.hid (below_up (show Below w.heap.size w _ from (by repeat (first | exact Below.refl _ _ | (with_reducible assumption) | refine bw_alloc ?_ _ | refine bw_drew ?_))) bx1); clear bx1)
    refine gen_world (fun v => Below w.heap.size w v ∧ v.heap[w1.heap.size]? = some (.cells #[.int .i64 p] 2 (0, 0))) ⟨below_up HB1.out (by repeat (first | exact Below.refl _ _ | (with_reducible assumption) | refine bw_alloc ?_ _ | refine bw_drew ?_)), heap_alloc_new w1 _⟩ ?_
    intro V ⟨hb, hx⟩
    have HB := Lib.hid hb
    have HX := Lib.hid hx
    generalize w1.heap.size = gx at *
    clear hb hx
    go_wp2_with (go_at_call 32; (with_reducible refine (TC.out _ _ HB.out HX.out).mono ?_); rintro e w2 ⟨rfl, bx2⟩; have HB2 := Lib.hid (below_up HB.out bx2); clear bx2)
    refine bodyPost_ret (v := .tuple #[.int .i64 0, .int .i64 0, .int .i64 16]) (by simp [results, Try.results17, go_sem]) rfl ⟨by rw [HE.out]; try rfl, HB2.out⟩
end Go.Proofs.Ytbliagfmpcmfdaa

/-
  The walks over the least of a row, and over what makes the row of next deadlines that of a later time.
-/
namespace Go.Proofs.Ytbliagfmpcmfdaa
open Go.RowKit Go.Maps
attribute [-go_sem] run_min_int2 run_max_int2

/-- What may have turned of what was there: the blocks of S alone. -/
structure Turn (S : Nat → Prop) (w w' : World) : Prop where
  os : w'.os = w.os
  tape : w'.tape = w.tape
  output : w'.output = w.output
  size : w.heap.size ≤ w'.heap.size
  block : ∀ k, k < w.heap.size → ¬ S k → w'.heap[k]? = w.heap[k]?

theorem Turn.refl (S : Nat → Prop) (w : World) : Turn S w w := ⟨rfl, rfl, rfl, Nat.le_refl _, fun _ _ _ => rfl⟩
theorem Turn.trans {S S' : Nat → Prop} {a b c : World} (h : Turn S a b) (k : Turn S' b c) (hs : ∀ i, i < a.heap.size → S' i → S i) : Turn S a c :=
  ⟨k.os.trans h.os, k.tape.trans h.tape, k.output.trans h.output, Nat.le_trans h.size k.size, fun i hi hn => (k.block i (Nat.lt_of_lt_of_le hi h.size) (fun q => hn (hs i hi q))).trans (h.block i hi hn)⟩
theorem Turn.then {S : Nat → Prop} {a b c : World} (h : Turn S a b) (k : Turn S b c) : Turn S a c := h.trans k fun _ _ q => q
theorem Turn.mono {S S' : Nat → Prop} {a b : World} (h : Turn S a b) (hs : ∀ i, i < a.heap.size → S i → S' i) : Turn S' a b :=
  ⟨h.os, h.tape, h.output, h.size, fun i hi hn => h.block i hi (fun q => hn (hs i hi q))⟩
theorem Turn.of_below {S : Nat → Prop} {w w' : World} (h : Below w.heap.size w w') : Turn S w w' := ⟨h.os, h.tape, h.output, h.size, fun k hk _ => h.block k hk⟩
theorem Turn.of_same {S : Nat → Prop} {w w1 w' : World} (h : Turn S w1 w') (e : w1.heap = w.heap) (e1 : w1.os = w.os) (e2 : w1.tape = w.tape) (e3 : w1.output = w.output) : Turn S w w' :=
  ⟨h.os.trans e1, h.tape.trans e2, h.output.trans e3, by rw [← e]; exact h.size, fun k hk hn => by rw [← e]; exact h.block k (by rw [e]; exact hk) hn⟩
theorem Turn.below {S : Nat → Prop} {w w' : World} {B : Nat} (h : Turn S w w') (hB : B ≤ w.heap.size) (hs : ∀ i, S i → B ≤ i) : Below B w w' :=
  ⟨h.os, h.tape, h.output, h.size, fun k hk => h.block k (by omega) (fun q => by have := hs k q; omega)⟩
theorem Turn.drew {S : Nat → Prop} {a w : World} (h : Turn S a w) : Turn S a w.drew := ⟨h.os, h.tape, h.output, h.size, h.block⟩
theorem Turn.alloc {S : Nat → Prop} {a w : World} (h : Turn S a w) (o : Obj) : Turn S a (w.alloc o) :=
  h.then (Turn.of_below ((Below.refl _ _).alloc (Nat.le_refl _) o))
theorem Turn.setCell {S : Nat → Prop} {a w : World} (h : Turn S a w) {p : Addr} (hp : p.block < a.heap.size → S p.block) (u : Value) : Turn S a (w.setCell p u) :=
  ⟨h.os, h.tape, h.output, by simp [World.setCell]; exact h.size, fun k hk hn => by
    rw [Below.heap_setCell _ _ _ _ (fun e => hn (by rw [e]; exact hp (by omega)))]; exact h.block k hk hn⟩
theorem Turn.grown {S : Nat → Prop} {a w w' : World} {row : Option Nat} (h : Turn S a w) (hg : w.grownBy w' row) (hr : ∀ k, row = some k → k < a.heap.size → S k) : Turn S a w' :=
  ⟨hg.os.trans h.os, hg.tape.trans h.tape, hg.output.trans h.output, Nat.le_trans h.size hg.size, fun k hk hn => (hg.block k (Nat.lt_of_lt_of_le hk h.size) (fun e => hn (hr k e.symm hk))).trans (h.block k hk hn)⟩

theorem Turn.obj {S : Nat → Prop} {w w' : World} (h : Turn S w w') {b : Nat} {o : Obj} (ho : w.heap[b]? = some o) (hn : ¬ S b) : w'.heap[b]? = some o := (h.block b (lt_of_block ho) hn).trans ho

/-- A row of numbers that lies in a block of its own. -/
structure RowI (w : World) (g c : Nat) (row : List Int) : Prop where
  blk : ∃ cur, w.heap[g]? = some (.cells cur 2 (0, 0)) ∧ row.length ≤ cur.size ∧ ∀ (j : Nat) (u : Int), row[j]? = some u → cur[j]? = some (.int .i64 u)
theorem RowI.at_ {w : World} {g c : Nat} {row : List Int} (h : RowI w g c row) {k : Nat} {x : Int} (hx : row[k]? = some x) : w.cell? ⟨g, k, none⟩ = some (.int .i64 x) := by
  obtain ⟨cur, h1, _, h3⟩ := h.blk
  rw [blk_cell h1]; exact h3 k x hx
theorem RowI.free {w : World} {g c : Nat} {row : List Int} (h : RowI w g c row) (k : Nat) : w.frozen? ⟨g, k, none⟩ = false := by
  obtain ⟨cur, h1, _⟩ := h.blk
  exact blk_free h1 k
theorem RowI.obj {w w' : World} {g c : Nat} {row : List Int} (h : RowI w g c row) (k : ∀ cs T fr, w.heap[g]? = some (.cells cs T fr) → w'.heap[g]? = some (.cells cs T fr)) : RowI w' g c row := by
  obtain ⟨cur, h1, h2⟩ := h.blk
  exact ⟨cur, k _ _ _ h1, h2⟩
theorem RowI.below {w w' : World} {g c : Nat} {row : List Int} (h : RowI w g c row) (hb : Below w.heap.size w w') : RowI w' g c row := h.obj fun _ _ _ z => kept_obj hb z
theorem RowI.lt {w : World} {g c : Nat} {row : List Int} (h : RowI w g c row) : g < w.heap.size := by
  obtain ⟨cur, h1, _⟩ := h.blk
  exact lt_of_block h1
theorem RowI.ints {w : World} {g c : Nat} {row : List Int} (h : RowI w g c row) : Ints w (some ⟨g, 0, none⟩) row := by
  obtain ⟨cur, h1, _, h3⟩ := h.blk
  exact Ints.of_block h1 h3
theorem RowI.set {w : World} {g c : Nat} {row : List Int} (h : RowI w g c row) {i : Nat} (hi : i < row.length) (x : Int) : RowI (w.setCell ⟨g, i, none⟩ (.int .i64 x)) g c (row.set i x) := by
  obtain ⟨cur, h1, h2, h3⟩ := h.blk
  refine ⟨_, blk_set h1 _, by rw [List.length_set, Array.size_setIfInBounds]; exact h2, fun j u hj => ?_⟩
  rw [Array.getElem?_setIfInBounds]
  by_cases e : i = j
  · subst e
    rw [if_pos rfl, if_pos (by omega)]
    rw [List.getElem?_set_self hi] at hj
    cases hj; rfl
  · rw [if_neg e]
    rw [List.getElem?_set_ne e] at hj
    exact h3 j u hj
theorem RowI.of_own {w : World} {B n c : Nat} {a : Option Addr} {row : List Int} (h : OwnI w 2 B (.slice a n c) row) (hn : 0 < n) : ∃ g, a = some ⟨g, 0, none⟩ ∧ B ≤ g ∧ RowI w g c row ∧ row.length = n := by
  have hlen : row.length = n := by
    obtain ⟨_, _, e, _⟩ := h.slice
    exact (Value.slice.inj e).2.1.symm
  rcases h.2 with ⟨e, h0⟩ | ⟨g, cap, cur, e, hB, h3, h1, h2, h4, h5⟩
  · omega
  · obtain ⟨rfl, _, rfl⟩ := Value.slice.inj e
    refine ⟨g, rfl, hB, ⟨cur, h3, by omega, fun j u hj => ?_⟩, hlen⟩
    have := vi_at hj
    rw [← h5, List.getElem?_take] at this
    split at this
    · simpa using this
    · cases this

set_option maxRecDepth 100000 in
set_option maxHeartbeats 4000000 in
/-- The least one of a row. -/
theorem pmin_any (row : List Int) (m : Int) (hm : m ∈ row) (hle : ∀ x ∈ row, m ≤ x) (n : Nat) (hl : row.length = n) (hn : n ≤ 1000000) (a : Option Addr) (c : Nat) (w : World) (hi : Ints w a row) :
    Calls Try.prog 52 #[.slice a n c] w fun e w' => e = .returned (.int .i64 m) ∧ w = w' := by
  have h0 : 0 < n := by rw [← hl]; exact List.length_pos_of_mem hm
  have HL := Lib.hid hl
  have HI := Lib.hid hi
  have HM := Lib.hid hm
  have HLE := Lib.hid hle
  obtain ⟨x0, hx0⟩ := nth_of hl h0
  obtain ⟨g, o, rfl, c0⟩ := hi.at_ hx0
  rw [Nat.add_zero] at c0
  have z1 : ¬ (n : Int) < 1 := by omega
  have z2 : (0 : Int) < (n : Int) := by omega
  have HX0 : Hid (x0 ∈ row ∧ ∀ j y, j < 1 → row[j]? = some y → x0 ≤ y) := by
    refine ⟨List.mem_of_getElem? hx0, fun j y hj hy => ?_⟩
    obtain rfl : j = 0 := by omega
    rw [hx0] at hy
    cases hy
    omega
  clear hl hi hm hle hx0 h0
  go_enter Try.func52, Try.ntmps52
  go_wp2
  go_loop [3, 4] (fun v u => ∃ (k : Nat) (y : Int), 1 ≤ k ∧ k ≤ n ∧ u = .int .i64 k ∧ v = .int .i64 y ∧ Hid (y ∈ row ∧ ∀ j z, j < k → row[j]? = some z → y ≤ z)) (fun _ u => (n - intOf u).toNat)
  case atStart => exact ⟨1, x0, by omega, by omega, rfl, rfl, HX0⟩
  case round =>
    obtain ⟨k, y, hk0, hk, rfl, rfl, HY⟩ := hrel
    clear HX0 c0
    by_cases hlt : k < n
    · obtain ⟨x, hx⟩ := nth_of HL.out hlt
      obtain ⟨g', o', e', c1⟩ := HI.out.at_ hx
      cases e'
      have hk1 : (k : Int) < (n : Int) := by omega
      have hk2 : (0 : Int) ≤ (k : Int) := by omega
      have HXM : Hid (x ∈ row) := List.mem_of_getElem? hx
      have HXK : Hid (∀ z, row[k]? = some z → x = z) := fun z hz => by rw [hx] at hz; exact Option.some.inj hz
      clear hx
      by_cases hq : x < y
      · have mn : ∀ (ts : Array TypeId) (t : TypeId) (w : World), (Builtin.min_ ts t #[.int .i64 y, .int .i64 x]).run Try.prog w = .ok (.int .i64 x) w := fun ts t w => by rw [run_min_int2, if_pos hq]
        have HN : Hid (∀ j z, j < k + 1 → row[j]? = some z → x ≤ z) := fun j z hj hz => by
          rcases Nat.lt_or_ge j k with q | q
          · have := HY.out.2 j z q hz; omega
          · obtain rfl : j = k := by omega
            have := HXK.out z hz; omega
        clear hq
        go_wp2
        go_round
        case rel => exact ⟨k + 1, x, by omega, by omega, by go_num, rfl, HXM.out, HN.out⟩
        case measure => simp [intOf]; omega
      · have mn : ∀ (ts : Array TypeId) (t : TypeId) (w : World), (Builtin.min_ ts t #[.int .i64 y, .int .i64 x]).run Try.prog w = .ok (.int .i64 y) w := fun ts t w => by rw [run_min_int2, if_neg hq]
        have HN : Hid (∀ j z, j < k + 1 → row[j]? = some z → y ≤ z) := fun j z hj hz => by
          rcases Nat.lt_or_ge j k with q | q
          · exact HY.out.2 j z q hz
          · obtain rfl : j = k := by omega
            have := HXK.out z hz; omega
        clear hq
        go_wp2
        go_round
        case rel => exact ⟨k + 1, y, by omega, by omega, by go_num, rfl, HY.out.1, HN.out⟩
        case measure => simp [intOf]; omega
    · obtain rfl : k = n := by omega
      obtain rfl : y = m := by
        have h1 := HLE.out y HY.out.1
        obtain ⟨j, hj⟩ := List.mem_iff_getElem?.1 HM.out
        have h2 := HY.out.2 j m (by have := (List.getElem?_eq_some_iff.1 hj).1; have := HL.out; omega) hj
        omega
      go_wp2
      go_ret
      exact ⟨rfl, rfl⟩

/-- What a pass leaves. -/
structure PassAt (w : World) (g c : Nat) (row : List Int) (V : World) : Prop where
  turn : Turn (fun k => k = g) w V
  row : RowI V g c row
theorem PassAt.below {w V V' : World} {g c : Nat} {row : List Int} (h : PassAt w g c row V) (hb : Below V.heap.size V V') : PassAt w g c row V' := ⟨h.turn.then (Turn.of_below hb), h.row.below hb⟩
theorem PassAt.set {w V : World} {g c : Nat} {row : List Int} (h : PassAt w g c row V) {i : Nat} (hi : i < row.length) (x : Int) : PassAt w g c (row.set i x) (V.setCell ⟨g, i, none⟩ (.int .i64 x)) :=
  ⟨h.turn.setCell (fun _ => rfl) _, h.row.set hi x⟩
theorem GAt.turn {w w' : World} {g b o : Nat} {x : Dm} (h : GAt w b o x) (ht : Turn (fun k => k = g) w w') (hne : b ≠ g) : GAt w' b o x := by
  have hlt := block_of_cell h.c0
  have e := ht.block b hlt hne
  have k : ∀ o, w'.cell? ⟨b, o, none⟩ = w.cell? ⟨b, o, none⟩ := fun o => by unfold World.cell?; rw [show w'.heap[b]? = w.heap[b]? from e]
  exact ⟨by rw [k]; exact h.c0, by rw [k]; exact h.c1, by rw [k]; exact h.c2⟩
/-- A row of demands that does not lie in a block. -/
def Off (a : Option Addr) (g : Nat) : Prop := ∀ b o i, a = some ⟨b, o, i⟩ → b ≠ g
theorem GView.turn {w w' : World} {g : Nat} {a : Option Addr} {l : List Dm} (h : GView w a l) (ht : Turn (fun k => k = g) w w') (hne : Off a g) : GView w' a l := by
  rcases h with rfl | ⟨b, o, rfl, hc⟩
  · exact .inl rfl
  · refine .inr ⟨b, o, rfl, fun j u hj => ?_⟩
    have hh := hc j u hj
    have e := ht.block b (block_of_cell hh) (hne b o none rfl)
    have k : w'.cell? ⟨b, o + j, none⟩ = w.cell? ⟨b, o + j, none⟩ := by unfold World.cell?; rw [show w'.heap[b]? = w.heap[b]? from e]
    rw [k]; exact hh

set_option maxRecDepth 100000 in
set_option maxHeartbeats 8000000 in
theorem ppass_any (l : List Dm) (n c : Nat) (hl : l.length = n) (hn : n ≤ 64) (hok : ∀ x ∈ l, x.ok) (a : Option Addr) (u t : Int) (hut : u ≤ t) (h0 : 0 ≤ t) (ht : t ≤ 2199023255552) (hle : ∀ x ∈ l, t ≤ nxtD x u) (g cg : Nat) (w : World) (hv : GView w a l) (hr : RowI w g cg (nxR l u)) (hoff : Off a g) :
    Calls Try.prog 53 #[.slice a n c, .slice (some ⟨g, 0, none⟩) n cg, .int .i64 t] w fun e w' => e = .returned (.int .i64 (dueA l t - dueA l u)) ∧ PassAt w g cg (nxR l t) w' := by
  have HV := Lib.hid hv
  have HL := Lib.hid hl
  have HOK := Lib.hid hok
  have HLE := Lib.hid hle
  have HOFF := Lib.hid hoff
  have HP0 : Hid (PassAt w g cg (nxH l t u 0) w) := ⟨Turn.refl _ _, by rw [nxH_zero]; exact hr⟩
  obtain ⟨res, hres⟩ : ∃ res, dueA l t - dueA l u = res := ⟨_, rfl⟩
  have HRES := Lib.hid hres
  rw [hres]
  have HJ : Hid (∀ k, 0 ≤ dueN l t k - dueN l u k ∧ dueN l t k - dueN l u k ≤ (k : Int) * 1099511627776) := due_jump hok hut hle
  clear hv hl hok hle hr hoff hres
  go_enter Try.func53, Try.ntmps53
  go_wp2
  go_loopw [7, 12] (fun s v wr => ∃ k : Nat, k ≤ n ∧ v = .int .i64 k ∧ s = .int .i64 (dueN l t k - dueN l u k) ∧ Hid (PassAt w g cg (nxH l t u k) wr)) (fun _ v _ => (n - intOf v).toNat)
  case atStart => exact ⟨0, Nat.zero_le _, rfl, rfl, HP0⟩
  case round =>
    obtain ⟨k, hk, rfl, rfl, HP⟩ := hrel
    clear HP0
    by_cases hlt : k < n
    · obtain ⟨x, hx⟩ := nth_of HL.out hlt
      have hxm := List.mem_of_getElem? hx
      have hxo := HOK.out x hxm
      obtain ⟨b, o, rfl, ⟨c0, c1, c2⟩⟩ := (HV.out.turn HP.out.turn HOFF.out).at_ hx
      have r0 := HP.out.row.at_ (nxH_at (t := t) (u := u) hx)
      have rf := HP.out.row.free k
      have hk1 : (k : Int) < (n : Int) := by omega
      have hk0 : (0 : Int) ≤ (k : Int) := by omega
      obtain ⟨j1, j2⟩ := jump_next hx hxo hut (HLE.out x hxm)
      obtain ⟨q1, q2⟩ := HJ.out k
      have HLN : Hid (k < (nxH l t u k).length) := by show _ < _; rw [nxH_len, HL.out]; exact hlt
      have hc0 := hxo.c0; have hc1 := hxo.c1; have hd2 := hxo.d2; have hd1 := hxo.d1; have ht2 := hxo.t2
      by_cases he : nxtD x u = t
      · have hb : (t == t) = true := by simp
        have e2 := (step_eq hxo he).2
        have HS : Hid ((nxH l t u k).set k (t + x.t) = nxH l t u (k + 1)) := by rw [← e2]; exact nxH_set hx
        have HN := Lib.hid (j1 he)
        rw [he] at r0
        obtain ⟨s, hs⟩ : ∃ s, dueN l t k - dueN l u k = s := ⟨_, rfl⟩
        rw [hs] at q1 q2 HN ⊢
        have e3 : IntKind.i64.wrap (s + x.c) = s + x.c := IntWalk.i64_in _ (by omega)
        have e4 : IntKind.i64.wrap (t + x.t) = t + x.t := IntWalk.i64_in _ (by omega)
        obtain ⟨tx, htx⟩ : ∃ tx, t + x.t = tx := ⟨_, rfl⟩
        rw [htx] at e4 HS
        clear hx hxm hxo j1 j2 q1 q2 hc0 hc1 hd2 hd1 ht2 he e2 hs
        go_upto_region 5 with fail
        refine gen_world (fun v => PassAt w g cg (nxH l t u k) v ∧ v.cell? ⟨wr.heap.size, 0, none⟩ = some (.int .i64 x.c) ∧ v.cell? ⟨wr.heap.size, 2, none⟩ = some (.int .i64 x.t) ∧ v.cell? ⟨g, k, none⟩ = some (.int .i64 t)) ⟨HP.out.below (by repeat (first | exact Below.refl _ _ | (with_reducible assumption) | refine bw_alloc ?_ _ | refine bw_drew ?_)), by rw [World.cell?_alloc_new]; rfl, by rw [World.cell?_alloc_new]; rfl, kept_cell (show Below wr.heap.size wr _ from (by repeat (first | exact Below.refl _ _ | (with_reducible assumption) | refine bw_alloc ?_ _ | refine bw_drew ?_))) r0⟩ ?_
        intro V ⟨hpv, y0, y2, y3⟩
        have HPV := Lib.hid hpv
        have rf := hpv.row.free k
        generalize wr.heap.size = gx at y0 y2 ⊢
        clear hpv r0 c0 c1 c2 HP
        go_upto_region 7 with fail
        go_still_tail 7, (by kernel_rfl)
        go_wp2
        go_roundw
        case rel => exact ⟨k + 1, by omega, by go_num, by rw [HN.out], by rw [← HS.out]; exact Lib.hid ((HPV.out.below (below_drewN (Below.refl _ _) _)).set HLN.out _)⟩
        case measure => simp [intOf]; omega
      · have hb : (nxtD x u == t) = false := by rw [beq_eq_false_iff_ne]; exact he
        have e2 := (step_ne hxo hut (by have := HLE.out x hxm; omega)).2
        have HS : Hid (nxH l t u k = nxH l t u (k + 1)) := nxH_same hx e2
        have HN := Lib.hid (j2 he)
        obtain ⟨s, hs⟩ : ∃ s, dueN l t k - dueN l u k = s := ⟨_, rfl⟩
        rw [hs] at HN ⊢
        clear hx hxm hxo j1 j2 q1 q2 hc0 hc1 hd2 hd1 ht2 he e2 hs
        generalize nxtD x u = q at *
        go_upto_region 5 with fail
        refine gen_world (fun v => PassAt w g cg (nxH l t u k) v ∧ v.cell? ⟨g, k, none⟩ = some (.int .i64 q)) ⟨HP.out.below (by repeat (first | exact Below.refl _ _ | (with_reducible assumption) | refine bw_alloc ?_ _ | refine bw_drew ?_)), kept_cell (show Below wr.heap.size wr _ from (by repeat (first | exact Below.refl _ _ | (with_reducible assumption) | refine bw_alloc ?_ _ | refine bw_drew ?_))) r0⟩ ?_
        intro V ⟨hpv, y3⟩
        have HPV := Lib.hid hpv
        generalize wr.heap.size = gx
        clear hpv r0 c0 c1 c2 HP
        go_wp2
        go_roundw
        case rel => exact ⟨k + 1, by omega, by go_num, by rw [HN.out], by rw [← HS.out]; exact Lib.hid (HPV.out.below (by repeat (first | exact Below.refl _ _ | (with_reducible assumption) | refine bw_alloc ?_ _ | refine bw_drew ?_)))⟩
        case measure => simp [intOf]; omega
    · obtain rfl : k = n := by omega
      have HE : Hid (dueN l t k - dueN l u k = res) := by rw [← HRES.out]; unfold dueA; rw [HL.out]; rfl
      have HR : Hid (PassAt w g cg (nxR l t) wr) := by have := HP.out; rw [nxH_end HL.out] at this; exact this
      generalize dueN l t k - dueN l u k = s at *
      go_wp2
      go_ret
      exact ⟨by rw [← HE.out]; rfl, HR.out⟩
end Go.Proofs.Ytbliagfmpcmfdaa

/-
  A range over a function that keeps a state of its own between two rounds.
-/
namespace Go.Proofs.Ytbliagfmpcmfdaa
open Go.RowKit Go.Maps

/-- How a round ends. -/
def RoundEnds {α : Type} (B : Nat) (Kp : World → World → Prop) (I Ix : List α → World → Prop) (xs : List α) (W : World) : Exit → Act → World → Prop
  | .normal, _, W' => KeepsFrom B W W' ∧ Kp W W' ∧ I xs W'
  | .ret, _, W' => KeepsFrom B W W' ∧ Ix xs W'
  | _, _, _ => False
/-- What tells one after another, and steps by St between two of them. -/
def Tells {α : Type} (n : Nat) (P : Program) (gf : Nat) (lb : Array Value) (encs : α → Array Value) (Kp St : World → World → Prop) (S Sp : List α → Prop) (N : Nat) (w : World) : Prop :=
  ∀ (l : Nat) (J Jx : List α → World → Prop) (W : World), Below w.heap.size w W → (∀ s X Y, J s X → St X Y → J s Y) →
    (∀ pre x W1, J pre W1 → pre.length < N → YieldAt Fence.wide (n - 1) P l (encs x) W1 fun e W' => (e = .returned (.bool true) ∧ J (pre ++ [x]) W' ∧ Kp W1 W') ∨ (e = .returned (.bool false) ∧ Jx (pre ++ [x]) W')) →
    J [] W → CallsIn Fence.wide n P gf (#[.func (.yield l) #[] #[]] ++ lb) W fun e W' => (∃ v, e = .returned v) ∧ ((∃ xs, S xs ∧ J xs W') ∨ ∃ pre, Sp pre ∧ Jx pre W')

theorem range_tells {α : Type} {n : Nat} {P : Program} {g : Operand} {ps : Array Tmp} {assign body : Code} {Q : Exit → Act → World → Prop} {a : Act} {w : World} (h1 : 1 ≤ n) {gf : Nat} {lb : Array Value}
    (hg : a.eval g = .func (.func gf) #[] lb) (eg : ∀ args w, (callFunc gf args).run P w = .ok (.enter gf args) w) {encs : α → Array Value} {Kp St : World → World → Prop} {S Sp : List α → Prop} {N : Nat}
    (hseq : Tells (n - 1) P gf lb encs Kp St S Sp N w) (hKt : ∀ {A B C : World}, Kp A B → Kp B C → Kp A C)
    (hKb : ∀ (W : World) (l : Nat) (o o' : Obj), w.heap.size ≤ l → W.heap[l]? = some o → o.isCells = false → o.isWalk = false → Kp W (W.putObj l o'))
    (hSt : ∀ X Y, St X Y → KeepsFrom w.heap.size X Y) (hps : ∀ x, (encs x).size = ps.size)
    (I Ix : List α → World → Prop) (hI : OwnFrom w.heap.size I) (hIs : ∀ s X Y, I s X → St X Y → I s Y) (hIx : OwnFrom w.heap.size Ix) (h0 : I [] w) (a₁ : α → Act)
    (hassign : ∀ (l : Nat) (x : α) (W : World) (K : Act → World → Prop), K (a₁ x) W →
      assign.wpIn (Fence.wide.inRound l) (n - 1 - 1) P (Exit.then K (fun _ _ _ => False)) { tmps := (ps.zip (encs x)).foldl (fun t (p, v) => t.setIfInBounds p v) a.tmps, defers := [] } W)
    (hbody : ∀ (l : Nat) (pre : List α) (x : α) (W : World), I pre W → pre.length < N → body.wpIn (Fence.wide.inRound l) (n - 1 - 1) P (RoundEnds w.heap.size Kp I Ix (pre ++ [x]) W) (a₁ x) W)
    (hdone : ∀ (D : Nat) (xs : List α) (W : World), w.heap.size ≤ D → S xs → I xs W → W.heap[D]? = some (.deferred (some [])) → Q .normal { a with defers := { target := .collected D, args := #[] } :: a.defers } W)
    (hstop : ∀ (D : Nat) (pre : List α) (W : World), w.heap.size ≤ D → Sp pre → Ix pre W → W.heap[D]? = some (.deferred (some [])) → Code.ret.wpIn Fence.wide n P Q { a with defers := { target := .collected D, args := #[] } :: a.defers } W) :
    (Code.rangeFunc g ps assign body).wpIn Fence.wide n P Q a w := by
  refine wpIn_rangeFunc fun fn hfn => ?_
  -- the loop's record lies in block L, what its rounds defer in block D
  generalize hD : w.heap.size = D at *
  obtain ⟨rc, hrc⟩ : ∃ rc : LoopState → Option Code → Loop, (fun st pe => { state := st, pending := pe, fn, tmps := a.tmps, params := ps, assign, body, defers := D }) = rc := ⟨_, rfl⟩
  have rps : ∀ st pe, (rc st pe).params = ps := fun st pe => by rw [← hrc]
  obtain ⟨W1, hW1⟩ : ∃ W1, (w.alloc (.deferred (some []))).alloc (.loop (rc .ready none)) = W1 := ⟨_, rfl⟩
  have lay1 : W1.heap[D + 1]? = some (.loop (rc .ready none)) ∧ W1.heap[D]? = some (.deferred (some [])) := by
    rw [← hW1]
    constructor
    · have := World.alloc_heap_new (w.alloc (.deferred (some []))) (.loop (rc .ready none))
      rwa [World.size_alloc, hD] at this
    · rw [Below.heap_alloc _ _ _ (by simp; omega)]
      have := World.alloc_heap_new w (.deferred (some []))
      rwa [hD] at this
  have hb1 : Below w.heap.size w W1 := by rw [← hW1]; exact bw_alloc (bw_alloc (Below.refl _ _) _) _
  have hI1 : I [] W1 := by rw [← hW1]; exact hI.alloc _ (hI.alloc _ h0)
  refine ⟨D + 1, [{ target := .collected D, args := #[] }], W1, { target := .fn (.func gf) lb, args := #[.func (.yield (D + 1)) #[] #[]] }, W1, gf, #[.func (.yield (D + 1)) #[] #[]] ++ lb, W1, ?_, ?_, fun _ _ => trivial, ?_, fun _ => h1, ?_⟩
  · have := run_enterLoop_outer (P := P) (w := w) fn a.tmps ps assign body
    rw [hD] at this
    rw [← hW1, ← hrc]; exact this
  · simp only [resolve, hg]
    simp [go_sem]
  · simp [invoke, go_sem, eg]
  refine (hseq (D + 1)
    (fun pre W => I pre W ∧ W.heap[D + 1]? = some (.loop (rc .ready none)) ∧ W.heap[D]? = some (.deferred (some [])))
    (fun pre W => Ix pre W ∧ W.heap[D + 1]? = some (.loop (rc .done (some .ret))) ∧ W.heap[D]? = some (.deferred (some []))) W1 hb1
    (fun s X Y h hxy => ⟨hIs s X Y h.1 hxy, (hSt X Y hxy).same _ _ (by omega) h.2.1 rfl, (hSt X Y hxy).same _ _ (Nat.le_refl _) h.2.2 rfl⟩) ?_ ⟨hI1, lay1.1, lay1.2⟩).mono ?_
  · -- a round
    rintro pre x W ⟨hi, hl, hk⟩ hlen
    have hlt : D + 1 < W.heap.size := lt_of_block hl
    have hy := run_yield (P := P) (args := encs x) hl (by rw [rps]; exact hps x)
    have hbusy : (W.putObj (D + 1) (.loop { rc .ready none with state := .busy })).heap[D + 1]? = some (.loop { rc .ready none with state := .busy }) := World.putObj_heap_same hlt
    have hdef : (W.putObj (D + 1) (.loop { rc .ready none with state := .busy })).heap[D]? = some (.deferred (some [])) := (World.putObj_heap_other (by omega)).trans hk
    have hk0 : Kp W (W.putObj (D + 1) (.loop { rc .ready none with state := .busy })) := hKb _ _ _ _ (by omega) hl rfl rfl
    have hend : ∀ (jump : Option Code) (W3 : World), KeepsFrom D (W.putObj (D + 1) (.loop { rc .ready none with state := .busy })) W3 → W3.heap[D + 1]? = some (.loop { rc .ready none with state := .busy }) ∧
        (Instr.endRound (D + 1) jump).run P W3 = .ok (.bool jump.isNone) (W3.putObj (D + 1) (.loop (rc (if jump.isNone then .ready else .done) jump))) ∧
        (W3.putObj (D + 1) (.loop (rc (if jump.isNone then .ready else .done) jump))).heap[D + 1]? = some (.loop (rc (if jump.isNone then .ready else .done) jump)) ∧
        (W3.putObj (D + 1) (.loop (rc (if jump.isNone then .ready else .done) jump))).heap[D]? = some (.deferred (some [])) := fun jump W3 h3 => by
      have q := h3.same _ _ (by omega) hbusy rfl
      have r := run_endRound (P := P) jump q
      rw [← hrc] at r
      refine ⟨q, ?_, World.putObj_heap_same (lt_of_block q), (World.putObj_heap_other (by omega)).trans (h3.same _ _ (Nat.le_refl _) hdef rfl)⟩
      rw [← hrc]; exact r
    rw [← hrc] at hy
    refine ⟨fn, _, assign, body, hy, roundIn_of_wpIn hfn (hassign _ x W _ ⟨_, run_beginRound hl (by rw [← hrc]), ?_⟩)⟩
    refine wpIn_mono (hbody _ pre x _ (hI.putObj _ hi (by omega) hl rfl) hlen) ?_
    intro e a3 W3 hp
    cases e with
    | normal =>
      obtain ⟨p1, p2, p3⟩ := hp
      obtain ⟨q, r, r1, r2⟩ := hend none W3 p1
      exact ⟨_, _, r, .inl ⟨rfl, ⟨hI.putObj _ p3 (by omega) q rfl, r1, r2⟩, hKt (hKt hk0 p2) (hKb _ _ _ _ (by omega) q rfl rfl)⟩⟩
    | ret =>
      obtain ⟨p1, p2⟩ := hp
      obtain ⟨q, r, r1, r2⟩ := hend (some .ret) W3 p1
      exact ⟨_, _, r, .inr ⟨rfl, hIx.putObj _ p2 (by omega) q rfl, r1, r2⟩⟩
    | exit _ => exact hp.elim
    | goto _ => exact hp.elim
    | panic _ => exact hp.elim
    | outgrown => exact hp.elim
  · -- behind the last one
    rintro e W2 ⟨⟨v, rfl⟩, (⟨xs, hS, hi, hl, hk⟩ | ⟨pre, hSp, hi, hl, hk⟩)⟩
    · have r := run_endLoop (P := P) hl (by rw [← hrc]; simp)
      rw [← hrc] at r hl
      exact ⟨none, _, r, hdone _ xs _ (Nat.le_refl _) hS (hI.putObj _ hi (by omega) hl rfl) ((World.putObj_heap_other (by omega)).trans hk)⟩
    · have r := run_endLoop (P := P) hl (by rw [← hrc]; simp)
      rw [← hrc] at r hl
      exact ⟨some .ret, _, r, hstop _ pre _ (Nat.le_refl _) hSp (hIx.putObj _ hi (by omega) hl rfl) ((World.putObj_heap_other (by omega)).trans hk)⟩
end Go.Proofs.Ytbliagfmpcmfdaa

/-
  The walk over what tells deadlines one by one.
-/
namespace Go.Proofs.Ytbliagfmpcmfdaa
open Go.RowKit Go.Maps Go.Shelf
attribute [local go_sem] Oper.semAt_some

theorem numL11 : IsNum 79 2 := num_of Try.underlying79 (by kernel_rfl)
theorem infoL11 : (Try.prog.info? 2).map (fun i => (i.zero, i.size, i.bytes)) = some (some (.int .i64 0), 1, 8) := by kernel_rfl
theorem make_l (c : Nat) (hc : c ≤ 2000000000) (w : World) : (Instr.makeSlice 79 (.int .i64 0) (.int .i64 (c : Int))).run Try.prog w = .ok (.slice (some ⟨w.heap.size, 0, none⟩) 0 c) (w.alloc (.cells (madeCells #[.int .i64 0] c) 2)) := by
  obtain ⟨i0, hi, hz0, hz1, hz2⟩ := uparts infoL11
  have h := run_make w 79 2 i0 (.int .i64 0) Try.underlying79 hi hz0 .i64 .i64 0 c (by omega) (by omega) (by rw [hz2]; omega) (by omega)
  rw [hz1] at h
  simpa [Value.cells] using h
theorem ownL_made (w : World) (cap : Nat) (hc : cap ≤ 2000000000) (T : TypeId) : OwnI (w.alloc (.cells (madeCells #[.int .i64 0] cap) T)) T w.heap.size (.slice (some ⟨w.heap.size, 0, none⟩) 0 cap) [] :=
  World.ownsRow_made (e := T) (size := 1) (base := w.heap.size) (w := w) (madeCells #[.int .i64 0] cap) cap (by simp) (by unfold maxLen; omega) (by rw [size_madeCells]; omega)

/-- What a round keeps: all blocks of cells but some. -/
def KpN (N : Nat → Prop) (X Y : World) : Prop := (∀ k cs T fr, ¬ N k → X.heap[k]? = some (.cells cs T fr) → Y.heap[k]? = some (.cells cs T fr)) ∧ X.heap.size ≤ Y.heap.size
theorem kpN_t {N : Nat → Prop} {A B C : World} (h : KpN N A B) (k : KpN N B C) : KpN N A C := ⟨fun i cs T fr q z => k.1 i cs T fr q (h.1 i cs T fr q z), Nat.le_trans h.2 k.2⟩
theorem kpN_b {N : Nat → Prop} {B : Nat} (W : World) (l : Nat) (o o' : Obj) (_ : B ≤ l) (h : W.heap[l]? = some o) (hc : o.isCells = false) (_ : o.isWalk = false) : KpN N W (W.putObj l o') := by
  refine ⟨fun k cs T fr _ z => ?_, by simp [World.putObj]⟩
  by_cases e : k = l
  · subst e
    rw [z] at h
    cases h
    cases hc
  · exact (World.putObj_heap_other e).trans z
/-- A step of what tells. -/
def StD (D : Nat) (X Y : World) : Prop := Below D X Y ∧ KeepsFrom D X Y
theorem stD_below {D : Nat} {X Y : World} (hD : D ≤ X.heap.size) (h : Below X.heap.size X Y) : StD D X Y := ⟨h.mono hD, ⟨h.size, fun k o _ hk _ => kept_obj h hk⟩⟩
theorem stD_t {D : Nat} {X Y Z : World} (h : StD D X Y) (k : StD D Y Z) : StD D X Z := ⟨h.1.trans k.1, h.2.trans k.2⟩
theorem stD_pass {D g c : Nat} {X Y : World} {row row' : List Int} (hD : D ≤ g) (hr : RowI X g c row) (h : PassAt X g c row' Y) : StD D X Y := by
  have hlt := hr.lt
  refine ⟨h.turn.below (by omega) (fun i e => by omega), h.turn.size, fun k o _ hk hc => ?_⟩
  by_cases e : k = g
  · subst e
    obtain ⟨cur, h1, _⟩ := hr.blk
    rw [h1] at hk
    cases hk
    cases hc
  · exact h.turn.obj hk e
theorem RowI.kp {N : Nat → Prop} {X Y : World} {g c : Nat} {row : List Int} (h : RowI X g c row) (hk : KpN N X Y) (hn : ¬ N g) : RowI Y g c row := h.obj fun cs T fr z => hk.1 g cs T fr hn z
theorem cell_block {w : World} {b o : Nat} {v : Value} (h : w.cell? ⟨b, o, none⟩ = some v) : ∃ cs T fr, w.heap[b]? = some (.cells cs T fr) := by
  unfold World.cell? at h
  cases e : w.heap[b]? with
  | none => rw [e] at h; cases h
  | some ob =>
    rw [e] at h
    cases ob with
    | cells cs T fr => exact ⟨cs, T, fr, rfl⟩
    | _ => simp at h
theorem GView.kp {N : Nat → Prop} {X Y : World} {a : Option Addr} {l : List Dm} (h : GView X a l) (hk : KpN N X Y) (hn : ∀ b o i, a = some ⟨b, o, i⟩ → ¬ N b) : GView Y a l := by
  rcases h with rfl | ⟨b, o, rfl, hc⟩
  · exact .inl rfl
  · refine .inr ⟨b, o, rfl, fun j u hj => ?_⟩
    have hh := hc j u hj
    obtain ⟨cs, T, fr, e⟩ := cell_block hh
    rw [blk_cell (hk.1 b cs T fr (hn b o none rfl) e)]
    rw [blk_cell e] at hh; exact hh

/-- What it reads: its three boxes, the demands. -/
structure ItC (W : World) (D Bl Bf Bt : Nat) (N : Nat → Prop) (a : Option Addr) (m c : Nat) (L : List Dm) (fr tt : Int) : Prop where
  bl : W.heap[Bl]? = some (.cells #[.slice a m c] 23 (0, 0))
  bf : W.heap[Bf]? = some (.cells #[.int .i64 fr] 2 (0, 0))
  bt : W.heap[Bt]? = some (.cells #[.int .i64 tt] 2 (0, 0))
  nl : ¬ N Bl ∧ Bl < D
  nf : ¬ N Bf ∧ Bf < D
  nt : ¬ N Bt ∧ Bt < D
  view : GView W a L
  off : 0 < m → ∀ b o i, a = some ⟨b, o, i⟩ → ¬ N b ∧ b < D
theorem ItC.below {W W' : World} {D Bl Bf Bt : Nat} {N : Nat → Prop} {a : Option Addr} {m c : Nat} {L : List Dm} {fr tt : Int} (h : ItC W D Bl Bf Bt N a m c L fr tt) (hb : Below W.heap.size W W') : ItC W' D Bl Bf Bt N a m c L fr tt :=
  ⟨kept_obj hb h.bl, kept_obj hb h.bf, kept_obj hb h.bt, h.nl, h.nf, h.nt, h.view.below hb, h.off⟩
theorem ItC.kp {W W' : World} {D Bl Bf Bt : Nat} {N : Nat → Prop} {a : Option Addr} {m c : Nat} {L : List Dm} {fr tt : Int} (h : ItC W D Bl Bf Bt N a m c L fr tt) (hm : 0 < m) (hk : KpN N W W') : ItC W' D Bl Bf Bt N a m c L fr tt :=
  ⟨hk.1 _ _ _ _ h.nl.1 h.bl, hk.1 _ _ _ _ h.nf.1 h.bf, hk.1 _ _ _ _ h.nt.1 h.bt, h.nl, h.nf, h.nt, h.view.kp hk (fun b o i e => (h.off hm b o i e).1), h.off⟩
theorem ItC.turn {W W' : World} {D Bl Bf Bt g : Nat} {N : Nat → Prop} {a : Option Addr} {m c : Nat} {L : List Dm} {fr tt : Int} (h : ItC W D Bl Bf Bt N a m c L fr tt) (hm : 0 < m) (hg : D ≤ g) (ht : Turn (fun k => k = g) W W') : ItC W' D Bl Bf Bt N a m c L fr tt :=
  ⟨ht.obj h.bl (by have := h.nl.2; omega), ht.obj h.bf (by have := h.nf.2; omega), ht.obj h.bt (by have := h.nt.2; omega), h.nl, h.nf, h.nt, h.view.turn ht (fun b o i e => by have := (h.off hm b o i e).2; omega), h.off⟩
theorem ItC.low {W W' : World} {D Bl Bf Bt : Nat} {N : Nat → Prop} {a : Option Addr} {m c : Nat} {L : List Dm} {fr tt : Int} (h : ItC W D Bl Bf Bt N a m c L fr tt) (hm : 0 < m) (hb : Below D W W') : ItC W' D Bl Bf Bt N a m c L fr tt := by
  refine ⟨kept_objB hb h.nl.2 h.bl, kept_objB hb h.nf.2 h.bf, kept_objB hb h.nt.2 h.bt, h.nl, h.nf, h.nt, ?_, h.off⟩
  rcases h.view with hv | ⟨b, o, rfl, hc⟩
  · exact .inl hv
  · refine .inr ⟨b, o, rfl, fun j u hj => ?_⟩
    have hlt := (h.off hm b o none rfl).2
    rw [hb.cell (p := ⟨b, o + j, none⟩) hlt]; exact hc j u hj
theorem own_cells {w : World} {e : TypeId} {B k : Nat} {v : Value} {row : List Int} (h : OwnI w e B v row) (hk : v.ownBlock = some k) : ∃ cs T fr, w.heap[k]? = some (.cells cs T fr) := by
  rcases h.2 with ⟨rfl, _⟩ | ⟨g, cap, cur, rfl, _, h3, _⟩
  · cases hk
  · cases hk; exact ⟨_, _, _, h3⟩
theorem stD_grow {D B : Nat} {X Y Z : World} {e : TypeId} {v : Value} {row : List Int} (hDB : D ≤ B) (ho : OwnI X e B v row) (hBX : B ≤ X.heap.size) (hb : Below X.heap.size X Y) (hg : Y.grownBy Z v.ownBlock) : StD D X Z := by
  refine ⟨(hb.mono (Nat.le_trans hDB hBX)).grown hg (Nat.le_trans (Nat.le_trans hDB hBX) hb.size) (fun q hq => Nat.le_trans hDB (ho.new hq).1), Nat.le_trans hb.size hg.size, fun k o _ hk hc => ?_⟩
  have hk2 := kept_obj hb hk
  refine (hg.block k (lt_of_block hk2) (fun z => ?_)).trans hk2
  obtain ⟨cs, T, fr, h3⟩ := own_cells ho z.symm
  rw [h3] at hk
  cases hk
  cases hc
theorem pnone_len {a : Option Addr} {m c : Nat} {w : World} {B : Nat} {row : List Int} (h : OwnI w 2 B (.slice a m c) row) : row.length = m := by
  obtain ⟨_, _, e, _⟩ := h.slice
  exact (Value.slice.inj e).2.1.symm
/-- How far it is to the end. -/
def far (fr tt : Int) : Value → Nat
  | .int _ t => (tt - t).toNat
  | _ => (tt - fr + 1).toNat
theorem pmin_fn : Fence.wide.fn 52 := trivial
theorem ppass_fn : Fence.wide.fn 53 := trivial
/-- What is told. -/
def DlX (x : Int × Int) : Prop := 0 ≤ x.1 ∧ x.1 ≤ 2199023255552 ∧ 0 ≤ x.2 ∧ x.2 ≤ 70368744177664
/-- One answer or the other one. -/
theorem told_or {e : Ending} {A B : Prop} (h : (e = .returned (.bool true) ∧ A) ∨ (e = .returned (.bool false) ∧ B)) : ∃ q, e = .returned (.bool q) ∧ Hid ((q = true → A) ∧ (q = false → B)) := by
  rcases h with ⟨h, a⟩ | ⟨h, b⟩
  · exact ⟨true, h, fun _ => a, fun q => by cases q⟩
  · exact ⟨false, h, fun q => by (cases q), fun _ => b⟩

set_option maxRecDepth 100000 in
set_option maxHeartbeats 8000000 in
theorem deadlines1_in (n : Nat) (hn : 1 ≤ n) (y : Nat) (L : List Dm) (m c : Nat) (hL : L.length = m) (hm : m ≤ 64) (hok : ∀ x ∈ L, x.ok) (fr tt : Int) (hfr : timeOk fr) (htt : timeOk tt) (hft : tt - fr ≤ 1048576) (a : Option Addr) (Bl Bf Bt D : Nat) (N : Nat → Prop) (hN : ∀ k, D ≤ k → ¬ N k)
    (J Jx : List (Int × Int) → World → Prop) (W : World) (hD : D ≤ W.heap.size) (hJ : ∀ q X Y, J q X → StD D X Y → J q Y)
    (hY : ∀ pre x W1, DlX x → J pre W1 → pre.length < 2000000 → YieldAt Fence.wide (n - 1) Try.prog y #[.int .i64 x.1, .int .i64 x.2] W1 fun e W' =>
      (e = .returned (.bool true) ∧ J (pre ++ [x]) W' ∧ KpN N W1 W') ∨ (e = .returned (.bool false) ∧ Jx (pre ++ [x]) W'))
    (hC : ItC W D Bl Bf Bt N a m c L fr tt) (h0 : J [] W) :
    CallsIn Fence.wide n Try.prog 51 #[.func (.yield y) #[] #[], .pointer (some ⟨Bl, 0, none⟩), .pointer (some ⟨Bf, 0, none⟩), .pointer (some ⟨Bt, 0, none⟩)] W fun e W' => (∃ v, e = .returned v) ∧
      ((∃ ys, (∃ u, Chain L fr tt ys u ∧ ∀ t, nextA L u = some t → tt ≤ t) ∧ J ys W') ∨ (∃ pre, (∃ u, Chain L fr tt pre u) ∧ Jx pre W')) := by
  have HY := Lib.hid hY
  have HJ := Lib.hid hJ
  have HN := Lib.hid hN
  have HC := Lib.hid hC
  have HOK := Lib.hid hok
  have HL := Lib.hid hL
  have HD := Lib.hid hD
  have HNN1 := Lib.hid hn
  have HT := Lib.hid (And.intro hfr (And.intro htt hft))
  have H0 : Hid (J [] W) := h0
  have k0 : W.cell? ⟨Bl, 0, none⟩ = some (.slice a m c) := by rw [blk_cell hC.bl]; rfl
  have MK := make_l m (by omega)
  have hOM : Hid (∀ (w : World) (T : TypeId), OwnI (w.alloc (.cells (madeCells #[.int .i64 0] m) T)) T w.heap.size (.slice (some ⟨w.heap.size, 0, none⟩) 0 m) []) := fun w T => ownL_made w m (by omega) T
  clear hY hJ hN hC hok hL hD hfr htt hft h0 hn
  refine callsIn_of_wp Try.func51 rfl trivial ?_ rfl
  simp only [Try.ntmps51, List.size_toArray, List.length_cons, List.length_nil, Nat.reduceAdd, Nat.reduceSub, Array.replicate_succ, Array.replicate_zero, List.push_toArray, List.append_toArray, List.nil_append, List.cons_append]
  refine wpIn_wide.2 ?_
  go_upto_region 1 with fail
  have HO1 := Lib.hid (hOM.out W 2)
  obtain ⟨V, hV⟩ : ∃ V, W.alloc (.cells (madeCells #[.int .i64 0] m) 2) = V := ⟨_, rfl⟩
  have HBV : Hid (Below W.heap.size W V) := by rw [← hV]; exact bw_alloc (Below.refl _ _) _
  rw [hV] at HO1 ⊢
  have HCV := Lib.hid (HC.out.below HBV.out)
  have HJV := Lib.hid (HJ.out _ _ _ H0.out (stD_below HD.out HBV.out))
  have HSV : Hid (W.heap.size ≤ V.heap.size) := HBV.out.size
  have k1 : V.cell? ⟨Bl, 0, none⟩ = some (.slice a m c) := by rw [blk_cell HCV.out.bl]; rfl
  clear hV k0 MK hOM H0 HBV HC
  generalize W.heap.size = B at *
  go_upto_block 0 with fail
  go_cut [5] (fun u wx => ∃ (a' : Option Addr) (c' : Nat), u = .slice a' m c' ∧ Hid (OwnI wx 2 B (.slice a' m c') (nxR L (fr - 1))) ∧ Hid (ItC wx D Bl Bf Bt N a m c L fr tt) ∧ Hid (J [] wx))
  case first =>
    go_wp2
    go_loopw [5, 14] (fun g u wr => ∃ (k : Nat) (a' : Option Addr) (c' : Nat), k ≤ m ∧ u = .int .i64 k ∧ g = .slice a' k c' ∧ Hid (OwnI wr 2 B (.slice a' k c') ((nxR L (fr - 1)).take k)) ∧ Hid (Below B V wr) ∧ Hid (ItC wr D Bl Bf Bt N a m c L fr tt) ∧ Hid (J [] wr)) (fun _ u _ => (m - intOf u).toNat)
    case atStart => exact ⟨0, _, _, Nat.zero_le _, rfl, rfl, HO1, Below.refl _ _, HCV, HJV⟩
    case round =>
      obtain ⟨k, a', c', hk, rfl, rfl, HO, HB, HCr, HJr⟩ := hrel
      clear HO1 HCV HJV k1
      by_cases hlt : k < m
      · obtain ⟨x, hx⟩ := nth_of HL.out hlt
        obtain ⟨g, o, rfl, ⟨c0, c1, c2⟩⟩ := HCr.out.view.at_ hx
        have hk1 : (k : Int) < (m : Int) := by omega
        have hk0 : (0 : Int) ≤ (k : Int) := by omega
        have hxo := HOK.out x (List.mem_of_getElem? hx)
        have AC := Lib.hid (fun v => pafter_any x hxo (fr - 1) (by have := HT.out.1.1; omega) (by have := HT.out.1.2; omega) v)
        have ef : IntKind.i64.wrap (fr - 1) = fr - 1 := IntWalk.i64_in _ (by have := HT.out.1.1; have := HT.out.1.2; omega)
        have HX : Hid ((nxR L (fr - 1)).take (k + 1) = (nxR L (fr - 1)).take k ++ [nxtD x (fr - 1)]) := nxR_next hx
        have HLN : Hid (((nxR L (fr - 1)).take k).length = k) := by show _ = _; rw [List.length_take, nxR_len]; have := HL.out; omega
        have HSM : Hid (((((nxR L (fr - 1)).take k).length + 1 : Nat) : Int) ≤ 17592186044416) := by show _ ≤ _; rw [HLN.out]; omega
        have HNN : Hid (((nxR L (fr - 1)).take k).length + 1 = k + 1) := by show _ = _; rw [HLN.out]
        have HSZ : Hid (B ≤ wr.heap.size) := Nat.le_trans HSV.out HB.out.size
        have HSX : Hid (D ≤ B) := HD.out
        have HM0 : Hid (0 < m) := by show 0 < m; omega
        generalize (nxR L (fr - 1)).take k = Q at *
        generalize nxtD x (fr - 1) = z at *
        clear hx hxo
        go_upto_region 4 with fail
        refine gen_world (fun v => Below wr.heap.size wr v ∧ v.cell? ⟨wr.heap.size, 0, none⟩ = some (.int .i64 x.c) ∧ v.cell? ⟨wr.heap.size, 1, none⟩ = some (.int .i64 x.d) ∧ v.cell? ⟨wr.heap.size, 2, none⟩ = some (.int .i64 x.t)) ⟨(by repeat (first | exact Below.refl _ _ | (with_reducible assumption) | refine bw_alloc ?_ _ | refine bw_drew ?_)), by rw [World.cell?_alloc_new]; rfl, by rw [World.cell?_alloc_new]; rfl, by rw [World.cell?_alloc_new]; rfl⟩ ?_
        intro v7 ⟨hb7, d0, d1, d2⟩
        have HB7 := Lib.hid hb7
        have HC7 := Lib.hid (HCr.out.below hb7)
        have k2 : v7.cell? ⟨Bf, 0, none⟩ = some (.int .i64 fr) := by rw [blk_cell HC7.out.bf]; rfl
        clear c0 c1 c2 hb7
        obtain ⟨gx, hgx⟩ : ∃ gx, wr.heap.size = gx := ⟨_, rfl⟩
        simp only [hgx] at d0 d1 d2 ⊢
        clear hgx
        go_wp2_with (first
          | (go_at_call 30; (with_reducible refine (AC.out _).mono ?_); rintro e w5 ⟨rfl, b5⟩; have HB5 := Lib.hid (below_up HB7.out b5); clear b5)
          | (at_builtin; refine wp_ints (m := 1) (l := [z]) numL11 rfl _ _ rfl rfl rfl ((HO.out.below HB5.out).below (by repeat (first | exact Below.refl _ _ | (with_reducible assumption) | refine bw_alloc ?_ _ | refine bw_drew ?_))) (Nat.le_trans (Nat.le_trans HSZ.out HB5.out.size) ((by repeat (first | exact Below.refl _ _ | (with_reducible assumption) | refine bw_alloc ?_ _ | refine bw_drew ?_)) : Below w5.heap.size w5 _).size) (ints_new w5 z _) rfl (by have := HSM.out; omega) (fun z => by cases z) (k + 1) HNN.out ?_; intro a6 c6 w6 o6 n6 l6; rw [← HX.out] at o6; have HO6 := Lib.hid o6; have HB6 : Hid (Below B V w6) := (HB.out.trans ((below_up HB5.out (by repeat (first | exact Below.refl _ _ | (with_reducible assumption) | refine bw_alloc ?_ _ | refine bw_drew ?_))).mono HSZ.out)).grown n6 (Nat.le_trans HSZ.out (below_up HB5.out (by repeat (first | exact Below.refl _ _ | (with_reducible assumption) | refine bw_alloc ?_ _ | refine bw_drew ?_))).size) (fun q hq => (OwnI.new (HO.out.below (below_up HB5.out (by repeat (first | exact Below.refl _ _ | (with_reducible assumption) | refine bw_alloc ?_ _ | refine bw_drew ?_)))) hq).1); have HST : Hid (StD D wr w6) := stD_grow HSX.out HO.out HSZ.out (below_up HB5.out (by repeat (first | exact Below.refl _ _ | (with_reducible assumption) | refine bw_alloc ?_ _ | refine bw_drew ?_))) n6; have HC6 := Lib.hid (HCr.out.low HM0.out HST.out.1); clear o6 n6 l6))
        have HJ6 := Lib.hid (HJ.out _ _ _ HJr.out HST.out)
        go_roundw
        case rel => exact ⟨k + 1, a6, c6, by omega, by go_num, rfl, HO6, HB6, HC6, HJ6⟩
        case measure => simp [intOf]; omega
      · obtain rfl : k = m := by omega
        have HE : Hid (OwnI wr 2 B (.slice a' k c') (nxR L (fr - 1))) := by
          have := HO.out
          rwa [List.take_of_length_le (by rw [nxR_len]; have := HL.out; omega)] at this
        clear HO HB
        go_wp2_with fail
        go_meet
        exact ⟨a', c', rfl, HE, HCr, HJr⟩
  case rest =>
    obtain ⟨a', c', rfl, HO, HCx, HJx⟩ := hcut
    clear HO1 HCV HJV k1
    go_upto_block 2 with fail
    refine (wpIn_wide (n := n)).1 ?_
    have hn := HNN1.out
    gi_wp2
    by_cases hm0 : m = 0
    · subst hm0
      have HLN : Hid (L = []) := List.length_eq_zero_iff.1 HL.out
      gi_loopw [] (fun wr => Hid (J [] wr)) (fun _ => 0)
      case atStart => exact HJx
      case round =>
        gi_wp2
        go_end0
        exact ⟨⟨_, rfl⟩, .inl ⟨[], ⟨fr - 1, .nil, fun t e => by rw [HLN.out] at e; cases e⟩, hrel.out⟩⟩
    · have hm1 : (0 : Int) < (m : Int) := by omega
      have hm2 : 0 < m := by omega
      have HM0 : Hid (0 < m) := by show 0 < m; omega
      obtain ⟨g, rfl, hBg, hrow, _⟩ := RowI.of_own HO.out HM0.out
      have HROW := Lib.hid hrow
      have HDg : Hid (D ≤ g) := Nat.le_trans HD.out hBg
      clear hm0 hrow hBg HO
      gi_loopw [8] (fun v wr => ∃ (pre : List (Int × Int)) (u : Int), Hid (Chain L fr tt pre u) ∧ Hid (far fr tt v = (tt - u).toNat) ∧ Hid (RowI wr g c' (nxR L u)) ∧ Hid (ItC wr D Bl Bf Bt N a m c L fr tt) ∧ Hid (J pre wr)) (fun v _ => far fr tt v)
      case atStart => exact ⟨[], fr - 1, .nil, by show (tt - fr + 1).toNat = _; congr 1; omega, HROW, HCx, HJx⟩
      case round =>
        obtain ⟨pre, u, HCH, HFAR, HR0, HCr, HJr⟩ := hrel
        clear HROW HCx HJx
        obtain ⟨t, ht⟩ := next_some_of HOK.out (u := u) (by rw [HL.out]; exact HM0.out)
        have HNX := Lib.hid ht
        have hlow := HCH.out.low HOK.out
        have hut := (next_some HOK.out ht).2.1
        obtain ⟨hmem, hle⟩ := nxR_least HOK.out ht
        have MC := Lib.hid (pmin_any (nxR L u) t hmem hle m (by rw [nxR_len, HL.out]) (by omega) _ c' wr HR0.out.ints)
        have k1 : wr.cell? ⟨Bt, 0, none⟩ = some (.int .i64 tt) := by rw [blk_cell HCr.out.bt]; rfl
        have k2 : wr.cell? ⟨Bl, 0, none⟩ = some (.slice a m c) := by rw [blk_cell HCr.out.bl]; rfl
        by_cases hq : tt ≤ t
        · have HE : Hid (∀ z, nextA L u = some z → tt ≤ z) := fun z hz => by rw [HNX.out] at hz; cases hz; exact hq
          clear hmem hle ht hlow hut
          gi_wp2_with ((with_reducible refine And.intro (a := Fence.wide.fn 52) pmin_fn ?_); gi_at_call 52; (refine (callsIn_wide.2 MC.out).mono ?_); rintro e w' ⟨rfl, rfl⟩)
          refine ⟨ppass_fn, ?_⟩
          gi_wp2
          refine ⟨fun _ h => (by cases h), ?_⟩
          gi_wp2
          refine bodyPost_ret (results_none rfl _ _ _) rfl ?_
          exact ⟨⟨_, rfl⟩, .inl ⟨pre, ⟨u, HCH.out, HE.out⟩, HJr.out⟩⟩
        · obtain ⟨M, hM⟩ : ∃ M, dueA L t - dueA L u = M := ⟨_, rfl⟩
          have PC := Lib.hid (ppass_any L m c HL.out hm HOK.out a u t (by omega) (by have := HT.out.1.1; omega) (by have := HT.out.2.1.2; omega) (nxR_le HOK.out ht) g c' wr HCr.out.view HR0.out (fun b o i e => by have := (HCr.out.off HM0.out b o i e).2; have := HDg.out; omega))
          have hj := due_jump HOK.out (show u ≤ t by omega) (nxR_le HOK.out ht) L.length
          have HDX : Hid (DlX (t, M)) := by
            refine ⟨by have := HT.out.1.1; show 0 ≤ t; omega, by have := HT.out.2.1.2; show t ≤ _; omega, ?_, ?_⟩
            · show 0 ≤ M; rw [← hM]; exact hj.1
            · show M ≤ _; rw [← hM]; have h1 := hj.2; have h2 := HL.out; unfold dueA; omega
          have HLEN : Hid (pre.length < 2000000) := by
                                                                                     have h1 := HT.out.2.2
                                                                                     show _ < _
                                                                                     rcases hlow.2.2 with z | ⟨_, z⟩
                                                                                     · omega
                                                                                     · rw [z]; decide
          have HCH2 : Hid (Chain L fr tt (pre ++ [(t, M)]) t) := by rw [← hM]; exact .snoc HCH.out ht (by omega)
          rw [hM] at PC
          have HME : Hid ((tt - t).toNat < (tt - u).toNat) := by show _ < _; omega
          have hq2 : decide (tt ≤ t) = false := decide_eq_false hq
          clear hmem hle ht hlow hut hM hj
          gi_wp2_with (first
            | ((with_reducible refine And.intro (a := Fence.wide.fn 52) pmin_fn ?_); gi_at_call 52; (refine (callsIn_wide.2 MC.out).mono ?_); rintro e w' ⟨rfl, rfl⟩)
            | ((with_reducible refine And.intro (a := Fence.wide.fn 53) ppass_fn ?_); gi_at_call 53; (refine (callsIn_wide.2 PC.out).mono ?_); rintro e w2 ⟨rfl, hp2⟩; have HP2 := Lib.hid hp2; clear hp2; obtain ⟨fn, tmps, assign, body, hy, hR⟩ := HY.out pre (t, M) w2 HDX.out (HJ.out _ _ _ HJr.out (stD_pass HDg.out HR0.out HP2.out)) HLEN.out; have HR := Lib.hid hR; clear hR; dsimp only at hy)
            | ((refine HR.out.mono ?_); rintro e W3 h3; obtain ⟨q, rfl, H3⟩ := told_or h3; clear h3))
          · have HX := Lib.hid (H3.out.2 (by first | (simpa using (by assumption : (!q) = true)) | (simpa using (by assumption : (!q) = false)) | (simpa using (by assumption : ¬ (!q) = true))))
            clear H3
            refine bodyPost_ret (results_none rfl _ _ _) rfl ?_
            exact ⟨⟨_, rfl⟩, .inr ⟨_, ⟨t, HCH2.out⟩, HX.out⟩⟩
          · have HX := Lib.hid (H3.out.1 (by first | (simpa using (by assumption : (!q) = true)) | (simpa using (by assumption : (!q) = false)) | (simpa using (by assumption : ¬ (!q) = true))))
            clear H3
            go_roundw
            case rel =>
              have h2 := HCr.out.turn HM0.out HDg.out HP2.out.turn
              exact ⟨pre ++ [(t, M)], t, HCH2, Lib.hid rfl, HP2.out.row.kp HX.out.2 (HN.out _ HDg.out), h2.kp HM0.out HX.out.2, HX.out.1⟩
            case measure => rw [HFAR.out]; exact HME.out
end Go.Proofs.Ytbliagfmpcmfdaa

/-
  The walk over the program's slack.
-/
namespace Go.Proofs.Ytbliagfmpcmfdaa
open Go.RowKit Go.Maps Go.Shelf
attribute [local go_sem] Oper.semAt_some

abbrev rowsT : TypeId := 23
set_option maxRecDepth 100000 in
theorem pdeadlines_any (a : Option Addr) (n c : Nat) (fr tt : Int) (w : World) : Calls Try.prog 36 #[.slice a n c, .int .i64 fr, .int .i64 tt] w fun e w' =>
    e = .returned (.func (.func 51) #[] #[.pointer (some ⟨w.heap.size, 0, none⟩), .pointer (some ⟨w.heap.size + 1, 0, none⟩), .pointer (some ⟨w.heap.size + 2, 0, none⟩)]) ∧
      w' = ((w.alloc (.cells #[.slice a n c] 23)).alloc (.cells #[.int .i64 fr] 2)).alloc (.cells #[.int .i64 tt] 2) := by
  have hmf : ∀ (fn : Fn) (first cap : Array Value) (w : World), (Instr.makeFunc fn first cap).run Try.prog w = .ok (.func fn first cap) w := fun _ _ _ _ => rfl
  go_enter Try.func36, Try.ntmps36
  go_wp2
  go_ret
  exact ⟨rfl, rfl⟩

/-- A box of one number or one truth. -/
def Bx (W : World) (b : Nat) (T : TypeId) (v : Value) : Prop := W.heap[b]? = some (.cells #[v] T (0, 0))
theorem Bx.cell {W : World} {b : Nat} {T : TypeId} {v : Value} (h : Bx W b T v) : W.cell? ⟨b, 0, none⟩ = some v := by rw [blk_cell h]; rfl
theorem Bx.free {W : World} {b : Nat} {T : TypeId} {v : Value} (h : Bx W b T v) : W.frozen? ⟨b, 0, none⟩ = false := blk_free h 0
theorem Bx.set {W : World} {b : Nat} {T : TypeId} {v : Value} (h : Bx W b T v) (u : Value) : Bx (W.setCell ⟨b, 0, none⟩ u) b T u := (blk_set (o := 0) h u).trans rfl
theorem Bx.far {W : World} {b b' : Nat} {T : TypeId} {v : Value} (h : Bx W b T v) (hne : b ≠ b') (u : Value) : Bx (W.setCell ⟨b', 0, none⟩ u) b T v := (blk_far hne u).trans h
theorem Bx.low {D : Nat} {W W' : World} {b : Nat} {T : TypeId} {v : Value} (h : Bx W b T v) (hb : Below D W W') (hl : b < D) : Bx W' b T v := kept_objB hb hl h

/-- The boxes: what comes back (two), the work so far, the least so far and whether there is one. -/
structure SlB (w : World) (G : Nat) (s : Int) (b : Option Int) (V : World) : Prop where
  low : Below w.heap.size w V
  r0 : Bx V w.heap.size 2 (.int .i64 0)
  r1 : Bx V (w.heap.size + 1) 4 (.bool false)
  wk : Bx V G 2 (.int .i64 s)
  ls : Bx V (G + 1) 2 (.int .i64 (b.getD 0))
  fd : Bx V (G + 1 + 1) 4 (.bool b.isSome)
  lt : w.heap.size + 1 < G
/-- .. and where it was too much. -/
structure SlX (w : World) (V : World) : Prop where
  low : Below w.heap.size w V
  r0 : Bx V w.heap.size 2 (.int .i64 0)
  r1 : Bx V (w.heap.size + 1) 4 (.bool false)
theorem SlB.lowD {w V V' : World} {G D : Nat} {s : Int} {b : Option Int} (h : SlB w G s b V) (hb : Below D V V') (hD : G + 1 + 1 < D) : SlB w G s b V' := by
  have := h.lt
  exact ⟨h.low.trans (hb.mono (by omega)), h.r0.low hb (by omega), h.r1.low hb (by omega), h.wk.low hb (by omega), h.ls.low hb (by omega), h.fd.low hb (by omega), h.lt⟩
theorem SlB.put {w V : World} {G : Nat} {s : Int} {b : Option Int} (h : SlB w G s b V) (s' : Int) : SlB w G s' b (V.setCell ⟨G, 0, none⟩ (.int .i64 s')) := by
  have := h.lt
  exact ⟨h.low.setCell (p := ⟨G, 0, none⟩) (by show _ ≤ G; omega) _, h.r0.far (by omega) _, h.r1.far (by omega) _, h.wk.set _, h.ls.far (by omega) _, h.fd.far (by omega) _, h.lt⟩
theorem SlB.best {w V : World} {G : Nat} {s : Int} {b : Option Int} (h : SlB w G s b V) (v : Int) : SlB w G s (some v) ((V.setCell ⟨G + 1, 0, none⟩ (.int .i64 v)).setCell ⟨G + 1 + 1, 0, none⟩ (.bool true)) := by
  have := h.lt
  exact ⟨(h.low.setCell (p := ⟨G + 1, 0, none⟩) (by show _ ≤ G + 1; omega) _).setCell (p := ⟨G + 1 + 1, 0, none⟩) (by show _ ≤ G + 1 + 1; omega) _, (h.r0.far (by omega) _).far (by omega) _, (h.r1.far (by omega) _).far (by omega) _, (h.wk.far (by omega) _).far (by omega) _, (h.ls.set _).far (by omega) _, (h.fd.far (by omega) _).set _, h.lt⟩
theorem SlB.over {w V : World} {G : Nat} {s : Int} {b : Option Int} (h : SlB w G s b V) : SlX w ((V.setCell ⟨w.heap.size, 0, none⟩ (.int .i64 0)).setCell ⟨w.heap.size + 1, 0, none⟩ (.bool false)) :=
  ⟨(h.low.setCell (p := ⟨w.heap.size, 0, none⟩) (Nat.le_refl _) _).setCell (p := ⟨w.heap.size + 1, 0, none⟩) (by simp) _, (h.r0.set _).far (by omega) _, (h.r1.far (by omega) _).set _⟩
theorem Bx.own {X Y : World} {b : Nat} {T : TypeId} {v : Value} {row : Option Nat} (h : Bx X b T v) (hg : X.grownBy Y row) (hr : ∀ r, row = some r → ∃ o : Obj, X.heap[r]? = some o ∧ o.isCells = false) : Bx Y b T v :=
  (hg.block b (lt_of_block h) (fun e => by
    obtain ⟨o, ho, hc⟩ := hr b e.symm
    rw [show X.heap[b]? = _ from h] at ho
    cases ho
    cases hc)).trans h
theorem SlB.own {w : World} {G : Nat} {D : Nat} (hD : w.heap.size ≤ D) {s : Int} {b : Option Int} {X Y : World} {row : Option Nat} (h : SlB w G s b X) (hg : X.grownBy Y row) (hr : ∀ r, row = some r → D ≤ r ∧ ∃ o : Obj, X.heap[r]? = some o ∧ o.isCells = false) : SlB w G s b Y :=
  ⟨ownFrom_below (β := Unit) (Nat.le_refl _) hD () X Y row h.low hg hr, h.r0.own hg (fun r e => (hr r e).2), h.r1.own hg (fun r e => (hr r e).2), h.wk.own hg (fun r e => (hr r e).2), h.ls.own hg (fun r e => (hr r e).2), h.fd.own hg (fun r e => (hr r e).2), h.lt⟩
theorem SlX.own {w : World} {D : Nat} (hD : w.heap.size ≤ D) {X Y : World} {row : Option Nat} (h : SlX w X) (hg : X.grownBy Y row) (hr : ∀ r, row = some r → D ≤ r ∧ ∃ o : Obj, X.heap[r]? = some o ∧ o.isCells = false) : SlX w Y :=
  ⟨ownFrom_below (β := Unit) (Nat.le_refl _) hD () X Y row h.low hg hr, h.r0.own hg (fun r e => (hr r e).2), h.r1.own hg (fun r e => (hr r e).2)⟩
theorem kpN_set {N : Nat → Prop} (W : World) {b : Nat} (hb : N b) (v : Value) : KpN N W (W.setCell ⟨b, 0, none⟩ v) :=
  ⟨fun k cs T fr hk hz => (blk_far (a := ⟨b, 0, none⟩) (fun e => hk (by rw [e]; exact hb)) v).trans hz, by simp [World.setCell]⟩
theorem kf_set {D : Nat} (W : World) (p : Addr) (v : Value) : KeepsFrom D W (W.setCell p v) := (KeepsOthers.setCell _ _ _).from _
/-- The boxes that a round may turn. -/
def NB (w : World) (G : Nat) (k : Nat) : Prop := k = w.heap.size ∨ k = w.heap.size + 1 ∨ k = G ∨ k = G + 1 ∨ k = G + 1 + 1
abbrev DlP := { x : Int × Int // DlX x }
theorem deadlines_tells (n : Nat) (hn : 1 ≤ n) (L : List Dm) (m c : Nat) (hL : L.length = m) (hm : m ≤ 64) (hok : ∀ x ∈ L, x.ok) (fr tt : Int) (hfr : timeOk fr) (htt : timeOk tt) (hft : tt - fr ≤ 1048576) (a : Option Addr) (Bl Bf Bt : Nat) (N : Nat → Prop) (w : World) (hN : ∀ k, w.heap.size ≤ k → ¬ N k)
    (hC : ItC w w.heap.size Bl Bf Bt N a m c L fr tt) :
    Tells n Try.prog 51 #[.pointer (some ⟨Bl, 0, none⟩), .pointer (some ⟨Bf, 0, none⟩), .pointer (some ⟨Bt, 0, none⟩)] (fun x : DlP => #[.int .i64 x.1.1, .int .i64 x.1.2]) (KpN N) (StD w.heap.size)
      (fun ys => ∃ u, Chain L fr tt (ys.map (·.1)) u ∧ ∀ t, nextA L u = some t → tt ≤ t) (fun ys => ∃ u, Chain L fr tt (ys.map (·.1)) u) 2000000 w :=
  fun l J Jx W hW hJ hY hs0 =>
    (deadlines1_in n hn l L m c hL hm hok fr tt hfr htt hft a Bl Bf Bt w.heap.size N hN (fun q W => ∃ q' : List DlP, q'.map (·.1) = q ∧ J q' W) (fun q W => ∃ q' : List DlP, q'.map (·.1) = q ∧ Jx q' W) W hW.size
      (fun q X Y ⟨q', e, h⟩ st => ⟨q', e, hJ _ _ _ h st⟩)
      (fun pre x W1 hx ⟨q', e, h⟩ hlen => by
        subst e
        obtain ⟨fn, tmps, assign, body, hy, hR⟩ := hY q' ⟨x, hx⟩ W1 h (by simpa using hlen)
        refine ⟨fn, tmps, assign, body, hy, hR.mono ?_⟩
        rintro e W' (⟨rfl, hj, hk⟩ | ⟨rfl, hj⟩)
        · exact .inl ⟨rfl, ⟨_, by simp, hj⟩, hk⟩
        · exact .inr ⟨rfl, _, by simp, hj⟩)
      (hC.below hW) ⟨[], rfl, hs0⟩).mono fun e W' ⟨hv, h⟩ => ⟨hv, by
        rcases h with ⟨ys, ⟨u, h1, h2⟩, q', rfl, hj⟩ | ⟨pre, ⟨u, h1⟩, q', rfl, hj⟩
        · exact .inl ⟨q', ⟨u, h1, h2⟩, hj⟩
        · exact .inr ⟨q', ⟨u, h1⟩, hj⟩⟩

set_option maxRecDepth 100000 in
set_option maxHeartbeats 8000000 in
theorem pslack_any {w : World} {a : Option Addr} {n c : Nat} {l : List Dm} (h : Dems w a n c l) (fr tt : Int) (hf : I64 fr) (ht : I64 tt) : Calls Try.prog 19 #[.slice a n c, .int .i64 fr, .int .i64 tt] w fun e w' => e = .returned (.tuple #[.int .i64 ((slS l fr tt).getD 0), .bool (slS l fr tt).isSome]) ∧ Below w.heap.size w w' := by
  have HV := Lib.hid h.view
  have HL := Lib.hid h.len
  have RC := Lib.hid (fun v (hb : Below w.heap.size w v) => pchk_any l n c h.len h.n9 a v (h.view.below hb))
  have TC := Lib.hid (fun v => ptime_any fr v)
  have UC := Lib.hid (fun v => ptime_any tt v)
  have HN9 := Lib.hid h.n9
  have HF := Lib.hid hf
  have HT := Lib.hid ht
  obtain ⟨b1, hb1⟩ : ∃ b1, okL l = b1 := ⟨_, rfl⟩
  obtain ⟨b2, hb2⟩ : ∃ b2, timeB fr = b2 := ⟨_, rfl⟩
  obtain ⟨b3, hb3⟩ : ∃ b3, timeB tt = b3 := ⟨_, rfl⟩
  by_cases hbad : b1 = false ∨ (b1 = true ∧ b2 = false) ∨ (b1 = true ∧ b2 = true ∧ b3 = false) ∨ (b1 = true ∧ b2 = true ∧ b3 = true ∧ 1048576 < tt - fr)
  · have HN : Hid (slS l fr tt = none) := by
      rcases hbad with rfl | ⟨rfl, rfl⟩ | ⟨rfl, rfl, rfl⟩ | ⟨rfl, rfl, rfl, hq⟩
      · show _ = _; unfold slS; rw [if_neg (fun z => by rw [hb1] at z; cases z.1)]
      · exact slS_bad (fun z => by rw [hb2] at z; cases z.1)
      · exact slS_bad (fun z => by rw [hb3] at z; cases z.2.1)
      · exact slS_bad (fun z => by omega)
    rw [hb1] at RC
    rw [hb2] at TC
    rw [hb3] at UC
    have HB2 := Lib.hid hb2
    have HB3 := Lib.hid hb3
    clear hb1 hb2 hb3 h hf ht
    rcases hbad with rfl | ⟨rfl, rfl⟩ | ⟨rfl, rfl, rfl⟩ | ⟨rfl, rfl, rfl, hq⟩
    rotate_left 3
    have ew : IntKind.i64.wrap (tt - fr) = tt - fr := IntWalk.i64_in _ (by have h1 := timeB_iff.1 HB2.out; have h2 := timeB_iff.1 HB3.out; unfold timeOk at h1 h2; omega)
    rotate_left 1
    all_goals
      go_enter Try.func19, Try.ntmps19
      go_upto_region 1 with fail
      refine gen_world (fun v => Below w.heap.size w v ∧ Bx v w.heap.size 2 (.int .i64 0) ∧ Bx v (w.heap.size + 1) 4 (.bool false)) ⟨(by repeat (first | exact Below.refl _ _ | (with_reducible assumption) | refine bw_alloc ?_ _ | refine bw_drew ?_)), (two_boxes w rfl _ _).1, (two_boxes w rfl _ _).2⟩ ?_
      intro V ⟨hb, hr0, hr1⟩
      have HB := Lib.hid hb
      have HR0 := Lib.hid hr0
      have HR1 := Lib.hid hr1
      clear hb hr0 hr1
      go_upto_region 2 with (first
        | (go_at_call 25; (with_reducible refine (RC.out _ HB.out).mono ?_); rintro e w1 ⟨rfl, bx1⟩; have HBB := Lib.hid (below_up HB.out bx1); have hq0 : Bx w1 w.heap.size 2 (.int .i64 0) := kept_obj bx1 HR0.out; have hq1 : Bx w1 (w.heap.size + 1) 4 (.bool false) := kept_obj bx1 HR1.out; have f0 := hq0.free; have f1 := hq1.free; have r0 := hq0.cell; have r1 := hq1.cell; have HQ0 := Lib.hid hq0; have HQ1 := Lib.hid hq1; clear bx1 hq0 hq1)
        | (go_at_call 28; (first | (with_reducible refine (TC.out _).mono ?_) | (with_reducible refine (UC.out _).mono ?_)); rintro e w2 ⟨rfl, rfl⟩))
      go_wp2_with fail
      have y0 := ((HQ0.out.set (.int .i64 0)).far (b' := w.heap.size + 1) (by omega) (.bool false)).cell
      have y1 := ((HQ1.out.far (b' := w.heap.size) (by omega) (.int .i64 0)).set (.bool false)).cell
      refine bodyPost_ret (v := .tuple #[.int .i64 0, .bool false]) ?_ rfl ⟨by rw [HN.out]; rfl, (HBB.out.setCell (p := ⟨w.heap.size, 0, none⟩) (Nat.le_refl _) _).setCell (p := ⟨w.heap.size + 1, 0, none⟩) (by simp) _⟩
      simp [results, Try.results19, go_sem, y0, y1]
  obtain rfl : b1 = true := by cases b1 with | true => rfl | false => exact absurd (.inl rfl) hbad
  obtain rfl : b2 = true := by cases b2 with | true => rfl | false => exact absurd (.inr (.inl ⟨rfl, rfl⟩)) hbad
  obtain rfl : b3 = true := by cases b3 with | true => rfl | false => exact absurd (.inr (.inr (.inl ⟨rfl, rfl, rfl⟩))) hbad
  have hq : ¬ 1048576 < tt - fr := fun q => hbad (.inr (.inr (.inr ⟨rfl, rfl, rfl, q⟩)))
  have ht1 := timeB_iff.1 hb2
  have ht2 := timeB_iff.1 hb3
  have ew : IntKind.i64.wrap (tt - fr) = tt - fr := IntWalk.i64_in _ (by unfold timeOk at ht1 ht2; omega)
  have ef : IntKind.i64.wrap (fr - 1) = fr - 1 := IntWalk.i64_in _ (by unfold timeOk at ht1 ht2; omega)
  have hok := okL_iff.1 hb1
  have DC := Lib.hid (fun v (hb : Below w.heap.size w v) => pdue_any l n c h.len h.n9 hok.1 a (fr - 1) (by have := ht1.1; omega) (by have := ht1.2; omega) v (h.view.below hb))
  have HD0 := Lib.hid (due_nonneg hok.1 (fr - 1))
  have HIN := Lib.hid (And.intro hb1 (And.intro hb2 (And.intro hb3 (show tt - fr ≤ 1048576 by omega))))
  rw [hb1] at RC
  rw [hb2] at TC
  rw [hb3] at UC
  have HM64 : Hid (n ≤ 64) := by have h1 := hok.2; have h2 := HL.out; show n ≤ 64; omega
  by_cases hmuch : 4611686018427387904 < dueA l (fr - 1)
  · have HN : Hid (slS l fr tt = none) := slS_much hok.1 hmuch
    rw [cap_not hmuch] at DC
    clear hb1 hb2 hb3 h hf ht hbad ht1 ht2 hok hmuch
    go_enter Try.func19, Try.ntmps19
    go_upto_region 1 with fail
    refine gen_world (fun v => Below w.heap.size w v ∧ Bx v w.heap.size 2 (.int .i64 0) ∧ Bx v (w.heap.size + 1) 4 (.bool false)) ⟨(by repeat (first | exact Below.refl _ _ | (with_reducible assumption) | refine bw_alloc ?_ _ | refine bw_drew ?_)), (two_boxes w rfl _ _).1, (two_boxes w rfl _ _).2⟩ ?_
    intro V ⟨hb, hr0, hr1⟩
    have HB := Lib.hid hb
    have HR0 := Lib.hid hr0
    have HR1 := Lib.hid hr1
    clear hb hr0 hr1
    go_upto_region 3 with (first
      | (go_at_call 25; (with_reducible refine (RC.out _ HB.out).mono ?_); rintro e w1 ⟨rfl, bx1⟩; have HBB := Lib.hid (below_up HB.out bx1); have HQ0 : Hid (Bx w1 w.heap.size 2 (.int .i64 0)) := kept_obj bx1 HR0.out; have HQ1 : Hid (Bx w1 (w.heap.size + 1) 4 (.bool false)) := kept_obj bx1 HR1.out; clear bx1)
      | (go_at_call 28; (first | (with_reducible refine (TC.out _).mono ?_) | (with_reducible refine (UC.out _).mono ?_)); rintro e w2 ⟨rfl, rfl⟩))
    go_upto_region 4 with (go_at_call 29; (with_reducible refine (DC.out _ HBB.out).mono ?_); rintro e w3 ⟨rfl, bx3⟩; have HB3 := Lib.hid (below_up HBB.out bx3); have HS0 : Hid (Bx w3 w.heap.size 2 (.int .i64 0)) := kept_obj bx3 HQ0.out; have HS1 : Hid (Bx w3 (w.heap.size + 1) 4 (.bool false)) := kept_obj bx3 HQ1.out; clear bx3)
    refine gen_world (fun v => Below w.heap.size w v ∧ Bx v w.heap.size 2 (.int .i64 0) ∧ Bx v (w.heap.size + 1) 4 (.bool false)) ⟨below_up HB3.out (by repeat (first | exact Below.refl _ _ | (with_reducible assumption) | refine bw_alloc ?_ _ | refine bw_drew ?_)), kept_obj (by repeat (first | exact Below.refl _ _ | (with_reducible assumption) | refine bw_alloc ?_ _ | refine bw_drew ?_)) HS0.out, kept_obj (by repeat (first | exact Below.refl _ _ | (with_reducible assumption) | refine bw_alloc ?_ _ | refine bw_drew ?_)) HS1.out⟩ ?_
    intro V2 ⟨hb, hr0, hr1⟩
    have HB2 := Lib.hid hb
    have HU0 := Lib.hid hr0
    have HU1 := Lib.hid hr1
    have f0 := hr0.free
    have f1 := hr1.free
    have r0 := hr0.cell
    have r1 := hr1.cell
    clear hb hr0 hr1
    go_wp2_with fail
    have y0 := ((HU0.out.set (.int .i64 0)).far (b' := w.heap.size + 1) (by omega) (.bool false)).cell
    have y1 := ((HU1.out.far (b' := w.heap.size) (by omega) (.int .i64 0)).set (.bool false)).cell
    refine bodyPost_ret (v := .tuple #[.int .i64 0, .bool false]) ?_ rfl ⟨by rw [HN.out]; rfl, (HB2.out.setCell (p := ⟨w.heap.size, 0, none⟩) (Nat.le_refl _) _).setCell (p := ⟨w.heap.size + 1, 0, none⟩) (by simp) _⟩
    simp [results, Try.results19, go_sem, y0, y1]
  have hmuch' : dueA l (fr - 1) ≤ 4611686018427387904 := by omega
  rw [cap_is hmuch'] at DC
  obtain ⟨w0, hw0⟩ : ∃ w0, dueA l (fr - 1) = w0 := ⟨_, rfl⟩
  have HW0 := Lib.hid hw0
  rw [hw0] at DC HD0 hmuch'
  have HW1 := Lib.hid hmuch'
  have PDL := Lib.hid (fun v => pdeadlines_any a n c fr tt v)
  clear hb1 hb2 hb3 h hf ht hbad ht1 ht2 hok hmuch hmuch' hw0
  refine (callsIn_wide (n := 4)).1 ?_
  refine callsIn_of_wp_marks Try.func19 rfl trivial ?_ rfl
  simp only [Try.ntmps19, List.size_toArray, List.length_cons, List.length_nil, Nat.reduceAdd, Nat.reduceSub, Array.replicate_succ, Array.replicate_zero, List.push_toArray, List.append_toArray, List.nil_append, List.cons_append]
  refine wpIn_wide.2 ?_
  go_upto_region 1 with fail
  refine gen_world (fun v => Below w.heap.size w v ∧ Bx v w.heap.size 2 (.int .i64 0) ∧ Bx v (w.heap.size + 1) 4 (.bool false)) ⟨(by repeat (first | exact Below.refl _ _ | (with_reducible assumption) | refine bw_alloc ?_ _ | refine bw_drew ?_)), (two_boxes w rfl _ _).1, (two_boxes w rfl _ _).2⟩ ?_
  intro V ⟨hb, hr0, hr1⟩
  have HB := Lib.hid hb
  have HR0 := Lib.hid hr0
  have HR1 := Lib.hid hr1
  clear hb hr0 hr1
  go_upto_region 3 with (first
    | (go_at_call 25; (with_reducible refine (RC.out _ HB.out).mono ?_); rintro e w1 ⟨rfl, bx1⟩; have HBB := Lib.hid (below_up HB.out bx1); have HQ0 : Hid (Bx w1 w.heap.size 2 (.int .i64 0)) := kept_obj bx1 HR0.out; have HQ1 : Hid (Bx w1 (w.heap.size + 1) 4 (.bool false)) := kept_obj bx1 HR1.out; clear bx1)
    | (go_at_call 28; (first | (with_reducible refine (TC.out _).mono ?_) | (with_reducible refine (UC.out _).mono ?_)); rintro e w2 ⟨rfl, rfl⟩))
  clear RC TC UC HB HR0 HR1
  go_upto_region 4 with (go_at_call 29; (with_reducible refine (DC.out _ HBB.out).mono ?_); rintro e w3 ⟨rfl, bx3⟩; have HB3 := Lib.hid (below_up HBB.out bx3); have HS0 : Hid (Bx w3 w.heap.size 2 (.int .i64 0)) := kept_obj bx3 HQ0.out; have HS1 : Hid (Bx w3 (w.heap.size + 1) 4 (.bool false)) := kept_obj bx3 HQ1.out; clear bx3)
  clear DC HBB HQ0 HQ1
  go_upto_region 6 with fail
  go_upto_region 7 with fail
  refine gen_world (SlB w w3.heap.size w0 none) ⟨below_up HB3.out (by repeat (first | exact Below.refl _ _ | (with_reducible assumption) | refine bw_alloc ?_ _ | refine bw_drew ?_)), kept_obj (by repeat (first | exact Below.refl _ _ | (with_reducible assumption) | refine bw_alloc ?_ _ | refine bw_drew ?_)) HS0.out, kept_obj (by repeat (first | exact Below.refl _ _ | (with_reducible assumption) | refine bw_alloc ?_ _ | refine bw_drew ?_)) HS1.out, kept_obj (by repeat (first | exact Below.refl _ _ | (with_reducible assumption) | refine bw_alloc ?_ _ | refine bw_drew ?_)) (heap_alloc_new w3 _), ?_, ?_, lt_of_block HS1.out⟩ ?_
  · have := heap_alloc_new (w3.alloc (.cells #[.int .i64 w0] 2)) (.cells #[.int .i64 0] 2)
    rw [World.size_alloc] at this
    exact kept_obj (by repeat (first | exact Below.refl _ _ | (with_reducible assumption) | refine bw_alloc ?_ _ | refine bw_drew ?_)) this
  · have := heap_alloc_new ((w3.alloc (.cells #[.int .i64 w0] 2)).alloc (.cells #[.int .i64 0] 2)) (.cells #[.bool false] 4)
    rw [World.size_alloc, World.size_alloc] at this
    exact this
  intro V7 hv7
  have HV7 := Lib.hid hv7
  clear hv7 HB3 HS0 HS1
  generalize w3.heap.size = G at *
  go_upto_block 0 with (go_at_call 36; (with_reducible refine (PDL.out _).mono ?_); rintro e w8 ⟨rfl, rfl⟩)
  clear PDL
  obtain ⟨D, hD⟩ : ∃ D, V7.heap.size = D := ⟨_, rfl⟩
  have HDG : Hid (G + 1 + 1 < D) := by show _ < _; rw [← hD]; exact lt_of_block HV7.out.fd
  have hIT : SlB w G w0 none (((V7.alloc (.cells #[.slice a n c] 23)).alloc (.cells #[.int .i64 fr] 2)).alloc (.cells #[.int .i64 tt] 2)) := HV7.out.lowD (D := V7.heap.size) (by repeat (first | exact Below.refl _ _ | (with_reducible assumption) | refine bw_alloc ?_ _ | refine bw_drew ?_)) (by rw [hD]; exact HDG.out)
  have hx0 : Bx (((V7.alloc (.cells #[.slice a n c] 23)).alloc (.cells #[.int .i64 fr] 2)).alloc (.cells #[.int .i64 tt] 2)) V7.heap.size 23 (.slice a n c) := kept_obj (by repeat (first | exact Below.refl _ _ | (with_reducible assumption) | refine bw_alloc ?_ _ | refine bw_drew ?_)) (heap_alloc_new V7 (.cells #[.slice a n c] 23))
  have hx1 : Bx (((V7.alloc (.cells #[.slice a n c] 23)).alloc (.cells #[.int .i64 fr] 2)).alloc (.cells #[.int .i64 tt] 2)) (V7.heap.size + 1) 2 (.int .i64 fr) := by
    have := heap_alloc_new (V7.alloc (.cells #[.slice a n c] 23)) (.cells #[.int .i64 fr] 2)
    rw [World.size_alloc] at this
    exact kept_obj (by repeat (first | exact Below.refl _ _ | (with_reducible assumption) | refine bw_alloc ?_ _ | refine bw_drew ?_)) this
  have hx2 : Bx (((V7.alloc (.cells #[.slice a n c] 23)).alloc (.cells #[.int .i64 fr] 2)).alloc (.cells #[.int .i64 tt] 2)) (V7.heap.size + 2) 2 (.int .i64 tt) := by
    have := heap_alloc_new ((V7.alloc (.cells #[.slice a n c] 23)).alloc (.cells #[.int .i64 fr] 2)) (.cells #[.int .i64 tt] 2)
    rw [World.size_alloc, World.size_alloc] at this
    exact this
  have hsz : (((V7.alloc (.cells #[.slice a n c] 23)).alloc (.cells #[.int .i64 fr] 2)).alloc (.cells #[.int .i64 tt] 2)).heap.size = V7.heap.size + 3 := by simp
  rw [hD] at hx0 hx1 hx2 hsz ⊢
  generalize (((V7.alloc (.cells #[.slice a n c] 23)).alloc (.cells #[.int .i64 fr] 2)).alloc (.cells #[.int .i64 tt] 2)) = W8 at *
  clear hD HV7
  have HTL : Hid (∀ n1, 1 ≤ n1 → Tells n1 Try.prog 51 #[.pointer (some ⟨D, 0, none⟩), .pointer (some ⟨D + 1, 0, none⟩), .pointer (some ⟨D + 2, 0, none⟩)] (fun x : DlP => #[.int .i64 x.1.1, .int .i64 x.1.2]) (KpN (NB w G)) (StD W8.heap.size)
      (fun ys => ∃ u, Chain l fr tt (ys.map (·.1)) u ∧ ∀ t, nextA l u = some t → tt ≤ t) (fun ys => ∃ u, Chain l fr tt (ys.map (·.1)) u) 2000000 W8) := fun n1 h1 => by
    have hg := HDG.out
    have hlt := hIT.lt
    have hnb : ∀ k, D ≤ k → ¬ NB w G k := fun k hk q => by unfold NB at q; omega
    have hok := okL_iff.1 HIN.out.1
    refine deadlines_tells n1 h1 l n c HL.out HM64.out hok.1 fr tt (timeB_iff.1 HIN.out.2.1) (timeB_iff.1 HIN.out.2.2.1) HIN.out.2.2.2 a D (D + 1) (D + 2) (NB w G) W8 (fun k hk => hnb k (by omega)) ⟨hx0, hx1, hx2, ⟨hnb _ (by omega), by omega⟩, ⟨hnb _ (by omega), by omega⟩, ⟨hnb _ (by omega), by omega⟩, HV.out.below hIT.low, fun hn0 b o i e => ?_⟩
    rcases HV.out with rfl | ⟨g, o', e', hc⟩
    · have := HL.out; rw [List.length_nil] at this; omega
    · rw [e] at e'
      cases e'
      obtain ⟨x, hx⟩ := nth_of HL.out hn0
      have hb : b < w.heap.size := by
        have h0 := gflat_at l 0 x hx 0 (by omega)
        exact block_of_cell (hc 0 _ (by rw [← Nat.zero_mul 3]; exact h0))
      exact ⟨fun q => by unfold NB at q; omega, by omega⟩
  clear hx0 hx1 hx2
  have HI0 := Lib.hid hIT
  clear hIT
  refine (wpIn_wide (n := 4)).1 ?_
  have HSZ := Lib.hid hsz
  clear hsz
  gi_wp2
  have HDW : Hid (w.heap.size ≤ W8.heap.size) := HI0.out.low.size
  refine range_tells (n := 4) (by omega) (gf := 51) (lb := #[.pointer (some ⟨D, 0, none⟩), .pointer (some ⟨D + 1, 0, none⟩), .pointer (some ⟨D + 2, 0, none⟩)]) rfl (fun _ _ => MuLone.run_callFunc_enter Try.func51 (by kernel_rfl) rfl _ _)
    (HTL.out _ (by omega)) kpN_t kpN_b (fun X Y st => st.2) (fun _ => rfl)
    (fun pre V => ∃ s b, stF w0 (pre.map (·.1)) = some (s, b) ∧ 0 ≤ s ∧ s ≤ 4611686018427387904 ∧ SlB w G s b V)
    (fun pre V => stF w0 (pre.map (·.1)) = none ∧ SlX w V)
    (fun _ X Y row ⟨s, b, e1, e2, e3, e4⟩ hg hr => ⟨s, b, e1, e2, e3, e4.own HDW.out hg hr⟩)
    (fun _ X Y ⟨s, b, e1, e2, e3, e4⟩ st => ⟨s, b, e1, e2, e3, e4.lowD st.1 (by rw [HSZ.out]; have := HDG.out; omega)⟩)
    (fun _ X Y row ⟨e1, e2⟩ hg hr => ⟨e1, e2.own HDW.out hg hr⟩)
    ⟨w0, none, rfl, HD0.out, HW1.out, HI0.out⟩
    (fun x => { tmps := List.toArray (Value.slice a n c :: Value.int IntKind.i64 fr :: Value.int IntKind.i64 tt :: undef :: undef :: undef :: Value.pointer (some ⟨w.heap.size, 0, none⟩) :: Value.pointer (some ⟨w.heap.size + 1, 0, none⟩) :: Value.pointer (some ⟨G, 0, none⟩) :: Value.bool true :: Value.pointer (some ⟨G + 1, 0, none⟩) :: Value.pointer (some ⟨G + 1 + 1, 0, none⟩) :: Value.int IntKind.i64 x.1.1 :: Value.int IntKind.i64 x.1.2 :: Value.slice a n c :: Value.bool true :: Value.bool false :: Value.bool false :: Value.int IntKind.i64 fr :: Value.bool true :: Value.bool false :: Value.bool false :: Value.bool false :: Value.int IntKind.i64 tt :: Value.bool true :: Value.bool false :: Value.bool false :: Value.bool false :: Value.int IntKind.i64 tt :: Value.int IntKind.i64 fr :: Value.int IntKind.i64 (tt - fr) :: Value.bool (decide (1048576 < tt - fr)) :: Value.bool (decide (1048576 < tt - fr)) :: Value.tuple #[Value.int IntKind.i64 w0, Value.bool true] :: Value.slice a n c :: Value.int IntKind.i64 fr :: Value.int IntKind.i64 (fr - 1) :: Value.tuple #[Value.int IntKind.i64 w0, Value.bool true] :: Value.int IntKind.i64 w0 :: Value.bool true :: Value.bool true :: Value.bool false :: Value.slice a n c :: Value.int IntKind.i64 fr :: Value.int IntKind.i64 tt :: Value.func (Fn.func 51) #[] #[.pointer (some ⟨D, 0, none⟩), .pointer (some ⟨D + 1, 0, none⟩), .pointer (some ⟨D + 2, 0, none⟩)] :: Value.int IntKind.i64 x.1.1 :: Value.int IntKind.i64 x.1.2 :: undef :: undef :: undef :: undef :: undef :: undef :: undef :: undef :: undef :: undef :: undef :: undef :: undef :: undef :: undef :: undef :: undef :: undef :: undef :: []), defers := [] })
    ?assign ?body ?done ?stop
  case assign =>
    intro y x V K hK
    gi_wp2
    exact hK
  case body =>
    rintro y pre ⟨⟨t, m⟩, hx⟩ V ⟨s, b, e1, e2, e3, hB⟩ hlt
    obtain ⟨t0, t1, m0, m1⟩ := id hx
    dsimp only at t0 t1 m0 m1
    have hltG := hB.lt
    have HB := Lib.hid hB
    have HE1 := Lib.hid e1
    have k0 := hB.wk.cell
    have k1 := hB.ls.cell
    have k2 := hB.fd.cell
    have f0 := hB.wk.free
    have f1 := hB.ls.free
    have f2 := hB.fd.free
    have q0 := hB.r0.cell
    have q1 := hB.r1.cell
    have g0 := hB.r0.free
    have g1 := hB.r1.free
    have ew : IntKind.i64.wrap (s + m) = s + m := IntWalk.i64_in _ (by omega)
    have n1 : ¬ G = w.heap.size := by omega
    have n2 : ¬ G = w.heap.size + 1 := by omega
    have n3 : ¬ w.heap.size = G := by omega
    have n4 : ¬ w.heap.size + 1 = G := by omega
    have HS2 : Hid (0 ≤ s + m) := by show 0 ≤ s + m; omega
    have et : IntKind.i64.wrap (t - (s + m)) = t - (s + m) := IntWalk.i64_in _ (by omega)
    clear HTL hB e1
    dsimp only
    obtain ⟨v, hv⟩ : ∃ v, s + m = v := ⟨_, rfl⟩
    have HVV := Lib.hid hv
    have HP0 := Lib.hid (HB.out.put v)
    have ev : IntKind.i64.wrap (s + m) = v := by rw [ew, hv]
    rw [hv] at et HS2
    clear t0 t1 m0 m1 e2 e3 ew
    have HK0 : Hid (KeepsFrom W8.heap.size V (V.setCell ⟨G, 0, none⟩ (.int .i64 v)) ∧ KpN (NB w G) V (V.setCell ⟨G, 0, none⟩ (.int .i64 v))) := ⟨kf_set _ _ _, kpN_set V (.inr (.inr (.inl rfl))) _⟩
    have HK1 : Hid (∀ V1 q, KeepsFrom W8.heap.size V1 ((V1.setCell ⟨G + 1, 0, none⟩ (.int .i64 q)).setCell ⟨G + 1 + 1, 0, none⟩ (.bool true)) ∧ KpN (NB w G) V1 ((V1.setCell ⟨G + 1, 0, none⟩ (.int .i64 q)).setCell ⟨G + 1 + 1, 0, none⟩ (.bool true))) :=
      fun V1 q => ⟨(kf_set _ _ _).trans (kf_set _ _ _), kpN_t (kpN_set V1 (.inr (.inr (.inr (.inl rfl)))) _) (kpN_set _ (.inr (.inr (.inr (.inr rfl)))) _)⟩
    by_cases hq : 4611686018427387904 < v
    · have HN : Hid (stF w0 ((pre ++ [(⟨(t, m), hx⟩ : DlP)]).map (·.1)) = none) := by show _ = _; rw [List.map_append, List.map_singleton]; exact stF_over HE1.out (by rw [← HVV.out] at hq; exact hq)
      clear hv
      gi_wp2
      exact ⟨HK0.out.1.trans ((kf_set _ _ _).trans (kf_set _ _ _)), HN.out, HP0.out.over⟩
    · have hq' : v ≤ 4611686018427387904 := by omega
      have HN : Hid (stF w0 ((pre ++ [(⟨(t, m), hx⟩ : DlP)]).map (·.1)) = some (v, some (slkMin b (t - v)))) := by show _ = _; rw [List.map_append, List.map_singleton]; have := stF_go HE1.out (x := (t, m)) (by rw [← HVV.out] at hq; exact hq); rw [show s + (t, m).2 = v from hv] at this; exact this
      have HQ := Lib.hid hq'
      clear hv
      cases b with
      | none =>
        gi_wp2
        have h1 := HK1.out (V.setCell ⟨G, 0, none⟩ (.int .i64 v)) (t - v)
        exact ⟨HK0.out.1.trans h1.1, kpN_t HK0.out.2 h1.2, v, _, HN.out, HS2.out, HQ.out, HP0.out.best (t - v)⟩
      | some u =>
        by_cases hl : t - v < u
        · have hm : slkMin (some u) (t - v) = t - v := if_pos hl
          rw [hm] at HN
          clear hm
          gi_wp2
          have h1 := HK1.out (V.setCell ⟨G, 0, none⟩ (.int .i64 v)) (t - v)
          exact ⟨HK0.out.1.trans h1.1, kpN_t HK0.out.2 h1.2, v, _, HN.out, HS2.out, HQ.out, HP0.out.best (t - v)⟩
        · have hm : slkMin (some u) (t - v) = u := if_neg hl
          rw [hm] at HN
          clear hm
          gi_wp2
          exact ⟨HK0.out.1, HK0.out.2, v, _, HN.out, HS2.out, HQ.out, HP0.out⟩
  case done =>
    rintro Dd ys V hDd ⟨u, h1, h2⟩ ⟨s, b, e1, e2, e3, hB⟩ hK
    have HR : Hid (slS l fr tt = b) := Chain.ends HIN.out.1 HIN.out.2 h1 h2 (by rw [HW0.out]; exact e1)
    have HB := Lib.hid hB
    have HKD := Lib.hid hK
    have hltG := hB.lt
    have k1 := hB.ls.cell
    have k2 := hB.fd.cell
    have q0 := hB.r0.cell
    have q1 := hB.r1.cell
    have g0 := hB.r0.free
    have g1 := hB.r1.free
    have n1 : ¬ G + 1 = w.heap.size := by omega
    have n2 : ¬ G + 1 + 1 = w.heap.size := by omega
    clear HTL hB e1 e2 e3 h1 h2 hK
    gi_wp2
    go_upto_region 15 with fail
    go_region_with fail
    all_goals
      go_wp2
    all_goals
      have hds := HSZ.out
      have hdw := HDW.out
      have hlg := HI0.out.lt
      have hdg := HDG.out
      have hz0 : Bx ((V.setCell ⟨w.heap.size, 0, none⟩ (.int .i64 (b.getD 0))).setCell ⟨w.heap.size + 1, 0, none⟩ (.bool b.isSome)).drew w.heap.size 2 (.int .i64 (b.getD 0)) := (HB.out.r0.set _).far (by omega) _
      have hz1 : Bx ((V.setCell ⟨w.heap.size, 0, none⟩ (.int .i64 (b.getD 0))).setCell ⟨w.heap.size + 1, 0, none⟩ (.bool b.isSome)).drew (w.heap.size + 1) 4 (.bool b.isSome) := (HB.out.r1.far (by omega) _).set _
      have hz2 : ((V.setCell ⟨w.heap.size, 0, none⟩ (.int .i64 (b.getD 0))).setCell ⟨w.heap.size + 1, 0, none⟩ (.bool b.isSome)).drew.heap[Dd]? = some (.deferred (some [])) := ((KeepsOthers.setCell _ _ _).trans (KeepsOthers.setCell _ _ _)).same Dd _ HKD.out rfl
      have hz3 : Below w.heap.size w ((V.setCell ⟨w.heap.size, 0, none⟩ (.int .i64 (b.getD 0))).setCell ⟨w.heap.size + 1, 0, none⟩ (.bool b.isSome)).drew := ((HB.out.low.setCell (p := ⟨w.heap.size, 0, none⟩) (Nat.le_refl _) _).setCell (p := ⟨w.heap.size + 1, 0, none⟩) (by simp) _).drew
      generalize ((V.setCell ⟨w.heap.size, 0, none⟩ (.int .i64 (b.getD 0))).setCell ⟨w.heap.size + 1, 0, none⟩ (.bool b.isSome)).drew = X at hz0 hz1 hz2 hz3 ⊢
      have p1 : (X.putObj Dd (.deferred none)).cell? ⟨w.heap.size, 0, none⟩ = some (.int .i64 (b.getD 0)) := Bx.cell (T := 2) ((World.putObj_heap_other (by omega)).trans hz0)
      have p2 : (X.putObj Dd (.deferred none)).cell? ⟨w.heap.size + 1, 0, none⟩ = some (.bool b.isSome) := Bx.cell (T := 4) ((World.putObj_heap_other (by omega)).trans hz1)
      refine ⟨by simp, .inl ⟨_, _, rfl, run_takeDeferred hz2, ?_⟩⟩
      refine ⟨.tuple #[.int .i64 (b.getD 0), .bool b.isSome], by simp [results, Try.results19, go_sem, p1, p2], by rw [HR.out], hz3.trans (belowK_b (w := w) (Nat.le_refl _) X Dd _ _ (by omega) hz2 rfl rfl)⟩
  case stop =>
    rintro Dd pre V hDd ⟨u, h1⟩ ⟨e1, hX⟩ hK
    have HR : Hid (slS l fr tt = none) := Chain.fell (okL_iff.1 HIN.out.1).1 h1 (by rw [HW0.out]; exact e1)
    clear HTL
    gi_wp2
    have hds := HSZ.out
    have hdw := HDW.out
    have hlg := HI0.out.lt
    have hdg := HDG.out
    have p1 : (V.putObj Dd (.deferred none)).cell? ⟨w.heap.size, 0, none⟩ = some (.int .i64 0) := Bx.cell (T := 2) ((World.putObj_heap_other (by omega)).trans hX.r0)
    have p2 : (V.putObj Dd (.deferred none)).cell? ⟨w.heap.size + 1, 0, none⟩ = some (.bool false) := Bx.cell (T := 4) ((World.putObj_heap_other (by omega)).trans hX.r1)
    refine ⟨by simp, .inl ⟨_, _, rfl, run_takeDeferred hK, ?_⟩⟩
    refine ⟨.tuple #[.int .i64 0, .bool false], by simp [results, Try.results19, go_sem, p1, p2], by rw [HR.out]; rfl, hX.low.trans (belowK_b (w := w) (Nat.le_refl _) V Dd _ _ (by omega) hK rfl rfl)⟩
end Go.Proofs.Ytbliagfmpcmfdaa

/-
  What the program's calls answer.
-/
namespace Go.Proofs.Ytbliagfmpcmfdaa
open Go.RowKit Go.Maps

theorem pcheck_any {w : World} {a : Option Addr} {n c : Nat} {l : List Dm} (h : Dems w a n c l) : Calls Try.prog 25 #[.slice a n c] w fun e w' => e = .returned (.bool (okL l)) ∧ Below w.heap.size w w' := pchk_any l n c h.len h.n9 a w h.view
end Go.Proofs.Ytbliagfmpcmfdaa

/-
  What is told of demands by numbers, plainly.
-/
namespace Go.Proofs.Ytbliagfmpcmfdaa
open Go.RowKit Go.Maps

theorem okL_good {M : List Dm} (h : AllGood M) (hl : M.length ≤ 6) : okL M = true := okL_iff.2 ⟨h.ok, by omega⟩
theorem jobs_less {x : Dm} (h : x.ok) {t : Int} (ht : 0 ≤ t) : jobsD x t ≤ t + 1 := by
  have := h.d1; have := h.d2
  unfold jobsD
  split
  · omega
  · have : (t - x.d) / x.t ≤ t - x.d := Int.ediv_le_self _ (by omega)
    omega
theorem due_less {M : List Dm} (h : AllGood M) {t : Int} (ht : 0 ≤ t) : ∀ k, dueN M t k ≤ (k : Int) * (24 * (t + 1))
  | 0 => by show (0 : Int) ≤ _; omega
  | k + 1 => by
    have ih := due_less h ht k
    have hz : (((k + 1 : Nat) : Int)) * (24 * (t + 1)) = (k : Int) * (24 * (t + 1)) + 24 * (t + 1) := by rw [Int.natCast_add, Int.add_mul]; omega
    rw [hz]
    cases hx : M[k]? with
    | none => rw [due_end hx]; omega
    | some x =>
      have hg := h x (List.mem_of_getElem? hx)
      have h1 := hg.per; have h2 := hg.d2; have h3 := hg.c1
      have hj := jobs_less hg.ok ht
      have hj0 := jobs_nonneg hg.ok t
      have := Int.mul_le_mul (show x.c ≤ 24 by omega) hj hj0 (by omega)
      rw [due_next hx]; omega
theorem due_small {M : List Dm} (h : AllGood M) (hl : M.length ≤ 6) {t : Int} (ht : 0 ≤ t) (ht1 : t ≤ 3000) : 0 ≤ dueA M t ∧ dueA M t ≤ 432144 := by
  refine ⟨due_nonneg h.ok t, ?_⟩
  have h1 := due_less h ht M.length
  have h2 : (M.length : Int) * (24 * (t + 1)) ≤ 6 * (24 * (t + 1)) := Int.mul_le_mul_of_nonneg_right (by omega) (by omega)
  unfold dueA; omega
theorem timeB_small {t : Int} (h : 0 ≤ t) (h1 : t ≤ 3000) : timeB t = true := timeB_iff.2 ⟨h, by omega⟩
theorem ofA_good {M : List Dm} (h : AllGood M) (hl : M.length ≤ 6) {t : Int} (ht : 0 ≤ t) (ht1 : t ≤ 3000) : ofA M t = some (dueA M t) :=
  ofA_is (okL_good h hl) (timeB_small ht ht1) (by have := (due_small h hl ht ht1).2; omega)
theorem nextS_good {M : List Dm} (h : AllGood M) (hl : M.length ≤ 6) {t : Int} (ht : 0 ≤ t) (ht1 : t ≤ 3000) : nextS M t = nextA M t := nextS_is (okL_good h hl) (timeB_small ht ht1)
theorem lastS_good {M : List Dm} (h : AllGood M) (hl : M.length ≤ 6) {t : Int} (ht : 0 ≤ t) (ht1 : t ≤ 3000) : lastS M t = lastA M t := lastS_is (okL_good h hl) (timeB_small ht ht1)
theorem per_good {M : List Dm} (h : AllGood M) (hl : M.length ≤ 6) : (perS M).2 = 0 ∧ 1 ≤ (perS M).1 ∧ (perS M).1 ≤ 120 ∧ ∀ x ∈ M, x.t ∣ (perS M).1 := by
  have hok := okL_good h hl
  have hpos : ∀ z ∈ M.map Dm.t, 0 ≤ z := fun z hz => by have := per_row hok z hz; omega
  obtain ⟨l1, l2⟩ := lcm_row (M.map Dm.t) 1 (by omega) hpos
  have hd : ∀ z ∈ M.map Dm.t, z.toNat ∣ 120 := fun z hz => by
    obtain ⟨x, hx, rfl⟩ := List.mem_map.1 hz
    rcases (h x hx).per with e | e | e | e | e | e | e | e <;> rw [e] <;> decide
  have h1 : (perR M).2 = true := by
    cases e : (perR M).2 with
    | true => rfl
    | false =>
      rcases (l2 e).2 with ⟨z, hz, hz0⟩ | q
      · have := per_row hok z hz; omega
      · have := q 120 (by omega) (by decide) hd; omega
  obtain ⟨p1, _, _, _, p5⟩ := l1 h1
  have hdv : (perR M).1.toNat ∣ 120 := p5 120 (by decide) hd
  have hle : (perR M).1.toNat ≤ 120 := Nat.le_of_dvd (by omega) hdv
  have hpp : 0 < (perR M).1 := p1
  have e := perS_is hok h1 (by omega)
  obtain ⟨_, _, _, _, _, hx⟩ := perS_ok (l := M) (by rw [e])
  refine ⟨by rw [e], by rw [e]; show 1 ≤ (perR M).1; omega, by rw [e]; show (perR M).1 ≤ 120; omega, hx⟩
theorem load_less {M : List Dm} (h : AllGood M) {p : Int} (hp : 0 ≤ p) (hp1 : p ≤ 120) : ∀ k, loadN M p k ≤ (k : Int) * 2880
  | 0 => by show (0 : Int) ≤ _; omega
  | k + 1 => by
    have ih := load_less h hp hp1 k
    cases hx : M[k]? with
    | none => rw [load_end hx]; omega
    | some x =>
      have hg := h x (List.mem_of_getElem? hx)
      have h1 := hg.per; have h2 := hg.d2; have h3 := hg.c1; have h4 := hg.d1
      have q1 : p / x.t ≤ p := Int.ediv_le_self _ hp
      have q0 := Int.ediv_nonneg hp (show 0 ≤ x.t by omega)
      have := Int.mul_le_mul (show x.c ≤ 24 by omega) (show p / x.t ≤ 120 by omega) q0 (by omega)
      rw [load_next hx]; omega
theorem load_good {M : List Dm} (h : AllGood M) (hl : M.length ≤ 6) : ldS M = (loadN M (perS M).1 M.length, (perS M).1, 0) ∧ 0 ≤ loadN M (perS M).1 M.length ∧ loadN M (perS M).1 M.length ≤ 17280 := by
  obtain ⟨p1, p2, p3, _⟩ := per_good h hl
  have := load_less h (show 0 ≤ (perS M).1 by omega) p3 M.length
  have h0 : loadN M (perS M).1 0 ≤ loadN M (perS M).1 M.length := load_mono h.ok (by omega) (Nat.zero_le _)
  have h0' : (0 : Int) ≤ loadN M (perS M).1 M.length := h0
  exact ⟨ldS_is p1 (by omega), h0', by omega⟩
theorem periods_good {M : List Dm} (h : AllGood M) (hl : M.length ≤ 6) {t : Int} (ht : 0 ≤ t) : dueA M (t + (perS M).1) = dueA M t + loadN M (perS M).1 M.length := by
  obtain ⟨_, p2, _, p4⟩ := per_good h hl
  exact due_period h.ok ht (by omega) p4 _
/-- The job's deadline that a count reaches. -/
theorem jobs_reach {x : Dm} (h : x.ok) (t : Int) {i : Nat} : ((i : Int) < jobsD x t ↔ (i : Int) * x.t + x.d ≤ t) := by
  have h1 := h.d1; have h2 := h.d2
  obtain ⟨f1, f2⟩ := jobs_fit h t
  have hj := jobs_nonneg h t
  unfold nxtD at f1 f2
  generalize jobsD x t = j at *
  constructor
  · intro hi
    have q := f2 (by omega)
    have := Int.mul_le_mul_of_nonneg_right (show (i : Int) ≤ j - 1 by omega) (show 0 ≤ x.t by omega)
    rw [Int.sub_mul, Int.one_mul] at this
    omega
  · intro hi
    rcases Int.lt_or_le (i : Int) j with q | q
    · exact q
    · have := Int.mul_le_mul_of_nonneg_right q (show 0 ≤ x.t by omega)
      omega
end Go.Proofs.Ytbliagfmpcmfdaa

/-
  The walk over the chapter's example.
-/
namespace Go.Proofs.Ytbliagfmpcmfdaa
open Go.RowKit Go.Maps

set_option maxRecDepth 100000 in
set_option maxHeartbeats 2000000 in
theorem awake_any (w : World) : Calls Try.prog 9 #[] w fun e w' => e = .returned (.bool true) ∧ Below w.heap.size w w' := by
  have OC := Lib.hid (fun v (h : Dems v (some ⟨w.heap.size, 0, none⟩) 1 1 [⟨2, 4, 5⟩]) => pof_any h 10 (by unfold I64; omega))
  have e : ofA [⟨2, 4, 5⟩] 10 = some 4 := by decide
  rw [e] at OC
  have HD : Hid (∀ T, Dems (w.alloc (.cells #[.int .i64 2, .int .i64 4, .int .i64 5] T)) (some ⟨w.heap.size, 0, none⟩) 1 1 [⟨2, 4, 5⟩]) := fun T =>
    ⟨rfl, dm_new w ⟨2, 4, 5⟩ T, Nat.le_refl _, by omega, fun x hx => by rw [List.mem_singleton.1 hx]; exact ⟨⟨by decide, by decide⟩, ⟨by decide, by decide⟩, ⟨by decide, by decide⟩⟩⟩
  clear e
  go_enter Try.func9, Try.ntmps9
  go_wp2_with (go_at_call 14; (with_reducible refine (OC.out _ (HD.out _)).mono ?_); rintro e w1 ⟨rfl, b1⟩)
  go_ret
  exact ⟨rfl, below_up (bw_alloc (Below.refl _ _) _) b1⟩
/-- A row of numbers in a fixed room. -/
theorem and255 (n : Int) : ∃ j : Nat, j ≤ 255 ∧ bits .and .i64 n 255 = (j : Int) := and_small n 255 (by omega)
theorem and127 (n : Int) : ∃ j : Nat, j ≤ 127 ∧ bits .and .i64 n 127 = (j : Int) := and_small n 127 (by omega)
theorem and1023 (n : Int) : ∃ j : Nat, j ≤ 1023 ∧ bits .and .i64 n 1023 = (j : Int) := by
  have hm2 : (BitVec.ofInt 64 (1023 : Int)).toNat = 1023 := by decide
  have h : (BitVec.ofInt 64 n &&& BitVec.ofInt 64 (1023 : Int)).toNat ≤ 1023 := by
    rw [BitVec.toNat_and, hm2]; exact Nat.and_le_right
  refine ⟨_, h, ?_⟩
  show IntKind.i64.wrap _ = _
  exact IntWalk.i64_in _ (by show _ ∧ ((BitVec.ofInt 64 n &&& BitVec.ofInt 64 (1023 : Int)).toNat : Int) ≤ _; omega)
/-- The demands that numbers mean, as a contract. -/
theorem made_dems {w : World} {a : Option Addr} {n : Nat} {l : Nat → Int × Int × Int} (hn : Trips w a n l) (cap : Nat) :
    Calls Try.prog 11 #[.slice a n cap] w fun e w' => (∃ (a' : Option Addr) (N c' : Nat) (M : List Dm), e = .returned (.slice a' N c') ∧ Dems w' a' N c' M ∧ N ≤ 6 ∧ AllGood M) ∧ Below w.heap.size w w' :=
  (made11_any hn cap).mono fun _ _ ⟨⟨a', N, c', M, he, hv, hl, hN, hc, hc9, hg⟩, hb⟩ => ⟨⟨a', N, c', M, he, Dems.good hv hl hc hc9 hg, by omega, hg⟩, hb⟩
end Go.Proofs.Ytbliagfmpcmfdaa
