/- Texts of this claim, put together: YLaw1, KOpen, KOpen2, YTied2. -/
import Derived.Test.YtlpffgmfgkleiaaDoorRows
import Derived.Test.YtlpffgmfgkleiaaDoorMR9
import Derived.Laws.BitsLemmas
import Derived.ProofKit
import Derived.OpenShut
import Derived.Deep.Slices
import Derived.Lib.SmallJoins
import Derived.LaidMore
import Derived.Lay

/-
  The walk over the law of what is read: any bytes; a system's text of which one byte is turned, or left out, or that is cut.
-/
namespace Go.Proofs.YtlpffgmfgkleiaaDoor
open Go.RowKit Go.Maps

theorem conv_byte7 (v : Nat) (h : v < 256) (w : World) (b : Nat) (hc : w.cell? ⟨b, 0, none⟩ = some (.int .u8 (v : Int))) : Sem.run Tryd.prog (convert 34 9 (.slice (some ⟨b, 0, none⟩) 1 1)) w = .ok (.string ⟨#[UInt8.ofNat v]⟩) w := by
  refine run_convert_bytes_back w 34 9 5 ⟨b, 0, none⟩ 1 [UInt8.ofNat v] Tryd.underlying34 Tryd.underlying5 Tryd.underlying9 ?_
  intro j hj
  have : j = 0 := by simp at hj; omega
  subst this
  rw [addr_at, Nat.zero_add, hc]
  have e : (UInt8.ofNat v).toNat = v := by
    rw [UInt8.toNat_ofNat']; omega
  simp only [List.getElem_cons_zero, e]
theorem xor_u8 (x y : Int) : ∃ v : Nat, v < 256 ∧ bits .xor .u8 x y = (v : Int) := by
  obtain ⟨z, hz⟩ : ∃ z : Int, bits .xor .u8 x y = IntKind.u8.wrap z := ⟨_, rfl⟩
  rw [hz, IntKind.wrap_u8]
  exact ⟨(z % 256).toNat, by omega, by omega⟩
theorem run_ge : ∀ (l : List Tk) (h : ByteArray), h.size ≤ (printRun h l).size
  | [], _ => Nat.le_refl _
  | t :: l, h => by
    rw [printRun]
    refine Nat.le_trans ?_ (run_ge l _)
    rw [ByteArray.size_append, ByteArray.size_append]; omega
theorem print_pos {S R : Int} {L : List TV} (h : checkOf S R L = 0) : 0 < (printText S R (L.map TV.tk)).size := by
  rw [print_tk, if_pos h]
  refine Nat.lt_of_lt_of_le ?_ (run_ge _ _)
  unfold headText
  simp only [ByteArray.size_append]
  have : sCache.size = 6 := rfl
  omega
/-- A system by plain numbers, as its callers see it. -/
theorem MadeBack.open_ {w w' : World} {e : Ending} (h : MadeBack w e w') : ∃ (s r : Int) (a : Option Addr) (n c : Nat) (L : List TV), e = .returned (.agg #[.int .i64 s, .int .i64 r, .slice a n c]) ∧ Tasks w' a n c L ∧ checkOf s r L = 0 ∧ Below w.heap.size w w' := by
  obtain ⟨s, r, a, n, c, L, he, ho, hok, -, hm, hb⟩ := h
  obtain ⟨a2, cap2, e2, hv, hl2, hmx⟩ := ho.slice
  cases e2
  exact ⟨s, r, a, _, c, L, he, ⟨rfl, hv, hok, hl2, hmx⟩, check_made hm, hb⟩

set_option maxRecDepth 100000 in
set_option maxHeartbeats 8000000 in
theorem law_reads (w : World) (s : ByteArray) (S R : Int) (a : Option Addr) (n cap : Nat) (L : List NV) (hn : Nums w a n cap L) (how at_ by_ : Int) :
    Calls Tryd.prog 3 #[.string s, .agg #[.int .i64 S, .int .i64 R, .slice a n cap], .agg #[.int .i64 how, .int .i64 at_, .int .u8 by_]] w fun e w' => e = .returned (.bool true) ∧ Below w.heap.size w w' := by
  have hz := w_zeroSys
  have hz2 := zeroAll
  have AW : Hid (∀ v, Below w.heap.size w v → Calls Tryd.prog 8 #[] v fun e w' => e = .returned (.bool true) ∧ Below w.heap.size w w') := fun v hb => (awake_any v).mono fun _ _ ⟨h1, h2⟩ => ⟨h1, below_up hb h2⟩
  obtain ⟨s1, hs1⟩ : ∃ t, shortOf s 200 = t := ⟨_, rfl⟩
  have hs1s : s1.size ≤ 200 := by
    rw [← hs1]; unfold shortOf
    split
    · rw [ByteArray.size_extract]; omega
    · omega
  have SH : Hid (∀ v, Calls Tryd.prog 9 #[.string s, .int .i64 200] v fun e w' => e = .returned (.string s1) ∧ v = w') := fun v => by have := short_any s 200 (by omega) v; rwa [hs1] at this
  have MK : Hid (∀ v, Below w.heap.size w v → Calls Tryd.prog 11 #[.agg #[.int .i64 S, .int .i64 R, .slice a n cap]] v (MadeBack v)) := fun v hb => made5_any S R (hn.below hb)
  have hA0 : ∃ A, bits .and .i64 how 3 = A := ⟨_, rfl⟩
  obtain ⟨A, hA⟩ := hA0
  clear hs1 hn
  go_enter Tryd.func3, Tryd.ntmps3
  go_upto_region 1 with fail
  refine gen_world (fun v => Below w.heap.size w v ∧ Box v w.heap.size 24 #[.int .i64 S, .int .i64 R, .slice a n cap] ∧ Box v (w.heap.size + 1) 26 #[.int .i64 how, .int .i64 at_, .int .u8 by_]) ⟨(by repeat (first | exact Below.refl _ _ | (with_reducible assumption) | refine bw_alloc ?_ _ | refine bw_drew ?_)), kept_obj (b := w.heap.size) (bw_alloc (Below.refl _ _) _) (heap_alloc_new w (.cells #[.int .i64 S, .int .i64 R, .slice a n cap] 24)), by have := heap_alloc_new (w.alloc (.cells #[.int .i64 S, .int .i64 R, .slice a n cap] 24)) (.cells #[.int .i64 how, .int .i64 at_, .int .u8 by_] 26); rwa [World.size_alloc] at this⟩ ?_
  intro u0 ⟨hb0, x0, y0⟩
  have B0 := Lib.hid hb0
  have X0 := Lib.hid x0
  have Y0 := Lib.hid y0
  clear hb0 x0 y0
  go_upto_region 3 with (first
    | (go_at_call 8; (with_reducible refine ((awake_any _).mono ?_)); rintro e u1 ⟨rfl, b1⟩; have X1 := Lib.hid (kept_obj b1 X0.out); have Y1 := Lib.hid (kept_obj b1 Y0.out); have B1 := Lib.hid (below_up B0.out b1); clear b1)
    | (go_at_call 9; (with_reducible refine (SH.out _).mono ?_); rintro e u2 ⟨rfl, rfl⟩))
  clear AW SH B0 X0 Y0
  have q0 : u1.cell? ⟨w.heap.size + 1, 0, none⟩ = some (.int .i64 how) := blk_cell Y1.out 0
  have q1 : u1.cell? ⟨w.heap.size + 1, 1, none⟩ = some (.int .i64 at_) := blk_cell Y1.out 1
  have q2 : u1.cell? ⟨w.heap.size + 1, 2, none⟩ = some (.int .u8 by_) := blk_cell Y1.out 2
  have n0 : u1.cell? ⟨w.heap.size, 0, none⟩ = some (.int .i64 S) := blk_cell X1.out 0
  have n1 : u1.cell? ⟨w.heap.size, 1, none⟩ = some (.int .i64 R) := blk_cell X1.out 1
  have n2 : u1.cell? ⟨w.heap.size, 2, none⟩ = some (.slice a n cap) := blk_cell X1.out 2
  go_upto_if 21 with fail
  go_cut [0, 8, 9] from 18 to 72 (fun u _ _ wx => ∃ x : ByteArray, u = .string x ∧ Hid (x.size ≤ 400000) ∧ Hid (Below w.heap.size w wx))
  case first =>
    by_cases hA0 : A = 0
    · have d1 : (A == 0) = true := by rw [beq_iff_eq]; exact hA0
      have d2 : (A != 0) = false := by rw [bne, d1]; rfl
      go_wp2_with fail
      go_meet
      exact ⟨s1, rfl, (by show _ ≤ _; omega), B1⟩
    · have d1 : (A == 0) = false := by rw [beq_eq_false_iff_ne]; exact hA0
      have d2 : (A != 0) = true := by rw [bne, d1]; rfl
      go_upto_region 5 with (first
        | (go_at_call 11; (with_reducible refine (MK.out _ B1.out).mono ?_); rintro y u2 hm; obtain ⟨s', r', a', n', c', M, rfl, hT, hck, b2⟩ := hm.open_; have HT := Lib.hid hT; have HCK := Lib.hid hck; have B2 := Lib.hid (below_up B1.out b2); have Y2 := Lib.hid (kept_obj b2 Y1.out); clear hT hck b2 hm)
        | (go_at_call 10; (with_reducible refine ((rprint_any _ _ HT.out).mono ?_)); rintro e u3 ⟨rfl, b3⟩; have B3 := Lib.hid (below_up B2.out b3); have Y3 := Lib.hid (kept_obj b3 Y2.out); clear b3))
      clear q0 q1 q2 n0 n1 n2 B1 B2 X1 Y1 Y2 MK
      have hTp := print_pos HCK.out
      have hTs := print_size s' r' M
      generalize printText s' r' (M.map TV.tk) = T at *
      obtain ⟨N, hN⟩ : ∃ N, T.size = N := ⟨_, rfl⟩
      rw [hN] at hTp hTs
      have q0 : u3.cell? ⟨w.heap.size + 1, 0, none⟩ = some (.int .i64 how) := blk_cell Y3.out 0
      have q1 : u3.cell? ⟨w.heap.size + 1, 1, none⟩ = some (.int .i64 at_) := blk_cell Y3.out 1
      have q2 : u3.cell? ⟨w.heap.size + 1, 2, none⟩ = some (.int .u8 by_) := blk_cell Y3.out 2
      obtain ⟨t, k, e1, f2, f3, f4, f5⟩ : ∃ (t : Int) (k : Nat), at_.tmod N = t ∧ -(N : Int) < t ∧ t < N ∧ (t + N) % N = (k : Int) ∧ k < N := by
        have a := Int.tmod_lt_of_pos at_ (show (0 : Int) < N by omega)
        have b := Int.lt_tmod_of_pos at_ (show (0 : Int) < N by omega)
        have c := Int.emod_nonneg (at_.tmod N + N) (show (N : Int) ≠ 0 by omega)
        have d := Int.emod_lt_of_pos (at_.tmod N + N) (show (0 : Int) < N by omega)
        exact ⟨at_.tmod N, ((at_.tmod N + N) % N).toNat, rfl, b, a, by omega, by omega⟩
      have w1 : IntKind.i64.wrap (t + (N : Int)) = t + N := IntWalk.i64_in _ (by omega)
      have w2 : (t + (N : Int)).tmod N = (k : Int) := by rw [Int.tmod_eq_emod_of_nonneg (by omega)]; exact f4
      have z1 : ((N : Int) == 0) = false := by rw [beq_eq_false_iff_ne]; omega
      have z2 : ¬ (N : Int) = 0 := by omega
      have z3 : ¬ N = 0 := by omega
      have z4 : 0 ≤ t + (N : Int) := by omega
      have k0 : (0 : Int) ≤ (k : Int) := by omega
      have k1 : (k : Int) < (N : Int) := by omega
      have k2 : (k : Int) ≤ (N : Int) := by omega
      have k3 : IntKind.i64.wrap ((k : Int) + 1) = (k : Int) + 1 := IntWalk.i64_in _ (by omega)
      have k4 : (0 : Int) ≤ (k : Int) + 1 := by omega
      have k5 : (k : Int) + 1 ≤ (N : Int) := by omega
      have z9 := @IntKind.wrap_i64
      go_upto_if 42 with fail
      clear e1 w1 w2 z1 z2 z3 z4 f2 f3 f4 z9 q1
      by_cases hA1 : A = 1
      · subst hA1
        have hkT : k < T.size := by omega
        obtain ⟨v, hv, hxor⟩ := xor_u8 ((T[k]'hkT).toNat : Int) by_
        obtain ⟨P, hP⟩ : ∃ P, T.extract 0 k = P := ⟨_, rfl⟩
        obtain ⟨Q, hQ⟩ : ∃ Q, T.extract (k + 1) N = Q := ⟨_, rfl⟩
        have hPs : P.size ≤ 300000 := by rw [← hP, ByteArray.size_extract]; omega
        have hQs : Q.size ≤ 300000 := by rw [← hQ, ByteArray.size_extract]; omega
        obtain ⟨r1, hr1⟩ : ∃ r : ByteArray, P ++ ⟨#[UInt8.ofNat v]⟩ = r := ⟨_, rfl⟩
        obtain ⟨r2, hr2⟩ : ∃ r : ByteArray, r1 ++ Q = r := ⟨_, rfl⟩
        have hos : (⟨#[UInt8.ofNat v]⟩ : ByteArray).size = 1 := rfl
        have hs1' : r1.size = P.size + 1 := by rw [← hr1, ByteArray.size_append, hos]
        have hs2' : r2.size = r1.size + Q.size := by rw [← hr2, ByteArray.size_append]
        have a1 := add_str P ⟨#[UInt8.ofNat v]⟩ r1 hr1 (by rw [hos]; omega)
        have a2 := add_str r1 Q r2 hr2 (by omega)
        have hcv := conv_byte7 v hv
        have HR2 : Hid (r2.size ≤ 400000) := by
          show _ ≤ _
          have : P.size + Q.size ≤ N := by rw [← hP, ← hQ, ByteArray.size_extract, ByteArray.size_extract]; omega
          omega
        clear hPs hQs hr1 hr2 hos hs1' hs2' hv
        have hNi : (T.size : Int) = (N : Int) := by rw [hN]
        go_cut [0] from 18 to 60 (fun u wx => u = .string r2 ∧ Hid (Below u3.heap.size u3 wx))
        case first =>
          go_wp2_with fail
          go_region_law (fail)
          all_goals
            go_step
            go_simp
            go_step
            go_meet
            exact ⟨rfl, Lib.hid (by repeat (first | exact Below.refl _ _ | (with_reducible assumption) | refine bw_alloc ?_ _ | refine bw_drew ?_))⟩
        case rest =>
          obtain ⟨rfl, HB8⟩ := hcut
          have q8 := kept_cell HB8.out q0
          go_wp2_with fail
          go_meet
          exact ⟨r2, rfl, HR2, Lib.hid (below_up B3.out HB8.out)⟩
      by_cases hA2 : A = 2
      · subst hA2
        obtain ⟨P, hP⟩ : ∃ P, T.extract 0 k = P := ⟨_, rfl⟩
        obtain ⟨Q, hQ⟩ : ∃ Q, T.extract (k + 1) N = Q := ⟨_, rfl⟩
        have hPs : P.size ≤ 300000 := by rw [← hP, ByteArray.size_extract]; omega
        have hQs : Q.size ≤ 300000 := by rw [← hQ, ByteArray.size_extract]; omega
        obtain ⟨r2, hr2⟩ : ∃ r : ByteArray, P ++ Q = r := ⟨_, rfl⟩
        have a2 := add_str P Q r2 hr2 (by omega)
        have HR2 : Hid (r2.size ≤ 400000) := by
          show _ ≤ _
          have : P.size + Q.size ≤ N := by rw [← hP, ← hQ, ByteArray.size_extract, ByteArray.size_extract]; omega
          rw [← hr2, ByteArray.size_append]; omega
        clear hPs hQs hr2
        go_wp2_with fail
        go_quiet (fail)
        have hb6 : Below u3.heap.size u3 (u3.drewN nq) := below_same (Below.refl _ _) rfl rfl rfl rfl
        go_wp2_with fail
        go_meet
        exact ⟨r2, rfl, HR2, Lib.hid (below_up B3.out hb6)⟩
      · have d3 : (A == 1) = false := by rw [beq_eq_false_iff_ne]; exact hA1
        have d4 : (A == 2) = false := by rw [beq_eq_false_iff_ne]; exact hA2
        go_wp2_with fail
        go_meet
        exact ⟨_, rfl, (by show _ ≤ _; rw [ByteArray.size_extract]; omega), B3⟩
  case rest =>
    obtain ⟨x, rfl, hx, HB⟩ := hcut
    have C1 : Hid (∀ v, Calls Tryd.prog 12 #[.string x] v (TryIs x v)) := fun v => parse_any x (by have := hx.out; omega) v
    have C2 : Hid (∀ v, Calls Tryd.prog 13 #[.string x] v (RParseIs x v)) := fun v => rparse_any x (by have := hx.out; omega) v
    unfold TryIs at C1
    unfold RParseIs at C2
    generalize outOf x = O at C1 C2
    obtain ⟨S', R', l, p, e0⟩ := O
    simp only [] at C1 C2
    clear X1 Y1 B1 q0 q1 q2 n0 n1 n2 MK hx hA
    go_upto_region 12 with (go_at_call 12; (with_reducible refine (C1.out _).mono ?_); rintro y u2 ⟨a2, n2, k2, rfl, h2, b2⟩; have H2 := Lib.hid h2; have B2 := Lib.hid (below_up HB.out b2); clear h2 b2)
    have hbox := heap_alloc_new u2 (.cells #[.int .i64 S', .int .i64 R', .slice a2 n2 k2] SysT)
    have hsz := lt_of_block hbox
    obtain ⟨L1, hL1, hT1, -⟩ := H2.out.open_
    refine gen_world (fun v => Below w.heap.size w v ∧ Box v u2.heap.size SysT #[.int .i64 S', .int .i64 R', .slice a2 n2 k2] ∧ Tasks v a2 n2 k2 L1) ⟨bw_alloc B2.out _, hbox, hT1.below (bw_alloc (Below.refl _ _) _)⟩ ?_
    clear hbox hsz hT1
    intro u3 ⟨hb3, hx3, ht3⟩
    have B3 := Lib.hid hb3
    have X3 := Lib.hid hx3
    have T3 := Lib.hid ht3
    clear hb3 hx3 ht3 H2 B2 HB
    go_upto_region 13 with (go_at_call 13; (with_reducible refine (C2.out _).mono ?_); rintro y u4 ⟨a4, n4, k4, rfl, h4, b4⟩; have H4 := Lib.hid h4; have B4 := Lib.hid (below_up B3.out b4); have X4 := Lib.hid (kept_obj b4 X3.out); have T4 := Lib.hid (T3.out.below b4); clear h4 b4)
    obtain ⟨L2, hL2, hT2, -⟩ := H4.out.open_
    have hbb : Below u4.heap.size u4 (u4.alloc (.cells #[.int .i64 S', .int .i64 R', .slice a4 n4 k4, .int .i64 p, .int .i64 e0] AllT)) := bw_alloc (Below.refl _ _) _
    refine gen_world (fun v => Below w.heap.size w v ∧ Box v u2.heap.size SysT #[.int .i64 S', .int .i64 R', .slice a2 n2 k2] ∧ Tasks v a2 n2 k2 L1 ∧ Box v u4.heap.size AllT #[.int .i64 S', .int .i64 R', .slice a4 n4 k4, .int .i64 p, .int .i64 e0] ∧ Tasks v a4 n4 k4 L2) ⟨below_up B4.out hbb, kept_obj hbb X4.out, T4.out.below hbb, heap_alloc_new _ _, hT2.below hbb⟩ ?_
    clear hbb hT2
    intro u5 ⟨hb5, hx5, ht5, hy5, ht6⟩
    have B5 := Lib.hid hb5
    have SS : Hid (Calls Tryd.prog 14 #[.agg #[.int .i64 S', .int .i64 R', .slice a2 n2 k2], .agg #[.int .i64 S', .int .i64 R', .slice a4 n4 k4]] u5 fun e w' => e = .returned (.bool true) ∧ Below u5.heap.size u5 w') := by
      have := rsame_sys S' R' ht5 ht6
      rwa [decide_eq_true (hL1.trans hL2.symm)] at this
    have p0 : u5.cell? ⟨u2.heap.size, 0, none⟩ = some (.int .i64 S') := blk_cell hx5 0
    have p1 : u5.cell? ⟨u2.heap.size, 1, none⟩ = some (.int .i64 R') := blk_cell hx5 1
    have p2 : u5.cell? ⟨u2.heap.size, 2, none⟩ = some (.slice a2 n2 k2) := blk_cell hx5 2
    have r0 : u5.cell? ⟨u4.heap.size, 0, none⟩ = some (.int .i64 S') := blk_cell hy5 0
    have r1 : u5.cell? ⟨u4.heap.size, 1, none⟩ = some (.int .i64 R') := blk_cell hy5 1
    have r2 : u5.cell? ⟨u4.heap.size, 2, none⟩ = some (.slice a4 n4 k4) := blk_cell hy5 2
    have r3 : u5.cell? ⟨u4.heap.size, 3, none⟩ = some (.int .i64 p) := blk_cell hy5 3
    have r4 : u5.cell? ⟨u4.heap.size, 4, none⟩ = some (.int .i64 e0) := blk_cell hy5 4
    clear hb5 hx5 ht5 hy5 ht6 B3 B4 X3 X4 T3 T4 H4 hL1 hL2
    go_wp2_with (go_at_call 14; (with_reducible refine (SS.out).mono ?_); rintro e u6 ⟨rfl, b6⟩; have B6 := Lib.hid (below_up B5.out b6); have r3' := kept_cell b6 r3; have r4' := kept_cell b6 r4; clear b6)
    go_ret
    exact ⟨rfl, B6.out⟩
end Go.Proofs.YtlpffgmfgkleiaaDoor

/-
  Tasks and systems that came in, opened.
-/
namespace Go.Proofs.YtlpffgmfgkleiaaDoor
open Go.ChangeShapes Go.WideShapes Go.ChangeAt Go.RowKit

instance : Inhabited TV := ⟨⟨0, 0, 0, 0, 0, none, [], 0, none, [], 0⟩⟩
section
variable {H : Type} {enc : TypeId × Value → H} {W : World} {base : Nat} {spare : Nat → Bool} {held : Bool}

/-- A row of numbers. -/
theorem open_nums {t e : TypeId} {fuel : Nat} {v : Value} {x : DataW H × List MemPlace} (ht : Tryd.prog.underlying t = some (.slice e)) (he : Tryd.prog.underlying e = some (.int .i64)) (hc : Tryd.prog.cellsOf e = 1)
    (h : DataW.trod enc Tryd.prog W base spare held fuel t [v] = some x) : ∃ (a : Option Addr) (l : List Int) (c : Nat), v = .slice a l.length c ∧ Ints W a l ∧ l.length ≤ c ∧ (c : Int) ≤ 9223372036854775807 ∧ ∀ y ∈ l, I64 y := by
  rcases open_ints ht he hc h with ⟨hcs, _⟩ | ⟨a, len, cap, zs, hcs, _, hl, hm, hz, _, hcell, hw⟩
  · simp at hcs; subst hcs
    exact ⟨none, [], 0, rfl, .inl rfl, Nat.le_refl _, by omega, fun y hy => by cases hy⟩
  · simp at hcs; subst hcs
    have hlz : len ≤ zs.length := by rw [hz]; split <;> omega
    have hlen : (zs.take len).length = len := by rw [List.length_take]; omega
    refine ⟨some a, zs.take len, cap, by rw [hlen], ?_, by omega, by unfold maxLen at hm; omega, fun y hy => i64_of_wf (hw y (List.mem_of_mem_take hy))⟩
    rcases Nat.eq_zero_or_pos len with e | e
    · left; rw [e]; simp
    · right
      have h0 := hcell 0 (by omega)
      rcases a with ⟨b, off, spot⟩
      have hs : spot = none := by
        cases spot with
        | none => rfl
        | some s => simp [World.cell?, Addr.add] at h0; split at h0 <;> simp at h0
      subst hs
      refine ⟨b, off, rfl, fun j u hj => ?_⟩
      rw [List.getElem?_take] at hj
      split at hj
      · obtain ⟨q1, q2⟩ := List.getElem?_eq_some_iff.1 hj
        have := hcell j q1
        rw [addr_at] at this
        rw [this]
        simp [List.getD_eq_getElem?_getD, hj]
      · cases hj

set_option maxRecDepth 100000 in
/-- The cells of a task. -/
theorem open_cells {fuel : Nat} {cs : List Value} {y : DataW H × List MemPlace} (h : DataW.trod enc Tryd.prog W base spare held fuel TT cs = some y) : ∃ x : TV, cs = x.cells ∧ x.ok W ∧ I64 x.p ∧ I64 x.id := by
  obtain ⟨xs, n, _, _, hl, hlen, hf⟩ := DataW.trod_struct Tryd.underlying52 h
  have hl7 : cs.length = 7 := hl.trans (by kernel_rfl)
  have hx7 : xs.length = 7 := hlen
  have k1 : Tryd.prog.cellsOf 3 = 1 := by kernel_rfl
  have k2 : Tryd.prog.cellsOf 2 = 1 := by kernel_rfl
  have k3 : Tryd.prog.cellsOf 49 = 1 := by kernel_rfl
  have k4 : Tryd.prog.cellsOf 50 = 1 := by kernel_rfl
  match cs, hl7, xs, hx7 with
  | [v0, v1, v2, v3, v4, v5, v6], _, [y0, y1, y2, y3, y4, y5, y6], _ =>
    have t0 : DataW.trod enc Tryd.prog W base spare held n 3 [v0] = some y0 := by have q := hf 0 _ rfl; simpa [k1, k2, k3, k4] using q
    have t1 : DataW.trod enc Tryd.prog W base spare held n 2 [v1] = some y1 := by have q := hf 1 _ rfl; simpa [k1, k2, k3, k4] using q
    have t2 : DataW.trod enc Tryd.prog W base spare held n 2 [v2] = some y2 := by have q := hf 2 _ rfl; simpa [k1, k2, k3, k4] using q
    have t3 : DataW.trod enc Tryd.prog W base spare held n 2 [v3] = some y3 := by have q := hf 3 _ rfl; simpa [k1, k2, k3, k4] using q
    have t4 : DataW.trod enc Tryd.prog W base spare held n 3 [v4] = some y4 := by have q := hf 4 _ rfl; simpa [k1, k2, k3, k4] using q
    have t5 : DataW.trod enc Tryd.prog W base spare held n 49 [v5] = some y5 := by have q := hf 5 _ rfl; simpa [k1, k2, k3, k4] using q
    have t6 : DataW.trod enc Tryd.prog W base spare held n 50 [v6] = some y6 := by have q := hf 6 _ rfl; simpa [k1, k2, k3, k4] using q
    obtain ⟨n0, e0, _, w0⟩ := DataW.trod_int Tryd.underlying3 t0
    obtain ⟨n1, e1, _, w1⟩ := DataW.trod_int Tryd.underlying2 t1
    obtain ⟨n2, e2, _, w2⟩ := DataW.trod_int Tryd.underlying2 t2
    obtain ⟨n3, e3, _, w3⟩ := DataW.trod_int Tryd.underlying2 t3
    obtain ⟨n4, e4, _, w4⟩ := DataW.trod_int Tryd.underlying3 t4
    obtain ⟨a1, l1, c1, e5, i5, le5, m5, _⟩ := open_nums (v := v5) Tryd.underlying49 Tryd.underlying2 k2 t5
    obtain ⟨a2, l2, c2, e6, i6, le6, m6, _⟩ := open_nums (v := v6) Tryd.underlying50 Tryd.underlying3 k1 t6
    simp at e0 e1 e2 e3 e4
    subst e0 e1 e2 e3 e4 e5 e6
    exact ⟨⟨n0, n1, n2, n3, n4, a1, l1, c1, a2, l2, c2⟩, rfl, ⟨i5, i6, le5, m5, le6, m6⟩, i64_of_wf w4, i64_of_wf w0⟩

set_option maxRecDepth 100000 in
/-- A task by value. -/
theorem open_task {r : Reach} {b0 : Nat} {v : Value} {d : DataW H} {p : List MemPlace} (hv : Value.okWide Tryd.prog W r b0 TT v) (h : DataW.Trod enc Tryd.prog W base spare held TT v d p) : ∃ x : TV, v = x.val ∧ x.ok W ∧ I64 x.p ∧ I64 x.id := by
  obtain ⟨cs, rfl, _⟩ := okWide_struct Tryd.underlying52 hv
  obtain ⟨fuel, hf⟩ := h
  obtain ⟨x, hx, h1, h2⟩ := open_cells hf
  refine ⟨x, ?_, h1, h2⟩
  simp only [Value.cells] at hx
  unfold TV.val
  congr 1
  apply Array.ext'
  exact hx

set_option maxRecDepth 100000 in
/-- A row of tasks. -/
theorem open_tasks {fuel : Nat} {v : Value} {y : DataW H × List MemPlace} (h : DataW.trod enc Tryd.prog W base spare held fuel 30 [v] = some y) :
    ∃ (a : Option Addr) (n c : Nat) (L : List TV), v = .slice a n c ∧ Tasks W a n c L ∧ ∀ x ∈ L, I64 x.p ∧ I64 x.id := by
  rcases Go.Deep.open_slice Tryd.underlying30 h with ⟨hcs, _⟩ | ⟨a, len, cap, m, n, D, Pl, hcs, hb, hl, hm, hmm, hx, hi⟩
  · simp at hcs; subst hcs
    exact ⟨none, 0, 0, [], rfl, ⟨rfl, .inl rfl, (fun x hx => by cases hx), Nat.le_refl _, by omega⟩, (fun x hx => by cases hx)⟩
  · simp at hcs; subst hcs
    have k7 : Tryd.prog.cellsOf TT = 7 := by kernel_rfl
    have hlm : len ≤ m := by rw [hmm]; split <;> omega
    obtain ⟨O, hO⟩ := Go.Deep.choose_lt (n := len) (p := fun i (x : TV) => (x.ok W ∧ I64 x.p ∧ I64 x.id) ∧ ∀ j u, x.cells[j]? = some u → W.cell? (a.add (i * 7 + j)) = some u) (fun i hil => by
      obtain ⟨cs, hc, htr⟩ := hi i (by omega)
      rw [k7] at hc
      obtain ⟨_, hcl, hat⟩ := World.cells?_some hc
      obtain ⟨x, rfl, h1, h2⟩ := open_cells htr
      refine ⟨x, ⟨h1, h2⟩, fun j u hj => ?_⟩
      have hjl : j < 7 := by
        have := (List.getElem?_eq_some_iff.1 hj).1
        rwa [cells_len] at this
      have := hat j hjl
      rw [Go.Deep.add_add] at this
      rw [this]; exact hj)
    refine ⟨some a, len, cap, (List.range len).map O, rfl, ⟨by simp, ?_, ?_, hl, by unfold maxLen at hm; omega⟩, ?_⟩
    · rcases Nat.eq_zero_or_pos len with z | z
      · subst z; left; rfl
      have z0 := (hO 0 z).2 0 _ rfl
      rcases a with ⟨b, off, spot⟩
      have hs : spot = none := by
        cases spot with
        | none => rfl
        | some s => simp [World.cell?, Addr.add] at z0; split at z0 <;> simp at z0
      subst hs
      refine .inr ⟨b, off, rfl, fun j u hj => ?_⟩
      have hjl : j < len * 7 := by
        have := (List.getElem?_eq_some_iff.1 hj).1
        rwa [flat_len, List.length_map, List.length_range] at this
      have hk : ((List.range len).map O)[j / 7]? = some (O (j / 7)) := by simp [show j / 7 < len by omega]
      have hf := flat_at _ _ _ hk (j % 7) (by omega)
      rw [show j / 7 * 7 + j % 7 = j by omega, hj] at hf
      have := (hO (j / 7) (by omega)).2 (j % 7) u hf.symm
      rw [addr_at, show j / 7 * 7 + j % 7 = j by omega] at this
      exact this
    · intro x hx
      obtain ⟨i, hi, rfl⟩ := List.mem_map.1 hx
      exact (hO i (by simpa using hi)).1.1
    · intro x hx
      obtain ⟨i, hi, rfl⟩ := List.mem_map.1 hx
      exact (hO i (by simpa using hi)).1.2

set_option maxRecDepth 100000 in
/-- A system by value. -/
theorem open_system {r : Reach} {b0 : Nat} {v : Value} {d : DataW H} {p : List MemPlace} (hv : Value.okWide Tryd.prog W r b0 32 v) (h : DataW.Trod enc Tryd.prog W base spare held 32 v d p) :
    ∃ (s r : Int) (a : Option Addr) (n c : Nat) (L : List TV), v = .agg #[.int .i64 s, .int .i64 r, .slice a n c] ∧ Tasks W a n c L ∧ ∀ x ∈ L, I64 x.p ∧ I64 x.id := by
  obtain ⟨v0, v1, v2, y0, y1, y2, n, rfl, _, _, t0, t1, t2⟩ := Go.Joins.open_agg3 Tryd.underlying32 (by kernel_rfl) (by kernel_rfl) hv h
  obtain ⟨n0, e0, _, _⟩ := DataW.trod_int Tryd.underlying3 t0
  obtain ⟨n1, e1, _, _⟩ := DataW.trod_int Tryd.underlying2 t1
  obtain ⟨a, n2, c, L, e2, h2, h3⟩ := open_tasks t2
  simp at e0 e1
  subst e0 e1 e2
  exact ⟨n0, n1, a, n2, c, L, rfl, h2, h3⟩
end
end Go.Proofs.YtlpffgmfgkleiaaDoor

/-
  A system by plain numbers that came in, opened.
-/
namespace Go.Proofs.YtlpffgmfgkleiaaDoor
open Go.ChangeShapes Go.WideShapes Go.ChangeAt Go.RowKit

instance : Inhabited NV := ⟨⟨0, 0, 0, 0, 0, none, [], 0⟩⟩
section
variable {H : Type} {enc : TypeId × Value → H} {W : World} {base : Nat} {spare : Nat → Bool} {held : Bool}

set_option maxRecDepth 100000 in
/-- The cells of a task's plain numbers. -/
theorem open_ncells {fuel : Nat} {cs : List Value} {y : DataW H × List MemPlace} (h : DataW.trod enc Tryd.prog W base spare held fuel 60 cs = some y) : ∃ x : NV, cs = x.cells ∧ x.ok W := by
  obtain ⟨xs, n, _, _, hl, hlen, hf⟩ := DataW.trod_struct Tryd.underlying60 h
  have hl7 : cs.length = 6 := hl.trans (by kernel_rfl)
  have hx7 : xs.length = 6 := hlen
  have k1 : Tryd.prog.cellsOf 3 = 1 := by kernel_rfl
  have k4 : Tryd.prog.cellsOf 50 = 1 := by kernel_rfl
  match cs, hl7, xs, hx7 with
  | [v0, v1, v2, v3, v4, v5], _, [y0, y1, y2, y3, y4, y5], _ =>
    have t0 : DataW.trod enc Tryd.prog W base spare held n 3 [v0] = some y0 := by have q := hf 0 _ rfl; simpa [k1, k4] using q
    have t1 : DataW.trod enc Tryd.prog W base spare held n 3 [v1] = some y1 := by have q := hf 1 _ rfl; simpa [k1, k4] using q
    have t2 : DataW.trod enc Tryd.prog W base spare held n 3 [v2] = some y2 := by have q := hf 2 _ rfl; simpa [k1, k4] using q
    have t3 : DataW.trod enc Tryd.prog W base spare held n 3 [v3] = some y3 := by have q := hf 3 _ rfl; simpa [k1, k4] using q
    have t4 : DataW.trod enc Tryd.prog W base spare held n 3 [v4] = some y4 := by have q := hf 4 _ rfl; simpa [k1, k4] using q
    have t5 : DataW.trod enc Tryd.prog W base spare held n 50 [v5] = some y5 := by have q := hf 5 _ rfl; simpa [k1, k4] using q
    obtain ⟨n0, e0, _, _⟩ := DataW.trod_int Tryd.underlying3 t0
    obtain ⟨n1, e1, _, _⟩ := DataW.trod_int Tryd.underlying3 t1
    obtain ⟨n2, e2, _, _⟩ := DataW.trod_int Tryd.underlying3 t2
    obtain ⟨n3, e3, _, _⟩ := DataW.trod_int Tryd.underlying3 t3
    obtain ⟨n4, e4, _, _⟩ := DataW.trod_int Tryd.underlying3 t4
    obtain ⟨a2, l2, c2, e5, i6, le6, m6, _⟩ := open_nums (v := v5) Tryd.underlying50 Tryd.underlying3 k1 t5
    simp at e0 e1 e2 e3 e4
    subst e0 e1 e2 e3 e4 e5
    exact ⟨⟨n0, n1, n2, n3, n4, a2, l2, c2⟩, rfl, ⟨i6, le6, m6⟩⟩

set_option maxRecDepth 100000 in
/-- A row of tasks' plain numbers. -/
theorem open_nrow {fuel : Nat} {v : Value} {y : DataW H × List MemPlace} (h : DataW.trod enc Tryd.prog W base spare held fuel 22 [v] = some y) :
    ∃ (a : Option Addr) (n c : Nat) (L : List NV), v = .slice a n c ∧ Nums W a n c L := by
  rcases Go.Deep.open_slice Tryd.underlying22 h with ⟨hcs, _⟩ | ⟨a, len, cap, m, n, D, Pl, hcs, hb, hl, hm, hmm, hx, hi⟩
  · simp at hcs; subst hcs
    exact ⟨none, 0, 0, [], rfl, ⟨rfl, .inl rfl, (fun x hx => by cases hx), by omega⟩⟩
  · simp at hcs; subst hcs
    have k7 : Tryd.prog.cellsOf 60 = 6 := by kernel_rfl
    have hlm : len ≤ m := by rw [hmm]; split <;> omega
    obtain ⟨O, hO⟩ := Go.Deep.choose_lt (n := len) (p := fun i (x : NV) => x.ok W ∧ ∀ j u, x.cells[j]? = some u → W.cell? (a.add (i * 6 + j)) = some u) (fun i hil => by
      obtain ⟨cs, hc, htr⟩ := hi i (by omega)
      rw [k7] at hc
      obtain ⟨_, hcl, hat⟩ := World.cells?_some hc
      obtain ⟨x, rfl, h1⟩ := open_ncells htr
      refine ⟨x, h1, fun j u hj => ?_⟩
      have hjl : j < 6 := by
        have := (List.getElem?_eq_some_iff.1 hj).1
        rwa [ncells_len] at this
      have := hat j hjl
      rw [Go.Deep.add_add] at this
      rw [this]; exact hj)
    refine ⟨some a, len, cap, (List.range len).map O, rfl, ⟨by simp, ?_, ?_, by unfold maxLen at hm; omega⟩⟩
    · rcases Nat.eq_zero_or_pos len with z | z
      · subst z; left; rfl
      have z0 := (hO 0 z).2 0 _ rfl
      rcases a with ⟨b, off, spot⟩
      have hs : spot = none := by
        cases spot with
        | none => rfl
        | some s => simp [World.cell?, Addr.add] at z0; split at z0 <;> simp at z0
      subst hs
      refine .inr ⟨b, off, rfl, fun j u hj => ?_⟩
      have hjl : j < len * 6 := by
        have := (List.getElem?_eq_some_iff.1 hj).1
        rwa [nflat_len, List.length_map, List.length_range] at this
      have hk : ((List.range len).map O)[j / 6]? = some (O (j / 6)) := by simp [show j / 6 < len by omega]
      have hf := nflat_at _ _ _ hk (j % 6) (by omega)
      rw [show j / 6 * 6 + j % 6 = j by omega, hj] at hf
      have := (hO (j / 6) (by omega)).2 (j % 6) u hf.symm
      rw [addr_at, show j / 6 * 6 + j % 6 = j by omega] at this
      exact this
    · intro x hx
      obtain ⟨i, hi, rfl⟩ := List.mem_map.1 hx
      exact (hO i (by simpa using hi)).1

set_option maxRecDepth 100000 in
/-- A system by plain numbers, by value. -/
theorem open_nsys {r : Reach} {b0 : Nat} {v : Value} {d : DataW H} {p : List MemPlace} (hv : Value.okWide Tryd.prog W r b0 24 v) (h : DataW.Trod enc Tryd.prog W base spare held 24 v d p) :
    ∃ (s r : Int) (a : Option Addr) (n c : Nat) (L : List NV), v = .agg #[.int .i64 s, .int .i64 r, .slice a n c] ∧ Nums W a n c L := by
  obtain ⟨v0, v1, v2, y0, y1, y2, n, rfl, _, _, t0, t1, t2⟩ := Go.Joins.open_agg3 Tryd.underlying24 (by kernel_rfl) (by kernel_rfl) hv h
  obtain ⟨n0, e0, _, _⟩ := DataW.trod_int Tryd.underlying3 t0
  obtain ⟨n1, e1, _, _⟩ := DataW.trod_int Tryd.underlying3 t1
  obtain ⟨a, n2, c, L, e2, h2⟩ := open_nrow t2
  simp at e0 e1
  subst e0 e1 e2
  exact ⟨n0, n1, a, n2, c, L, rfl, h2⟩
end
end Go.Proofs.YtlpffgmfgkleiaaDoor

/-
  What the two listed tables hold where a call begins; a start at which they hold it; how bytes are turned, opened.
-/
namespace Go.Proofs.YtlpffgmfgkleiaaDoor
open Go.ChangeShapes Go.WideShapes Go.ChangeAt Go.RowKit

theorem tiedOwn7 : ownKnob Tryd.prog.godebug = none := by kernel_rfl
theorem tiedLaidOut7 : laidOutB Tryd.prog = true := by kernel_rfl
abbrev tabLaid2 : List (String × DataW Unit) := [("unicode/utf8.acceptRanges", Rows.laid_unicode_utf8_acceptRanges), ("unicode/utf8.first", Rows.laid_unicode_utf8_first)]
theorem all_shaped2 (os : Os) : (World.laidAll Tryd.prog os tabLaid2).Shaped Tryd.prog := World.shaped_of_ZipB (by kernel_rfl) (by kernel_rfl)
theorem door_met2 (os : Os) (args : Array Value) : laidMetH Tryd.prog tabLaid2 ((World.laidAll Tryd.prog os tabLaid2).forCall (fun _ _ => 0) ⟨#[], args, []⟩).memory := by
  rw [MakeChecks.laidMetH_plain _ _ _ (by kernel_rfl)]
  exact laidMet_laidAll _ (by kernel_rfl) (by kernel_rfl)
section
variable {H : Type} {enc : TypeId × Value → H} {W : World} {base : Nat} {spare : Nat → Bool} {held : Bool}
set_option maxRecDepth 100000 in
theorem open_turn {r : Reach} {b0 : Nat} {v : Value} {d : DataW H} {p : List MemPlace} (hv : Value.okWide Tryd.prog W r b0 26 v) (h : DataW.Trod enc Tryd.prog W base spare held 26 v d p) :
    ∃ (how at_ by_ : Int), v = .agg #[.int .i64 how, .int .i64 at_, .int .u8 by_] := by
  obtain ⟨v0, v1, v2, y0, y1, y2, n, rfl, _, _, t0, t1, t2⟩ := Go.Joins.open_agg3 Tryd.underlying26 (by kernel_rfl) (by kernel_rfl) hv h
  obtain ⟨n0, e0, _, _⟩ := DataW.trod_int Tryd.underlying3 t0
  obtain ⟨n1, e1, _, _⟩ := DataW.trod_int Tryd.underlying3 t1
  obtain ⟨n2, e2, _, _⟩ := DataW.trod_int Tryd.underlying5 t2
  simp at e0 e1 e2
  subst e0 e1 e2
  exact ⟨n0, n1, n2, rfl⟩
end
end Go.Proofs.YtlpffgmfgkleiaaDoor
