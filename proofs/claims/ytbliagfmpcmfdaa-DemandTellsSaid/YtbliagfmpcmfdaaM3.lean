/- Texts of this claim, put together: GR5, Shelf, Arith, Fold, Sums, GP2, GMade, GDems, GP3. -/
import Derived.Test.YtbliagfmpcmfdaaProg
import Derived.Test.YtbliagfmpcmfdaaRows
import Derived.Test.YtbliagfmpcmfdaaM2
import Derived.Shelf.Bits.Mul64
import Derived.WalkKit
import Derived.WalkSpells
import Derived.WalkLawsBesides
import Derived.Laws.Externs
import Derived.Shelf.Spec.BitsCarry
import Derived.Lib.Hide
import Derived.Deep.QuietTactic
import Derived.BigQuiet
import Derived.Conc.MuLone
set_option linter.unusedVariables false
set_option linter.unusedSimpArgs false

/-
  The walk over the document's work of a period.
-/
namespace Go.Proofs.Ytbliagfmpcmfdaa
open Go.RowKit Go.Maps

/-- The work of a period, the period, or why there is none. -/
def ldS (l : List Dm) : Int × Int × Int := if (perS l).2 = 0 then (if loadN l (perS l).1 l.length ≤ 4611686018427387904 then (loadN l (perS l).1 l.length, (perS l).1, 0) else (0, 0, 16)) else (0, 0, (perS l).2)
theorem ldS_bad {l : List Dm} (h : (perS l).2 ≠ 0) : ldS l = (0, 0, (perS l).2) := if_neg h
theorem ldS_is {l : List Dm} (h : (perS l).2 = 0) (h1 : loadN l (perS l).1 l.length ≤ 4611686018427387904) : ldS l = (loadN l (perS l).1 l.length, (perS l).1, 0) := by unfold ldS; rw [if_pos h, if_pos h1]
theorem ldS_over {l : List Dm} (h : (perS l).2 = 0) (h1 : 4611686018427387904 < loadN l (perS l).1 l.length) : ldS l = (0, 0, 16) := by unfold ldS; rw [if_pos h, if_neg (by omega)]
theorem perS_ok {l : List Dm} (h : (perS l).2 = 0) : okL l = true ∧ (perR l).2 = true ∧ (perS l).1 = (perR l).1 ∧ 0 < (perS l).1 ∧ (perS l).1 ≤ 1048576 ∧ ∀ x ∈ l, x.t ∣ (perS l).1 := by
  by_cases h1 : okL l = true
  · by_cases h2 : (perR l).2 = true ∧ (perR l).1 ≤ 1048576
    · have e := perS_is h1 h2.1 h2.2
      obtain ⟨p1, p2⟩ := (per_pos h1).2 h2.1
      rw [e]
      exact ⟨h1, h2.1, rfl, p1, h2.2, p2⟩
    · rw [perS_not h1 h2] at h; cases h
  · have : okL l = false := by cases e : okL l with | true => exact absurd e h1 | false => rfl
    rw [perS_bad this] at h; cases h
theorem load_mono {l : List Dm} (h : ∀ x ∈ l, x.ok) {p : Int} (hp : 0 ≤ p) : ∀ {j k : Nat}, j ≤ k → loadN l p j ≤ loadN l p k
  | j, k, hjk => by
    induction k with
    | zero => obtain rfl : j = 0 := by omega
              exact Int.le_refl _
    | succ k ih =>
      rcases Nat.lt_or_ge k j with q | q
      · obtain rfl : j = k + 1 := by omega
        exact Int.le_refl _
      · have := ih q
        cases hx : l[k]? with
        | none => rw [load_end hx]; exact this
        | some x =>
          have ho := h x (List.mem_of_getElem? hx)
          have h1 := ho.d1; have h2 := ho.d2
          have := Int.mul_nonneg ho.c0 (Int.ediv_nonneg hp (show 0 ≤ x.t by omega))
          rw [load_next hx]; omega
theorem load_part {x : Dm} (h : x.ok) {p : Int} (hp : 0 ≤ p) (hp1 : p ≤ 1048576) : 0 ≤ p / x.t ∧ p / x.t ≤ 1048576 ∧ 0 ≤ x.c * (p / x.t) ∧ x.c * (p / x.t) ≤ 1152921504606846976 := by
  have h1 := h.d1; have h2 := h.d2; have hc := h.c0; have hc1 := h.c1
  have q0 := Int.ediv_nonneg hp (show 0 ≤ x.t by omega)
  have q1 : p / x.t ≤ p := Int.ediv_le_self _ hp
  have m0 := Int.mul_nonneg hc q0
  have m1 := Int.mul_le_mul hc1 (show p / x.t ≤ 1048576 by omega) q0 (by omega)
  omega
abbrev WT : TypeId := 49
def Tw (w : World) (b : Nat) (x y z : Int) : Prop := w.heap[b]? = some (.cells #[.int .i64 x, .int .i64 y, .int .i64 z] WT (0, 0))
theorem Tw.set {w : World} {b : Nat} {x y z : Int} (h : Tw w b x y z) (x' y' z' : Int) : Tw (((w.setCell ⟨b, 0, none⟩ (.int .i64 x')).setCell ⟨b, 1, none⟩ (.int .i64 y')).setCell ⟨b, 2, none⟩ (.int .i64 z')) b x' y' z' := by
  unfold Tw at *
  have h1 := blk_set (o := 0) h (.int .i64 x')
  have h2 := blk_set (o := 1) h1 (.int .i64 y')
  exact (blk_set (o := 2) h2 (.int .i64 z')).trans rfl
structure LdAt (w : World) (V : World) : Prop where
  low : Below w.heap.size w V
  res : Tw V w.heap.size 0 0 0
theorem LdAt.below {w V V' : World} (h : LdAt w V) (hb : Below V.heap.size V V') : LdAt w V' := ⟨below_up h.low hb, kept_obj hb h.res⟩
theorem LdAt.done {w V : World} (h : LdAt w V) (x y z : Int) : Tw (((V.setCell ⟨w.heap.size, 0, none⟩ (.int .i64 x)).setCell ⟨w.heap.size, 1, none⟩ (.int .i64 y)).setCell ⟨w.heap.size, 2, none⟩ (.int .i64 z)) w.heap.size x y z ∧ Below w.heap.size w (((V.setCell ⟨w.heap.size, 0, none⟩ (.int .i64 x)).setCell ⟨w.heap.size, 1, none⟩ (.int .i64 y)).setCell ⟨w.heap.size, 2, none⟩ (.int .i64 z)) :=
  ⟨h.res.set x y z, ((h.low.setCell (p := ⟨w.heap.size, 0, none⟩) (Nat.le_refl _) _).setCell (p := ⟨w.heap.size, 1, none⟩) (Nat.le_refl _) _).setCell (p := ⟨w.heap.size, 2, none⟩) (Nat.le_refl _) _⟩

set_option maxRecDepth 100000 in
set_option maxHeartbeats 8000000 in
theorem rload_any (l : List Dm) (n c : Nat) (hl : l.length = n) (hn : (n : Int) ≤ 9223372036854775807) (a : Option Addr) (w : World) (hv : GView w a l) :
    Calls Try.prog 24 #[.slice a n c] w fun e w' => e = .returned (.agg #[.int .i64 (ldS l).1, .int .i64 (ldS l).2.1, .int .i64 (ldS l).2.2]) ∧ Below w.heap.size w w' := by
  have HV := Lib.hid hv
  have HL := Lib.hid hl
  have PC := Lib.hid (fun v (hb : Below w.heap.size w v) => rperiod_any l n c hl hn a v (hv.below hb))
  clear hv hl
  have HOK := Lib.hid (perS_ok (l := l))
  have HS1 := Lib.hid (ldS_bad (l := l))
  have HS2 := Lib.hid (ldS_is (l := l))
  have HS3 := Lib.hid (ldS_over (l := l))
  obtain ⟨p, hp⟩ : ∃ p, (perS l).1 = p := ⟨_, rfl⟩
  obtain ⟨er, her⟩ : ∃ er, (perS l).2 = er := ⟨_, rfl⟩
  rw [hp, her] at PC HOK HS2 HS3
  rw [her] at HS1
  clear hp her
  go_enter Try.func24, Try.ntmps24
  go_upto_region 1 with fail
  refine gen_world (LdAt w) ⟨(by repeat (first | exact Below.refl _ _ | (with_reducible assumption) | refine bw_alloc ?_ _ | refine bw_drew ?_)), heap_alloc_new w _⟩ ?_
  intro V0 hv0
  have HV0 := Lib.hid hv0
  clear hv0
  go_upto_region 2 with (go_at_call 23; (with_reducible refine (PC.out _ HV0.out.low).mono ?_); rintro e w1 ⟨rfl, bx1⟩; have HV1 := Lib.hid (HV0.out.below bx1); clear bx1)
  clear HV0 PC
  by_cases he : er = 0
  rotate_left
  · have d1 : (er == 0) = false := by rw [beq_eq_false_iff_ne]; exact he
    have d2 : (er != 0) = true := by rw [bne, d1]; rfl
    have HE := Lib.hid (HS1.out he)
    have hr := HV1.out.res
    have f0 := blk_free hr 0
    have f1 := blk_free hr 1
    have f2 := blk_free hr 2
    have r0 : w1.cell? ⟨w.heap.size, 0, none⟩ = some (.int .i64 0) := by rw [blk_cell hr]; rfl
    have r1 : w1.cell? ⟨w.heap.size, 1, none⟩ = some (.int .i64 0) := by rw [blk_cell hr]; rfl
    have r2 : w1.cell? ⟨w.heap.size, 2, none⟩ = some (.int .i64 0) := by rw [blk_cell hr]; rfl
    have HD := Lib.hid (HV1.out.done 0 0 er)
    clear he hr HOK HS1 HS2 HS3
    go_wp2_with fail
    obtain ⟨hd, hlow⟩ := HD.out
    unfold Tw at hd
    have q0 := blk_cell (o := 0) hd
    have q1 := blk_cell (o := 1) hd
    have q2 := blk_cell (o := 2) hd
    refine bodyPost_ret (v := .agg #[.int .i64 0, .int .i64 0, .int .i64 er]) ?_ rfl ⟨by rw [HE.out], hlow⟩
    simp [results, Try.results24, go_sem, q0, q1, q2]
  subst he
  have hok := (HOK.out rfl).1
  have hp0 := (HOK.out rfl).2.2.2.1
  have hp1 := (HOK.out rfl).2.2.2.2.1
  have HOL := Lib.hid ((okL_iff.1 hok).1)
  have HS2' := Lib.hid (HS2.out rfl)
  have HS3' := Lib.hid (HS3.out rfl)
  clear HS1 HS2 HS3 hok HOK
  go_upto_block 0 with fail
  go_cut [5] (fun u wx => ∃ s : Int, u = .int .i64 s ∧ Hid (s = loadN l p l.length ∧ s ≤ 4611686018427387904) ∧ Hid (LdAt w wx))
  case first =>
    go_wp2
    go_loopw [5, 6] (fun g u wr => ∃ k : Nat, k ≤ n ∧ u = .int .i64 k ∧ g = .int .i64 (loadN l p k) ∧ Hid (loadN l p k ≤ 4611686018427387904) ∧ Hid (LdAt w wr)) (fun _ u _ => (n - intOf u).toNat)
    case atStart => exact ⟨0, Nat.zero_le _, rfl, rfl, by show (0 : Int) ≤ _; omega, HV1⟩
    case round =>
      obtain ⟨k, hk, rfl, rfl, HS, HP⟩ := hrel
      clear HV1
      by_cases hlt : k < n
      · obtain ⟨x, hx⟩ := nth_of HL.out hlt
        have hxo := HOL.out x (List.mem_of_getElem? hx)
        obtain ⟨g, o, rfl, ⟨c0, c1, c2⟩⟩ := (HV.out.below HP.out.low).at_ hx
        have hk1 : (k : Int) < (n : Int) := by omega
        have hk0 : (0 : Int) ≤ (k : Int) := by omega
        have HN := Lib.hid (load_next (p := p) hx)
        have hs0 : 0 ≤ loadN l p k := load_mono HOL.out (by omega) (Nat.zero_le k)
        have HTOP : Hid (loadN l p (k + 1) ≤ loadN l p l.length) := load_mono HOL.out (by omega) (by have := HL.out; omega)
        obtain ⟨m0, m1, m2, m3⟩ := load_part hxo (show 0 ≤ p by omega) hp1
        have hs9 := HS.out
        have hxt : ¬ x.t = 0 := by have := hxo.d1; have := hxo.d2; omega
        have z1 : (x.t == 0) = false := by rw [beq_eq_false_iff_ne]; exact hxt
        have e0 : p.tdiv x.t = p / x.t := Int.tdiv_eq_ediv_of_nonneg (by omega)
        obtain ⟨Q, hQ⟩ : ∃ Q, p / x.t = Q := ⟨_, rfl⟩
        rw [hQ] at m0 m1 m2 m3 HN e0
        have e1 : IntKind.i64.wrap (p.tdiv x.t) = Q := by rw [e0]; exact IntWalk.i64_in _ (by omega)
        have e1' : IntKind.i64.wrap (p / x.t) = Q := by rw [hQ]; exact IntWalk.i64_in _ (by omega)
        obtain ⟨M, hM⟩ : ∃ M, x.c * Q = M := ⟨_, rfl⟩
        have e2 : IntKind.i64.wrap (x.c * Q) = M := by rw [hM]; rw [hM] at m2 m3; exact IntWalk.i64_in _ (by omega)
        rw [hM] at m2 m3 HN
        obtain ⟨sm, hsm⟩ : ∃ sm, loadN l p k = sm := ⟨_, rfl⟩
        rw [hsm] at hs0 HN hs9
        rw [hsm]
        obtain ⟨A1, hA1⟩ : ∃ A1, sm + M = A1 := ⟨_, rfl⟩
        rw [hA1] at HN
        have e3 : IntKind.i64.wrap (sm + M) = A1 := by rw [hA1, ← hA1]; exact IntWalk.i64_in _ (by omega)
        clear hx hxo hs0 m0 m1 m2 m3 hQ hM hsm hA1 hs9 e0 HS
        go_upto_region 8 with fail
        go_quiet (fail)
        go_upto_region 9 with fail
        refine gen_world (LdAt w) (HP.out.below (below_same (Below.refl _ _) rfl rfl rfl rfl)) ?_
        intro V5 hv5
        have HP5 := Lib.hid hv5
        clear hv5 HP c0 c1 c2 e1 e1' e2 e3
        by_cases q : 4611686018427387904 < A1
        · have hq : 4611686018427387904 < loadN l p l.length := by have := HTOP.out; rw [HN.out] at this; omega
          have HE := Lib.hid (HS3'.out hq)
          have hr := HP5.out.res
          have f0 := blk_free hr 0
          have f1 := blk_free hr 1
          have f2 := blk_free hr 2
          have r0 : V5.cell? ⟨w.heap.size, 0, none⟩ = some (.int .i64 0) := by rw [blk_cell hr]; rfl
          have r1 : V5.cell? ⟨w.heap.size, 1, none⟩ = some (.int .i64 0) := by rw [blk_cell hr]; rfl
          have r2 : V5.cell? ⟨w.heap.size, 2, none⟩ = some (.int .i64 0) := by rw [blk_cell hr]; rfl
          have HD := Lib.hid (HP5.out.done 0 0 16)
          clear hr hq HN HTOP HS2' HS3'
          go_wp2_with fail
          obtain ⟨hd, hlow⟩ := HD.out
          unfold Tw at hd
          have q0 := blk_cell (o := 0) hd
          have q1 := blk_cell (o := 1) hd
          have q2 := blk_cell (o := 2) hd
          refine bodyPost_ret (v := .agg #[.int .i64 0, .int .i64 0, .int .i64 16]) ?_ rfl ⟨by rw [HE.out], hlow⟩
          simp [results, Try.results24, go_sem, q0, q1, q2]
        · have HNN : Hid (A1 = loadN l p (k + 1) ∧ A1 ≤ 4611686018427387904) := ⟨HN.out.symm, by omega⟩
          clear HN HTOP HS2' HS3'
          go_wp2_with fail
          go_roundw
          case rel => exact ⟨k + 1, by omega, by go_num, by rw [HNN.out.1], Lib.hid (by rw [← HNN.out.1]; exact HNN.out.2), HP5⟩
          case measure => simp [intOf]; omega
      · obtain rfl : k = n := by omega
        have HE : Hid (loadN l p k = loadN l p l.length ∧ loadN l p k ≤ 4611686018427387904) := ⟨by rw [HL.out], HS.out⟩
        generalize loadN l p k = s at *
        clear HS
        go_wp2_with fail
        go_meet
        exact ⟨s, rfl, HE, HP⟩
  case rest =>
    obtain ⟨s, rfl, HS, HP⟩ := hcut
    have HE : Hid (ldS l = (s, p, 0)) := by have h := HS.out; show _ = _; rw [h.1] at *; exact HS2'.out h.2
    have hr := HP.out.res
    have f0 := blk_free hr 0
    have f1 := blk_free hr 1
    have f2 := blk_free hr 2
    have r0 : wc.cell? ⟨w.heap.size, 0, none⟩ = some (.int .i64 0) := by rw [blk_cell hr]; rfl
    have r1 : wc.cell? ⟨w.heap.size, 1, none⟩ = some (.int .i64 0) := by rw [blk_cell hr]; rfl
    have r2 : wc.cell? ⟨w.heap.size, 2, none⟩ = some (.int .i64 0) := by rw [blk_cell hr]; rfl
    have HD := Lib.hid (HP.out.done s p 0)
    clear hr HS HS2' HS3'
    go_wp2_with fail
    obtain ⟨hd, hlow⟩ := HD.out
    unfold Tw at hd
    have q0 := blk_cell (o := 0) hd
    have q1 := blk_cell (o := 1) hd
    have q2 := blk_cell (o := 2) hd
    refine bodyPost_ret (v := .agg #[.int .i64 s, .int .i64 p, .int .i64 0]) ?_ rfl ⟨by rw [HE.out], hlow⟩
    simp [results, Try.results24, go_sem, q0, q1, q2]
end Go.Proofs.Ytbliagfmpcmfdaa

/-
  DERIVED: THE SHELF's CONTRACTS AT THIS DUMP, IN PLAIN WORDS (tools/lay-plain.mjs out of 'TryShelf.lean', which tools/lay-shelf.mjs wrote): THE SAME DECLARATIONS UNDER THE SAME NAMES: 'import', 'namespace', 'open', 'def', 'theorem' AND NOTHING ELSE: no command of the shelf's: FOR A HAND-IN. Each laying: the table of numbers ('.._ren') and one theorem, a field a fact of the dump's own or the kernel's comparison; each contract: ONE APPLICATION.
-/
namespace Go.Proofs
open Go.Shelf
def Try.lays264_ren : Go.Shelf.Ren := ⟨fun | 264 => 46 | n => n, fun | 53 => 58 | 46 => 85 | n => n, fun | n => n⟩
theorem Try.lays264 : Go.Proofs.Lays.n264 Try.prog Try.lays264_ren := {
  mixed := by kernel_rfl
  f264 := Try.func46.trans (congrArg some (by kernel_rfl))
  t46 := Try.underlying85
  a46 := Try.isAgg85
  z46 := Try.sizeOf85
  v46 := Try.zeroValue85
  t53 := Try.underlying58
  a53 := Try.isAgg58
  z53 := Try.sizeOf58
  v53 := Try.zeroValue58 }
open Go.RowKit Go.Lib in
theorem Try.bits_Mul64 (x y : Nat) (hx : x < 18446744073709551616) (hy : y < 18446744073709551616) (w : World) :
    Calls Try.prog 46 #[.int .u64 x, .int .u64 y] w fun e w' => e = .returned (.tuple #[.int .u64 ((x * y / 18446744073709551616 : Nat) : Int), .int .u64 ((x * y % 18446744073709551616 : Nat) : Int)]) ∧ w' = w := Any.bits_Mul64 Try.lays264 x y hx hy w
end Go.Proofs

/-
  The walks over the package of sums.
-/
namespace Go.Proofs.Ytbliagfmpcmfdaa
open Go.RowKit

theorem run_add0 (x y : Int) (hx : U64 x) (hy : U64 y) (w : World) :
    (callFunc 56 #[.int .u64 x, .int .u64 y, .int .u64 0]).run Try.prog w =
    .ok (.value (.tuple #[.int .u64 ((x + y) % 18446744073709551616), .int .u64 ((x + y) / 18446744073709551616)])) w := by
  rw [run_callFunc_extern Try.func56 (by kernel_rfl) (by kernel_rfl) (by kernel_rfl) (e := add64Entry) (by kernel_rfl),
    run_add64 x y 0 hx.1 hy.1 (by omega) (by omega), Int.add_zero]
  rfl

theorem exact_ok (a : Int) (w : World) : Calls Try.prog 47 #[.int .u64 a, .int .u64 0] w fun e w' => e = .returned (.tuple #[.int .u64 a, .bool true]) ∧ w = w' := by
  go_enter Try.func47, Try.ntmps47
  go_wp2
  go_ret2
  exact ⟨rfl, rfl⟩

theorem exact_no (a b : Int) (hb : (b != 0) = true) (w : World) : Calls Try.prog 47 #[.int .u64 a, .int .u64 b] w fun e w' => e = .returned (.tuple #[.int .u64 0, .bool false]) ∧ w = w' := by
  go_enter Try.func47, Try.ntmps47
  go_wp2
  go_ret2
  exact ⟨rfl, rfl⟩

set_option maxHeartbeats 400000 in
theorem add_ok (a b : Int) (ha : U64 a) (hb : U64 b) (h : a + b < 18446744073709551616) (w : World) :
    Calls Try.prog 45 #[.int .u64 a, .int .u64 b] w fun e w' => e = .returned (.tuple #[.int .u64 (a + b), .bool true]) ∧ w = w' := by
  have h0 := ha.1; have h1 := hb.1
  have e1 : (a + b) % 18446744073709551616 = a + b := by omega
  have e2 : (a + b) / 18446744073709551616 = 0 := by omega
  have R := run_add0 a b ha hb
  rw [e1, e2] at R
  clear e1 e2 h h0 h1 ha hb
  go_enter Try.func45, Try.ntmps45
  go_wp2_with (go_at_call 47; refine (exact_ok _ _).mono ?_; rintro e w' ⟨rfl, rfl⟩)
  go_ret2
  exact ⟨rfl, rfl⟩

set_option maxHeartbeats 400000 in
theorem add_no (a b : Int) (ha : U64 a) (hb : U64 b) (h : ¬ a + b < 18446744073709551616) (w : World) :
    Calls Try.prog 45 #[.int .u64 a, .int .u64 b] w fun e w' => e = .returned (.tuple #[.int .u64 0, .bool false]) ∧ w = w' := by
  have h0 := ha.2; have h1 := hb.2
  have e2 : (a + b) / 18446744073709551616 = 1 := by omega
  have R := run_add0 a b ha hb
  rw [e2] at R
  generalize (a + b) % 18446744073709551616 = z at R
  clear e2 h h0 h1 ha hb
  go_enter Try.func45, Try.ntmps45
  go_wp2_with (go_at_call 47; refine (exact_no _ _ (by decide) _).mono ?_; rintro e w' ⟨rfl, rfl⟩)
  go_ret2
  exact ⟨rfl, rfl⟩

theorem add_any (a b : Int) (ha : U64 a) (hb : U64 b) (w : World) :
    Calls Try.prog 45 #[.int .u64 a, .int .u64 b] w fun e w' => e = .returned (.tuple #[.int .u64 (addN a b), .bool (addB a b)]) ∧ w = w' := by
  by_cases h : a + b < 18446744073709551616
  · simpa only [addN, addB, h, if_true, decide_true] using add_ok a b ha hb h w
  · simpa only [addN, addB, h, if_false, decide_false] using add_no a b ha hb h w

theorem mul64_any (a b : Int) (ha : U64 a) (hb : U64 b) (w : World) :
    Calls Try.prog 46 #[.int .u64 a, .int .u64 b] w fun e w' => e = .returned (.tuple #[.int .u64 (a * b / 18446744073709551616), .int .u64 (a * b % 18446744073709551616)]) ∧ w = w' := by
  obtain ⟨a, rfl⟩ := Int.eq_ofNat_of_zero_le ha.1
  obtain ⟨b, rfl⟩ := Int.eq_ofNat_of_zero_le hb.1
  have := ha.2; have := hb.2
  refine (Try.bits_Mul64 a b (by omega) (by omega) w).mono ?_
  rintro e w' ⟨rfl, rfl⟩
  exact ⟨by simp, rfl⟩

set_option maxHeartbeats 400000 in
theorem mul_any (a b : Int) (ha : U64 a) (hb : U64 b) (w : World) :
    Calls Try.prog 34 #[.int .u64 a, .int .u64 b] w fun e w' => e = .returned (.tuple #[.int .u64 (mulN a b), .bool (mulB a b)]) ∧ w = w' := by
  have C := mul64_any a b ha hb
  have hn := Int.mul_nonneg ha.1 hb.1
  by_cases h : a * b < 18446744073709551616
  · have e1 : a * b % 18446744073709551616 = a * b := by omega
    have e2 : a * b / 18446744073709551616 = 0 := by omega
    simp only [mulN, mulB, h, if_true, decide_true]
    rw [e1, e2] at C
    generalize a * b = z at C ⊢
    clear e1 e2 h hn ha hb
    have H := Lib.hid C; clear C
    go_enter Try.func34, Try.ntmps34
    go_wp2_with (first | (go_at_call 46; refine (H.out _).mono ?_; rintro e w' ⟨rfl, rfl⟩) | (go_at_call 47; refine (exact_ok _ _).mono ?_; rintro e w' ⟨rfl, rfl⟩))
    go_ret2
    exact ⟨rfl, rfl⟩
  · have e2 : (a * b / 18446744073709551616 != 0) = true := by rw [bne_iff_ne]; omega
    simp only [mulN, mulB, h, if_false, decide_false]
    generalize a * b % 18446744073709551616 = z at C
    generalize a * b / 18446744073709551616 = y at C e2
    clear h hn ha hb
    have H := Lib.hid C; clear C
    go_enter Try.func34, Try.ntmps34
    go_wp2_with (first | (go_at_call 46; refine (H.out _).mono ?_; rintro e w' ⟨rfl, rfl⟩) | (go_at_call 47; refine (exact_no _ _ e2 _).mono ?_; rintro e w' ⟨rfl, rfl⟩))
    go_ret2
    exact ⟨rfl, rfl⟩

set_option maxHeartbeats 400000 in
theorem gcd_any (a b : Nat) (ha : (a : Int) ≤ 18446744073709551615) (hb : (b : Int) ≤ 18446744073709551615) (w : World) :
    Calls Try.prog 58 #[.int .u64 a, .int .u64 b] w fun e w' => e = .returned (.int .u64 (Nat.gcd a b)) ∧ Below w.heap.size w w' := by
  go_enter Try.func58, Try.ntmps58
  go_wp2
  go_loopw [0, 1] (fun u v wr => ∃ x y : Nat, (x : Int) ≤ 18446744073709551615 ∧ (y : Int) ≤ 18446744073709551615 ∧ Hid (Nat.gcd x y = Nat.gcd a b) ∧ u = .int .u64 x ∧ v = .int .u64 y ∧ Below w.heap.size w wr) (fun _ v _ => (intOf v).toNat)
  case atStart => exact ⟨a, b, ha, hb, rfl, rfl, rfl, Below.refl _ _⟩
  case round =>
    obtain ⟨x, y, hx, hy, hg, rfl, rfl, hbel⟩ := hrel
    by_cases h : y = 0
    · have h1 : ((y : Int) != 0) = false := by rw [bne_eq_false_iff_eq]; omega
      have hg' : Hid (x = Nat.gcd a b) := by have := hg.out; rw [h, Nat.gcd_zero_right] at this; exact this
      clear h hg
      go_wp2
      go_ret
      exact ⟨by rw [← hg'.out]; rfl, hbel⟩
    · have hpos : (0 : Int) < y := by omega
      have h1 : ((y : Int) != 0) = true := by rw [bne_iff_ne]; omega
      have h2 : ((y : Int) == 0) = false := by rw [beq_eq_false_iff_ne]; omega
      have h3 : (x : Int) % y < y := Int.emod_lt_of_pos _ hpos
      have h4 : 0 ≤ (x : Int) % y := Int.emod_nonneg _ (by omega)
      have hg' : Hid (Nat.gcd y (x % y) = Nat.gcd a b) := by
        have := hg.out
        rw [Nat.gcd_comm, Nat.gcd_rec] at this
        rw [Nat.gcd_comm]
        exact this
      clear hg
      go_wp2
      go_quiet (fail)
      go_wp2
      go_roundw
      case rel => exact ⟨y, x % y, hy, by omega, hg', rfl, by go_num, below_drewN hbel _⟩
      case measure => simp [intOf]; omega

end Go.Proofs.Ytbliagfmpcmfdaa

/-
  The walks over the fold of numbers, and what tells them one by one.
-/
namespace Go.Proofs.Ytbliagfmpcmfdaa
open Go.RowKit

set_option maxHeartbeats 400000 in
theorem each1_end (pi pl n cap : Nat) (ao : Option Addr) (w : World) (hi : w.cell? ⟨pi, 0, none⟩ = some (.int .i64 n)) (hl : w.cell? ⟨pl, 0, none⟩ = some (.slice ao n cap)) :
    Calls Try.prog 57 #[.pointer (some ⟨pi, 0, none⟩), .pointer (some ⟨pl, 0, none⟩)] w fun e w' => e = .returned (.tuple #[.int .u64 0, .bool false]) ∧ w = w' := by
  go_enter Try.func57, Try.ntmps57
  go_wp2
  go_ret2
  exact ⟨rfl, rfl⟩

set_option maxHeartbeats 400000 in
theorem each1_next (pi pl k n cap b off : Nat) (z : Int) (w : World) (hk : k < n) (hn : (n : Int) ≤ 9223372036854775807) (hi : w.cell? ⟨pi, 0, none⟩ = some (.int .i64 k)) (hf : w.frozen? ⟨pi, 0, none⟩ = false)
    (hl : w.cell? ⟨pl, 0, none⟩ = some (.slice (some ⟨b, off, none⟩) n cap)) (hz : w.cell? ⟨b, off + k, none⟩ = some (.int .u64 z)) (hb : b ≠ pi) (hp : pl ≠ pi) :
    Calls Try.prog 57 #[.pointer (some ⟨pi, 0, none⟩), .pointer (some ⟨pl, 0, none⟩)] w fun e w' => e = .returned (.tuple #[.int .u64 z, .bool true]) ∧ w.setCell ⟨pi, 0, none⟩ (.int .i64 ((k : Int) + 1)) = w' := by
  have h1 : ((k : Int) == (n : Int)) = false := by rw [beq_eq_false_iff_ne]; omega
  go_enter Try.func57, Try.ntmps57
  go_wp2
  go_ret2
  exact ⟨rfl, rfl⟩

set_option maxHeartbeats 400000 in
theorem each_any (n cap : Nat) (ao : Option Addr) (w : World) :
    Calls Try.prog 49 #[.slice ao n cap] w fun e w' => e = .returned (.func (.func 57) #[] #[.pointer (some ⟨w.heap.size + 1, 0, none⟩), .pointer (some ⟨w.heap.size, 0, none⟩)]) ∧ (w.alloc (.cells #[.slice ao n cap] 62)).alloc (.cells #[.int .i64 0] 3) = w' := by
  have hmf : ∀ (fn : Fn) (first cap : Array Value) (w : World), (Instr.makeFunc fn first cap).run Try.prog w = .ok (.func fn first cap) w := fun _ _ _ _ => rfl
  go_enter Try.func49, Try.ntmps49
  go_wp2
  go_ret
  exact ⟨rfl, rfl⟩

/-- What the function value of a joining function must keep to. -/
structure Joins (jf : Nat) (jN : Int → Int → Int) (jB : Int → Int → Bool) (Good : Int → Prop) : Prop where
  enter : ∀ (args : Array Value) (w : World), (callFunc jf args).run Try.prog w = .ok (.enter jf args) w
  call : ∀ a b w, Good a → U64 b → Calls Try.prog jf #[.int .u64 a, .int .u64 b] w fun e w' => e = .returned (.tuple #[.int .u64 (jN a b), .bool (jB a b)]) ∧ Below w.heap.size w w'
  good : ∀ a b, Good a → U64 b → jB a b = true → Good (jN a b)

def eachV (pi pl : Nat) : Value := .func (.func 57) #[] #[.pointer (some ⟨pi, 0, none⟩), .pointer (some ⟨pl, 0, none⟩)]

set_option maxHeartbeats 800000 in
theorem fold_any (jf : Nat) (jN : Int → Int → Int) (jB : Int → Int → Bool) (Good : Int → Prop) (J : Joins jf jN jB Good)
    (zs : List Int) (hz : ∀ z ∈ zs, U64 z) (hn : (zs.length : Int) ≤ 9223372036854775807) (B cap pi pl : Nat) (ao : Option Addr) (so : Int) (hso : Good so) (w : World) (hr : Reads w B ao zs)
    (hi : w.cell? ⟨pi, 0, none⟩ = some (.int .i64 0)) (hl : w.cell? ⟨pl, 0, none⟩ = some (.slice ao zs.length cap)) (hf : w.frozen? ⟨pi, 0, none⟩ = false)
    (hpl : pl ≠ pi) (hbi : B ≤ pi) (hsi : pi < w.heap.size) (hsl : pl < w.heap.size) :
    Calls Try.prog 48 #[.int .u64 so, eachV pi pl, .func (.func jf) #[] #[]] w fun e w' =>
      e = .returned (.tuple #[.int .u64 (foldR jN jB so zs).1, .bool (foldR jN jB so zs).2]) ∧ Below B w w' := by
  unfold eachV
  have hen := J.enter
  have HJ := Lib.hid J; clear J
  have HR := Lib.hid hr; clear hr
  have HZ := Lib.hid hz; clear hz
  have Hgood := Lib.hid hso; clear hso
  have H0 : Hid (foldR jN jB so (zs.drop 0) = foldR jN jB so zs) := by rw [List.drop_zero]; rfl
  generalize foldR jN jB so zs = res at H0 ⊢
  go_enter Try.func48, Try.ntmps48
  go_wp2; go_step3; go_wp2; go_step3; go_wp2
  go_loopw [0, 8] (fun s o wr => ∃ (k : Nat) (a : Int), k ≤ zs.length ∧ Hid (Good a) ∧ Hid (foldR jN jB a (zs.drop k) = res) ∧ s = .int .u64 a ∧ o = .bool true ∧
      wr.cell? ⟨pi, 0, none⟩ = some (.int .i64 k) ∧ wr.cell? ⟨pl, 0, none⟩ = some (.slice ao zs.length cap) ∧ wr.frozen? ⟨pi, 0, none⟩ = false ∧ w.heap.size ≤ wr.heap.size ∧ Below B w wr)
    (fun _ _ wr => zs.length - (intOf ((wr.cell? ⟨pi, 0, none⟩).getD undef)).toNat)
  case atStart => exact ⟨0, so, Nat.zero_le _, Hgood, H0, rfl, rfl, hi, hl, hf, Nat.le_refl _, Below.refl _ _⟩
  case round =>
    obtain ⟨k, a, hk, hg, hres, rfl, rfl, hci, hcl, hfi, hsz, hbel⟩ := hrel
    by_cases hlt : k < zs.length
    · have hz : U64 (zs.getD k 0) := HZ.out _ (by rw [List.getD_eq_getElem?_getD, List.getElem?_eq_getElem hlt]; exact List.getElem_mem _)
      have hd := drop_cons zs k hlt
      obtain ⟨b, off, rfl, hb, hcells⟩ : ∃ b off, ao = some ⟨b, off, none⟩ ∧ b < B ∧ ∀ k, k < zs.length → wr.cell? ⟨b, off + k, none⟩ = some (.int .u64 (zs.getD k 0)) := by
        rcases HR.out.below hbel with h | h
        · rw [h] at hlt; exact absurd hlt (Nat.not_lt_zero _)
        · exact h
      have hc := hcells k hlt
      clear hcells
      have H1 := hres.out
      rw [hd] at H1
      have Hz := Lib.hid hz; clear hz hd
      generalize zs.getD k 0 = z at hc H1 Hz
      have C1 := each1_next pi pl k zs.length cap b off z wr hlt hn hci hfi hcl hc (by omega) hpl
      have HC := Lib.hid C1; clear C1 hc
      by_cases hj : jB a z = true
      · rw [foldR_yes hj] at H1
        have Hg := Lib.hid (HJ.out.good a z hg.out Hz.out hj)
        have H1 := Lib.hid H1
        clear hres
        go_wp2_with (first | (go_at_call 57; refine (HC.out).mono ?_; rintro e w' ⟨rfl, rfl⟩) | ((with_reducible refine (HJ.out.call a z _ hg.out Hz.out).mono ?_); rintro e w' ⟨rfl, hw2⟩))
        go_roundw
        case rel =>
          obtain ⟨c1, c2, c3, c4, c5⟩ := each_step hsi hsl hsz hci hcl hfi hpl hbi hbel hw2
          exact ⟨k + 1, jN a z, hlt, Hg, H1, rfl, rfl, by rw [c1]; go_num, c2, c3, c4, c5⟩
        case measure =>
          obtain ⟨c1, c2, c3, c4, c5⟩ := each_step hsi hsl hsz hci hcl hfi hpl hbi hbel hw2
          rw [c1, hci]; simp [intOf]; omega
      · have hj' : jB a z = false := by simpa using hj
        rw [foldR_no hj'] at H1
        have H1 := Lib.hid H1
        clear hres hj
        go_wp2_with (first | (go_at_call 57; refine (HC.out).mono ?_; rintro e w' ⟨rfl, rfl⟩) | ((with_reducible refine (HJ.out.call a z _ hg.out Hz.out).mono ?_); rintro e w' ⟨rfl, hw2⟩))
        rw [Exit.noGoto_ret]
        go_ret2
        obtain ⟨c1, c2, c3, c4, c5⟩ := each_step hsi hsl hsz hci hcl hfi hpl hbi hbel hw2
        exact ⟨by rw [← H1.out]; simp only [← hj']; rfl, c5⟩
    · have hke : k = zs.length := by omega
      subst hke
      go_wp2_with (go_at_call 57; refine (each1_end pi pl zs.length cap ao _ hci hcl).mono ?_; rintro e w' ⟨rfl, rfl⟩)
      rw [Exit.noGoto_ret]
      go_ret2
      have := hres.out
      rw [List.drop_length, foldR_nil] at this
      exact ⟨by rw [← this]; rfl, hbel⟩

end Go.Proofs.Ytbliagfmpcmfdaa

/-
  The walks over sums, divisors and multiples of rows.
-/
namespace Go.Proofs.Ytbliagfmpcmfdaa
open Go.RowKit

theorem joins_add : Joins 45 addN addB U64 where
  enter := fun _ _ => MuLone.run_callFunc_enter Try.func45 (by kernel_rfl) rfl _ _
  call := fun a b w ha hb => (add_any a b ha hb w).mono (by rintro e w' ⟨rfl, rfl⟩; exact ⟨rfl, Below.refl _ _⟩)
  good := fun a b ha hb _ => addN_u64 ha hb

set_option maxHeartbeats 400000 in
theorem lcm_zero (a : Int) (w : World) :
    Calls Try.prog 50 #[.int .u64 a, .int .u64 0] w fun e w' => e = .returned (.tuple #[.int .u64 0, .bool false]) ∧ w = w' := by
  go_enter Try.func50, Try.ntmps50
  go_wp2
  go_ret2
  exact ⟨rfl, rfl⟩

set_option maxHeartbeats 400000 in
theorem lcm_pos (x y : Nat) (hx0 : 0 < x) (hx : (x : Int) ≤ 18446744073709551615) (hy0 : 0 < y) (hy : (y : Int) ≤ 18446744073709551615) (w : World) :
    Calls Try.prog 50 #[.int .u64 x, .int .u64 y] w fun e w' => e = .returned (.tuple #[.int .u64 (mulN ((x : Int) / (Nat.gcd x y : Nat)) y), .bool (mulB ((x : Int) / (Nat.gcd x y : Nat)) y)]) ∧ Below w.heap.size w w' := by
  have C := Lib.hid (gcd_any x y (by omega) (by omega))
  have hg : 1 ≤ ((Nat.gcd x y : Nat) : Int) := by have := Nat.gcd_pos_of_pos_left y hx0; omega
  generalize Nat.gcd x y = g at C hg ⊢
  have h1 : 0 ≤ (x : Int) / g := Int.ediv_nonneg (by omega) (by omega)
  have h2 : (x : Int) / g ≤ x := Int.ediv_le_self _ (by omega)
  have C2 := Lib.hid (mul_any ((x : Int) / g) y ⟨h1, by omega⟩ ⟨by omega, by omega⟩)
  have hy1 : ((y : Int) == 0) = false := by rw [beq_eq_false_iff_ne]; omega
  have hg1 : ((g : Int) == 0) = false := by rw [beq_eq_false_iff_ne]; omega
  have h3 : (x : Int) / g ≤ 18446744073709551615 := by omega
  clear h2
  go_enter Try.func50, Try.ntmps50
  go_wp2_with (first | (go_at_call 58; refine (C.out _).mono ?_; rintro e w' ⟨rfl, hw⟩) | (go_at_call 34; (with_reducible refine (C2.out _).mono ?_); rintro e w' ⟨rfl, rfl⟩))
  go_ret2
  exact ⟨rfl, hw⟩

theorem joins_lcm : Joins 50 lcmN lcmB (fun a => U64 a ∧ 0 < a) where
  enter := fun _ _ => MuLone.run_callFunc_enter Try.func50 (by kernel_rfl) rfl _ _
  call := fun a b w ha hb => by
    obtain ⟨x, rfl⟩ := Int.eq_ofNat_of_zero_le ha.1.1
    obtain ⟨y, rfl⟩ := Int.eq_ofNat_of_zero_le hb.1
    have hx := ha.1.2; have hy := hb.2; have hx0 := ha.2
    by_cases h : y = 0
    · subst h
      refine (lcm_zero x w).mono ?_
      rintro e w' ⟨rfl, rfl⟩
      exact ⟨by simp [lcmN, lcmB], Below.refl _ _⟩
    · have h' : ¬ (y : Int) = 0 := by omega
      simpa only [lcmN, lcmB, if_neg h', Int.toNat_natCast] using lcm_pos x y (by omega) (by omega) (by omega) (by omega) w
  good := fun a b ha hb h => lcmN_good ha.1 ha.2 hb h


set_option maxHeartbeats 400000 in
theorem lcms_any (zs : List Int) (hz : ∀ z ∈ zs, U64 z) (hn : (zs.length : Int) ≤ 9223372036854775807) (cap : Nat) (ao : Option Addr) (w : World) (hr : Reads w w.heap.size ao zs) :
    Calls Try.prog 35 #[.slice ao zs.length cap] w fun e w' => e = .returned (.tuple #[.int .u64 (foldR lcmN lcmB 1 zs).1, .bool (foldR lcmN lcmB 1 zs).2]) ∧ Below w.heap.size w w' := by
  have hb : Below w.heap.size w ((w.alloc (.cells #[.slice ao zs.length cap] 62)).alloc (.cells #[.int .i64 0] 3)) := ((Below.refl _ _).alloc (Nat.le_refl _) _).alloc (by simp) _
  have C := fold_any _ _ _ _ joins_lcm zs hz hn w.heap.size cap (w.heap.size + 1) w.heap.size ao 1 ⟨⟨by omega, by omega⟩, by omega⟩ ((w.alloc (.cells #[.slice ao zs.length cap] 62)).alloc (.cells #[.int .i64 0] 3))
    (hr.below hb) (by simp) (by simp) (by simp) (by omega) (by omega) (by simp) (by simp; omega)
  have E := each_any zs.length cap ao w
  unfold eachV at C
  generalize foldR lcmN lcmB 1 zs = res at C ⊢
  have HC := Lib.hid C; clear C
  have HE := Lib.hid E; clear E
  clear hr hz
  go_enter Try.func35, Try.ntmps35
  go_wp2_with (first | (go_at_call 49; refine (HE.out).mono ?_; rintro e w' ⟨rfl, rfl⟩) | (go_at_call 48; refine (HC.out).mono ?_; rintro e w' ⟨rfl, hw⟩))
  go_ret2
  exact ⟨rfl, hb.trans hw⟩

end Go.Proofs.Ytbliagfmpcmfdaa

/-
  The walks over what puts numbers of demands together, over work due, and over a period's work.
-/
namespace Go.Proofs.Ytbliagfmpcmfdaa
open Go.RowKit Go.Maps

def sumN (f : Dm → Int) (l : List Dm) : Nat → Int
  | 0 => 0
  | k + 1 => match l[k]? with
    | some x => sumN f l k + x.c * f x
    | none => sumN f l k
theorem sum_next {f : Dm → Int} {l : List Dm} {k : Nat} {x : Dm} (h : l[k]? = some x) : sumN f l (k + 1) = sumN f l k + x.c * f x := by rw [sumN, h]
theorem sum_end {f : Dm → Int} {l : List Dm} {k : Nat} (h : l[k]? = none) : sumN f l (k + 1) = sumN f l k := by rw [sumN, h]
theorem sum_due (l : List Dm) (t : Int) : ∀ k, sumN (fun x => jobsD x t) l k = dueN l t k
  | 0 => rfl
  | k + 1 => by
    cases h : l[k]? with
    | none => rw [sum_end h, due_end h, sum_due l t k]
    | some x => rw [sum_next h, due_next h, sum_due l t k]
theorem sum_load (l : List Dm) (p : Int) : ∀ k, sumN (fun x => p / x.t) l k = loadN l p k
  | 0 => rfl
  | k + 1 => by
    cases h : l[k]? with
    | none => rw [sum_end h, load_end h, sum_load l p k]
    | some x => rw [sum_next h, load_next h, sum_load l p k]
theorem sum_mono {f : Dm → Int} {l : List Dm} (h : ∀ x ∈ l, 0 ≤ x.c * f x) : ∀ {j k : Nat}, j ≤ k → sumN f l j ≤ sumN f l k
  | j, k, hjk => by
    induction k with
    | zero => obtain rfl : j = 0 := by omega
              exact Int.le_refl _
    | succ k ih =>
      rcases Nat.lt_or_ge k j with q | q
      · obtain rfl : j = k + 1 := by omega
        exact Int.le_refl _
      · have := ih q
        cases hx : l[k]? with
        | none => rw [sum_end hx]; exact this
        | some x =>
          have := h x (List.mem_of_getElem? hx)
          rw [sum_next hx]; omega
/-- What may be told at all. -/
def capA (s : Int) : Option Int := if s ≤ 4611686018427387904 then some s else none
theorem cap_is {s : Int} (h : s ≤ 4611686018427387904) : capA s = some s := if_pos h
theorem cap_not {s : Int} (h : 4611686018427387904 < s) : capA s = none := if_neg (by omega)

/-- A function value that tells a number of each demand, times its work. -/
structure Each (l : List Dm) (ef : Nat) (pv : Value) (f : Dm → Int) (V : World) : Prop where
  enter : ∀ (args : Array Value) (w : World), (callFunc ef args).run Try.prog w = .ok (.enter ef args) w
  call : ∀ x w, x ∈ l → Below V.heap.size V w → Calls Try.prog ef #[.agg #[.int .i64 x.c, .int .i64 x.d, .int .i64 x.t], pv] w fun e w' => e = .returned (.tuple #[.int .u64 (mulN x.c (f x)), .bool (mulB x.c (f x))]) ∧ Below w.heap.size w w'
  low : ∀ x ∈ l, 0 ≤ f x ∧ f x ≤ 2199023255553

set_option maxRecDepth 100000 in
set_option maxHeartbeats 8000000 in
theorem together_any (l : List Dm) (n c : Nat) (hl : l.length = n) (hn : (n : Int) ≤ 9223372036854775807) (hok : ∀ x ∈ l, x.ok) (a : Option Addr) (w : World) (hv : GView w a l) (ef : Nat) (pv : Value) (f : Dm → Int) (E : Each l ef pv f w) :
    Calls Try.prog 32 #[.func (.func ef) #[] #[pv], .slice a n c] w fun e w' => e = .returned (.tuple #[.int .i64 ((capA (sumN f l l.length)).getD 0), .bool (capA (sumN f l l.length)).isSome]) ∧ Below w.heap.size w w' := by
  have HV := Lib.hid hv
  have HL := Lib.hid hl
  have HOK := Lib.hid hok
  have hen := E.enter
  have HE := Lib.hid E
  obtain ⟨res, hres⟩ : ∃ res, capA (sumN f l l.length) = res := ⟨_, rfl⟩
  have HRES := Lib.hid hres
  rw [hres]
  clear hv hl hok E hres
  go_enter Try.func32, Try.ntmps32
  go_wp2; go_step3; go_wp2; go_step3; go_wp2
  go_loopw [6, 7, 14] (fun g o u wr => ∃ k : Nat, k ≤ n ∧ u = .int .i64 k ∧ g = .int .u64 (sumN f l k) ∧ o = .bool true ∧ Hid (sumN f l k ≤ 4611686018427387904) ∧ Hid (Below w.heap.size w wr)) (fun _ _ u _ => (n - intOf u).toNat)
  case atStart => exact ⟨0, Nat.zero_le _, rfl, rfl, rfl, by show (0 : Int) ≤ _; omega, Below.refl _ _⟩
  case round =>
    obtain ⟨k, hk, rfl, rfl, rfl, HS, HP⟩ := hrel
    by_cases hlt : k < n
    · obtain ⟨x, hx⟩ := nth_of HL.out hlt
      have hxm := List.mem_of_getElem? hx
      have hxo := HOK.out x hxm
      obtain ⟨g, o, rfl, ⟨c0, c1, c2⟩⟩ := (HV.out.below HP.out).at_ hx
      have hk1 : (k : Int) < (n : Int) := by omega
      have hk0 : (0 : Int) ≤ (k : Int) := by omega
      have hnn : ∀ y ∈ l, 0 ≤ y.c * f y := fun y hy => Int.mul_nonneg (HOK.out y hy).c0 (HE.out.low y hy).1
      have HN := Lib.hid (sum_next (f := f) hx)
      have hs0 : 0 ≤ sumN f l k := sum_mono hnn (Nat.zero_le k)
      have HTOP : Hid (sumN f l (k + 1) ≤ sumN f l l.length) := sum_mono hnn (by have := HL.out; omega)
      obtain ⟨hj0, hj1⟩ := HE.out.low x hxm
      have hcx0 := hxo.c0
      have hcx1 := hxo.c1
      have EC := Lib.hid (fun v (hb : Below w.heap.size w v) => HE.out.call x v hxm hb)
      have HST := Lib.hid (of_step hs0 HS.out hcx0 hj0)
      obtain ⟨j, hj⟩ : ∃ j, f x = j := ⟨_, rfl⟩
      rw [hj] at hj0 hj1 EC HST HN
      obtain ⟨sm, hsm⟩ : ∃ sm, sumN f l k = sm := ⟨_, rfl⟩
      rw [hsm] at hs0 HST HN HS
      rw [hsm]
      have hm64 : U64 (mulN x.c j) := mulN_u64 ⟨hcx0, by omega⟩ ⟨hj0, by omega⟩
      have AC := Lib.hid (fun v => add_any sm (mulN x.c j) ⟨hs0, by have := HS.out; omega⟩ hm64 v)
      have ha64 : U64 (addN sm (mulN x.c j)) := addN_u64 ⟨hs0, by have := HS.out; omega⟩ hm64
      obtain ⟨M, hM⟩ : ∃ M, mulN x.c j = M := ⟨_, rfl⟩
      obtain ⟨mb, hmb⟩ : ∃ mb, mulB x.c j = mb := ⟨_, rfl⟩
      rw [hM] at AC HST EC
      rw [hmb] at HST EC
      obtain ⟨A1, hA1⟩ : ∃ A1, addN sm M = A1 := ⟨_, rfl⟩
      obtain ⟨ab, hab⟩ : ∃ ab, addB sm M = ab := ⟨_, rfl⟩
      rw [hA1, hab] at AC HST
      clear hx hxm hxo hj hsm hcx0 hcx1 hj0 hj1 hs0 hm64 ha64 hM hmb hA1 hab HS hnn
      by_cases hok : mb = true ∧ ab = true ∧ A1 ≤ 4611686018427387904
      · obtain ⟨rfl, rfl, hA⟩ := hok
        have hst := HST.out.1 ⟨rfl, rfl, hA⟩
        have HNN : Hid (A1 = sumN f l (k + 1) ∧ A1 ≤ 4611686018427387904) := by
          refine ⟨by rw [HN.out]; exact hst.1, by rw [hst.1]; exact hst.2⟩
        have hA' : ¬ 4611686018427387904 < A1 := by omega
        clear hst HST HN HTOP hA
        go_wp2_with (first | (go_at_call 45; (with_reducible refine (AC.out _).mono ?_); rintro e w5 ⟨rfl, rfl⟩) | ((with_reducible refine (EC.out _ (below_up HP.out (by repeat (first | exact Below.refl _ _ | (with_reducible assumption) | refine bw_alloc ?_ _ | refine bw_drew ?_)))).mono ?_); rintro e w2 ⟨rfl, b2⟩; have HP2 := Lib.hid (below_up (below_up HP.out (by repeat (first | exact Below.refl _ _ | (with_reducible assumption) | refine bw_alloc ?_ _ | refine bw_drew ?_))) b2); clear b2))
        go_roundw
        case rel => exact ⟨k + 1, by omega, by go_num, by rw [HNN.out.1], rfl, Lib.hid (by rw [← HNN.out.1]; exact HNN.out.2), HP2⟩
        case measure => simp [intOf]; omega
      · have hst := HST.out.2 hok
        have HNO : Hid (res = none) := by rw [← HRES.out]; exact cap_not (by have := HTOP.out; rw [HN.out] at this; omega)
        have hcs : mb = false ∨ (mb = true ∧ ab = false) ∨ (mb = true ∧ ab = true ∧ 4611686018427387904 < A1) := by
          cases mb
          · exact .inl rfl
          · cases ab
            · exact .inr (.inl ⟨rfl, rfl⟩)
            · refine .inr (.inr ⟨rfl, rfl, ?_⟩)
              rcases Int.lt_or_le 4611686018427387904 A1 with z | z
              · exact z
              · exact absurd ⟨rfl, rfl, by omega⟩ hok
        clear hok hst HST HN HTOP
        rcases hcs with rfl | ⟨rfl, rfl⟩ | ⟨rfl, rfl, hA⟩
        all_goals
          go_wp2_with (first | (go_at_call 45; (with_reducible refine (AC.out _).mono ?_); rintro e w5 ⟨rfl, rfl⟩) | ((with_reducible refine (EC.out _ (below_up HP.out (by repeat (first | exact Below.refl _ _ | (with_reducible assumption) | refine bw_alloc ?_ _ | refine bw_drew ?_)))).mono ?_); rintro e w2 ⟨rfl, b2⟩; have HP2 := Lib.hid (below_up (below_up HP.out (by repeat (first | exact Below.refl _ _ | (with_reducible assumption) | refine bw_alloc ?_ _ | refine bw_drew ?_))) b2); clear b2))
          rw [Exit.noGoto_ret]
          go_ret2
          exact ⟨by rw [HNO.out]; rfl, HP2.out⟩
    · obtain rfl : k = n := by omega
      have HEE : Hid (res = some (sumN f l k)) := by rw [← HRES.out, HL.out]; exact cap_is HS.out
      have hs1 := HS.out
      have hs0 : 0 ≤ sumN f l k := sum_mono (fun y hy => Int.mul_nonneg (HOK.out y hy).c0 (HE.out.low y hy).1) (Nat.zero_le k)
      generalize sumN f l k = s at *
      have e1 : IntKind.i64.wrap s = s := IntWalk.i64_in _ (by omega)
      clear HS hs1 hs0
      go_wp2_with fail
      rw [Exit.noGoto_ret]
      go_ret2
      exact ⟨by rw [HEE.out]; rfl, HP.out⟩

set_option maxRecDepth 100000 in
set_option maxHeartbeats 4000000 in
/-- The work of one that is due by a time that lies in a box. -/
theorem pdue1_any (x : Dm) (hx : x.ok) (t : Int) (h0 : -1 ≤ t) (ht : t ≤ 2199023255552) (b : Nat) (w : World) (hb : w.heap[b]? = some (.cells #[.int .i64 t] 2 (0, 0))) :
    Calls Try.prog 44 #[.agg #[.int .i64 x.c, .int .i64 x.d, .int .i64 x.t], .pointer (some ⟨b, 0, none⟩)] w fun e w' => e = .returned (.tuple #[.int .u64 (mulN x.c (jobsD x t)), .bool (mulB x.c (jobsD x t))]) ∧ Below w.heap.size w w' := by
  have JC := Lib.hid (fun v => pjobs_any x hx t h0 ht v)
  have hj0 := jobs_nonneg hx t
  have hj1 := jobs_top hx ht
  have hc0 := hx.c0; have hc1 := hx.c1
  obtain ⟨j, hj⟩ : ∃ j, jobsD x t = j := ⟨_, rfl⟩
  rw [hj] at JC hj0 hj1 ⊢
  have e1 : IntKind.u64.wrap x.c = x.c := IntWalk.u64_in _ (by omega)
  have e2 : IntKind.u64.wrap j = j := IntWalk.u64_in _ (by omega)
  have MC := Lib.hid (fun v => mul_any x.c j ⟨hc0, by omega⟩ ⟨hj0, by omega⟩ v)
  obtain ⟨M, hM⟩ : ∃ M, mulN x.c j = M := ⟨_, rfl⟩
  obtain ⟨mb, hmb⟩ : ∃ mb, mulB x.c j = mb := ⟨_, rfl⟩
  rw [hM, hmb] at MC ⊢
  clear hj hj0 hj1 hc0 hc1 hx hM hmb
  go_enter Try.func44, Try.ntmps44
  go_upto_region 1 with fail
  refine gen_world (fun v => Below w.heap.size w v ∧ v.cell? ⟨w.heap.size, 0, none⟩ = some (.int .i64 x.c) ∧ v.cell? ⟨w.heap.size, 1, none⟩ = some (.int .i64 x.d) ∧ v.cell? ⟨w.heap.size, 2, none⟩ = some (.int .i64 x.t) ∧ v.cell? ⟨b, 0, none⟩ = some (.int .i64 t)) ⟨(by repeat (first | exact Below.refl _ _ | (with_reducible assumption) | refine bw_alloc ?_ _ | refine bw_drew ?_)), by rw [World.cell?_alloc_new]; rfl, by rw [World.cell?_alloc_new]; rfl, by rw [World.cell?_alloc_new]; rfl, kept_cell (show Below w.heap.size w _ from (by repeat (first | exact Below.refl _ _ | (with_reducible assumption) | refine bw_alloc ?_ _ | refine bw_drew ?_))) (by rw [blk_cell hb]; rfl)⟩ ?_
  clear hb
  intro V ⟨hb, c0, c1, c2, c3⟩
  have HB := Lib.hid hb
  have HC := Lib.hid (fun w' (hb : Below V.heap.size V w') => And.intro (kept_cell hb c0) (And.intro (kept_cell hb c1) (And.intro (kept_cell hb c2) (kept_cell hb c3))))
  clear hb
  go_region_held3 (fun w' => w'.cell? ⟨w.heap.size, 0, none⟩ = some (.int .i64 x.c) ∧ w'.cell? ⟨w.heap.size, 1, none⟩ = some (.int .i64 x.d) ∧ w'.cell? ⟨w.heap.size, 2, none⟩ = some (.int .i64 x.t) ∧ w'.cell? ⟨b, 0, none⟩ = some (.int .i64 t)) (exact HC.out _ (by repeat (first | exact Below.refl _ _ | (with_reducible assumption) | refine bw_drew ?_ | refine bw_alloc ?_ _))) (first | (go_at_call 31; (with_reducible refine (Calls.upV (V := V) (by repeat (first | exact Below.refl _ _ | (with_reducible assumption) | refine bw_alloc ?_ _ | refine bw_drew ?_)) (JC.out _)).mono ?_); rintro e wj ⟨rfl, bzj, bx1⟩; clear bzj) | (go_at_call 34; (with_reducible refine (MC.out _).mono ?_); rintro e wm ⟨rfl, rfl⟩))
  all_goals
    go_wp2_with fail
    go_ret2
    exact ⟨rfl, below_up HB.out (by repeat (first | exact Below.refl _ _ | (with_reducible assumption) | refine bw_drew ?_ | refine bw_alloc ?_ _))⟩

set_option maxRecDepth 100000 in
set_option maxHeartbeats 4000000 in
/-- The work of one in a period that lies in a box. -/
theorem pload1_any (x : Dm) (hx : x.ok) (p : Int) (h0 : 0 ≤ p) (h1 : p ≤ 1048576) (b : Nat) (w : World) (hb : w.heap[b]? = some (.cells #[.int .i64 p] 2 (0, 0))) :
    Calls Try.prog 33 #[.agg #[.int .i64 x.c, .int .i64 x.d, .int .i64 x.t], .pointer (some ⟨b, 0, none⟩)] w fun e w' => e = .returned (.tuple #[.int .u64 (mulN x.c (p / x.t)), .bool (mulB x.c (p / x.t))]) ∧ Below w.heap.size w w' := by
  obtain ⟨hj0, hj1, _, _⟩ := load_part hx h0 h1
  have hc0 := hx.c0; have hc1 := hx.c1; have hd1 := hx.d1; have hd2 := hx.d2
  have z0 : p.tdiv x.t = p / x.t := Int.tdiv_eq_ediv_of_nonneg h0
  have e3 : IntKind.i64.wrap (p.tdiv x.t) = p / x.t := by rw [z0]; exact IntWalk.i64_in _ (by omega)
  have e4 : IntKind.i64.wrap (p / x.t) = p / x.t := IntWalk.i64_in _ (by omega)
  have z1 : (x.t == 0) = false := by rw [beq_eq_false_iff_ne]; omega
  have z2 : ¬ x.t = 0 := by omega
  obtain ⟨j, hj⟩ : ∃ j, p / x.t = j := ⟨_, rfl⟩
  rw [hj] at hj0 hj1 e3 e4 ⊢
  have e1 : IntKind.u64.wrap x.c = x.c := IntWalk.u64_in _ (by omega)
  have e2 : IntKind.u64.wrap j = j := IntWalk.u64_in _ (by omega)
  have MC := Lib.hid (fun v => mul_any x.c j ⟨hc0, by omega⟩ ⟨hj0, by omega⟩ v)
  obtain ⟨M, hM⟩ : ∃ M, mulN x.c j = M := ⟨_, rfl⟩
  obtain ⟨mb, hmb⟩ : ∃ mb, mulB x.c j = mb := ⟨_, rfl⟩
  rw [hM, hmb] at MC ⊢
  clear hj0 hj1 hc0 hc1 hx hM hmb hd1 hd2 z0
  go_enter Try.func33, Try.ntmps33
  go_upto_region 1 with fail
  refine gen_world (fun v => Below w.heap.size w v ∧ v.cell? ⟨w.heap.size, 0, none⟩ = some (.int .i64 x.c) ∧ v.cell? ⟨w.heap.size, 1, none⟩ = some (.int .i64 x.d) ∧ v.cell? ⟨w.heap.size, 2, none⟩ = some (.int .i64 x.t) ∧ v.cell? ⟨b, 0, none⟩ = some (.int .i64 p)) ⟨(by repeat (first | exact Below.refl _ _ | (with_reducible assumption) | refine bw_alloc ?_ _ | refine bw_drew ?_)), by rw [World.cell?_alloc_new]; rfl, by rw [World.cell?_alloc_new]; rfl, by rw [World.cell?_alloc_new]; rfl, kept_cell (show Below w.heap.size w _ from (by repeat (first | exact Below.refl _ _ | (with_reducible assumption) | refine bw_alloc ?_ _ | refine bw_drew ?_))) (by rw [blk_cell hb]; rfl)⟩ ?_
  clear hb
  intro V ⟨hb, c0, c1, c2, c3⟩
  have HB := Lib.hid hb
  have HC := Lib.hid (fun w' (hb : Below V.heap.size V w') => And.intro (kept_cell hb c0) (And.intro (kept_cell hb c1) (And.intro (kept_cell hb c2) (kept_cell hb c3))))
  clear hb
  go_region_held3 (fun w' => w'.cell? ⟨w.heap.size, 0, none⟩ = some (.int .i64 x.c) ∧ w'.cell? ⟨w.heap.size, 1, none⟩ = some (.int .i64 x.d) ∧ w'.cell? ⟨w.heap.size, 2, none⟩ = some (.int .i64 x.t) ∧ w'.cell? ⟨b, 0, none⟩ = some (.int .i64 p)) (exact HC.out _ (by repeat (first | exact Below.refl _ _ | (with_reducible assumption) | refine bw_drew ?_ | refine bw_alloc ?_ _))) ((go_at_call 34; (with_reducible refine (MC.out _).mono ?_); rintro e wm ⟨rfl, rfl⟩))
  all_goals
    go_wp2_with fail
    go_ret2
    exact ⟨rfl, below_up HB.out (by repeat (first | exact Below.refl _ _ | (with_reducible assumption) | refine bw_drew ?_ | refine bw_alloc ?_ _))⟩
end Go.Proofs.Ytbliagfmpcmfdaa

/-
  The walks over the demands that plain numbers mean, and over a row that is cut.
-/
namespace Go.Proofs.Ytbliagfmpcmfdaa
open Go.RowKit Go.Maps

/-- A row of triples. -/
structure Trips (W : World) (a : Option Addr) (n : Nat) (l : Nat → Int × Int × Int) : Prop where
  small : (n : Int) ≤ 9223372036854775807
  at_ : ∀ k, k < n → ∃ g o, a = some ⟨g, o, none⟩ ∧ W.cell? ⟨g, o + k * 3, none⟩ = some (.int .i64 (l k).1) ∧ W.cell? ⟨g, o + k * 3 + 1, none⟩ = some (.int .i64 (l k).2.1) ∧ W.cell? ⟨g, o + k * 3 + 2, none⟩ = some (.int .i64 (l k).2.2)
theorem Trips.below {w w' : World} {a : Option Addr} {n : Nat} {l : Nat → Int × Int × Int} (h : Trips w a n l) (hb : Below w.heap.size w w') : Trips w' a n l :=
  ⟨h.small, fun k hk => by obtain ⟨g, o, e, c0, c1, c2⟩ := h.at_ k hk; exact ⟨g, o, e, kept_cell hb c0, kept_cell hb c1, kept_cell hb c2⟩⟩
/-- What a demand is that numbers mean. -/
structure GoodD (x : Dm) : Prop where
  per : x.t = 4 ∨ x.t = 5 ∨ x.t = 6 ∨ x.t = 8 ∨ x.t = 10 ∨ x.t = 12 ∨ x.t = 20 ∨ x.t = 24
  d1 : 1 ≤ x.d
  d2 : x.d ≤ x.t
  c0 : 0 ≤ x.c
  c1 : x.c ≤ x.d
theorem GoodD.ok {x : Dm} (h : GoodD x) : x.ok := by
  have := h.per; have := h.d2; have := h.c1
  exact ⟨h.c0, by omega, h.d1, h.d2, by omega⟩
def AllGood (M : List Dm) : Prop := ∀ x ∈ M, GoodD x
theorem AllGood.ok {M : List Dm} (h : AllGood M) : ∀ x ∈ M, x.ok := fun x hx => (h x hx).ok
theorem AllGood.more {M : List Dm} {x : Dm} (h : AllGood M) (hx : GoodD x) : AllGood (M ++ [x]) := fun y hy => (List.mem_append.1 hy).elim (h y) (fun z => by rw [List.mem_singleton.1 z]; exact hx)
theorem and_small (n : Int) (m : Nat) (hm : m < 1000) : ∃ j : Nat, j ≤ m ∧ bits .and .i64 n (m : Int) = (j : Int) := by
  have hm2 : (BitVec.ofInt 64 (m : Int)).toNat = m := by
    rw [BitVec.toNat_ofInt]; omega
  have h : (BitVec.ofInt 64 n &&& BitVec.ofInt 64 (m : Int)).toNat ≤ m := by
    rw [BitVec.toNat_and, hm2]; exact Nat.and_le_right
  refine ⟨_, h, ?_⟩
  show IntKind.i64.wrap _ = _
  exact IntWalk.i64_in _ (by show _ ∧ ((BitVec.ofInt 64 n &&& BitVec.ofInt 64 (m : Int)).toNat : Int) ≤ _; omega)
theorem and7 (n : Int) : ∃ j : Nat, j < 8 ∧ bits .and .i64 n 7 = (j : Int) := by
  obtain ⟨j, h1, h2⟩ := and_small n 7 (by omega)
  exact ⟨j, by omega, h2⟩
def per8 : Array Value := #[.int .i64 4, .int .i64 5, .int .i64 6, .int .i64 8, .int .i64 10, .int .i64 12, .int .i64 20, .int .i64 24]
theorem period (j : Nat) (hj : j < 8) : ∃ t : Int, per8[j]? = some (.int .i64 t) ∧ (t = 4 ∨ t = 5 ∨ t = 6 ∨ t = 8 ∨ t = 10 ∨ t = 12 ∨ t = 20 ∨ t = 24) := by
  match j, hj with
  | 0, _ => exact ⟨4, rfl, by omega⟩
  | 1, _ => exact ⟨5, rfl, by omega⟩
  | 2, _ => exact ⟨6, rfl, by omega⟩
  | 3, _ => exact ⟨8, rfl, by omega⟩
  | 4, _ => exact ⟨10, rfl, by omega⟩
  | 5, _ => exact ⟨12, rfl, by omega⟩
  | 6, _ => exact ⟨20, rfl, by omega⟩
  | 7, _ => exact ⟨24, rfl, by omega⟩
theorem dm_new (w : World) (x : Dm) (T : TypeId) : GView (w.alloc (.cells #[.int .i64 x.c, .int .i64 x.d, .int .i64 x.t] T)) (some ⟨w.heap.size, 0, none⟩) [x] :=
  GView.of_at ⟨by rw [World.cell?_alloc_new]; rfl, by rw [World.cell?_alloc_new]; rfl, by rw [World.cell?_alloc_new]; rfl⟩
/-- The boxes: the periods, a row of one's own. -/
structure MdAt (w : World) (v : Value) (M : List Dm) (V : World) : Prop where
  low : Below w.heap.size w V
  per : V.heap[w.heap.size]? = some (.cells per8 52 (0, 0))
  own : OwnG V (w.heap.size + 1) v M
theorem MdAt.sz {w V : World} {v : Value} {M : List Dm} (h : MdAt w v M V) : w.heap.size + 1 ≤ V.heap.size := lt_of_block h.per
theorem MdAt.below {w V V' : World} {v : Value} {M : List Dm} (h : MdAt w v M V) (hb : Below V.heap.size V V') : MdAt w v M V' := ⟨below_up h.low hb, kept_obj hb h.per, h.own.below hb⟩
theorem MdAt.push {w V V' : World} {v v' : Value} {M M' : List Dm} (h : MdAt w v M V) (hg : V.grownBy V' v.ownBlock) (ho : OwnG V' (w.heap.size + 1) v' M') : MdAt w v' M' V' := by
  have hb : Below (w.heap.size + 1) V V' := (Below.refl _ V).grown hg h.sz (fun k hk => (h.own.new hk).1)
  exact ⟨h.low.trans (hb.mono (Nat.le_succ _)), kept_objB hb (Nat.lt_succ_self _) h.per, ho⟩

set_option maxRecDepth 100000 in
set_option maxHeartbeats 8000000 in
theorem made11_any {w : World} {a : Option Addr} {n : Nat} {l : Nat → Int × Int × Int} (hn : Trips w a n l) (cap : Nat) :
    Calls Try.prog 11 #[.slice a n cap] w fun e w' => (∃ (a' : Option Addr) (N c' : Nat) (M : List Dm), e = .returned (.slice a' N c') ∧ GView w' a' M ∧ M.length = N ∧ N = min n 6 ∧ N ≤ c' ∧ (c' : Int) ≤ 9223372036854775807 ∧ AllGood M) ∧ Below w.heap.size w w' := by
  have HN := Lib.hid hn
  have hn9 := hn.small
  clear hn
  obtain ⟨m, hm⟩ : ∃ m, min n 6 = m := ⟨_, rfl⟩
  have HM := Lib.hid hm
  have hm1 : m ≤ n := by omega
  have hm2 : m ≤ 6 := by omega
  have hor : m = n ∨ (m = 6 ∧ 6 < n) := by omega
  have HG : Hid (min n 6 = m) := hm
  clear hm
  go_enter Try.func11, Try.ntmps11
  go_upto_region 2 with fail
  refine gen_world (MdAt w (.slice none 0 0) []) ⟨(by repeat (first | exact Below.refl _ _ | (with_reducible assumption) | refine bw_alloc ?_ _ | refine bw_drew ?_)), heap_alloc_new w _, World.ownsRow_nil _ _ _ _⟩ ?_
  intro V0 hv0
  have HV0 := Lib.hid hv0
  clear hv0
  go_wp2
  go_loopw [4, 5] (fun g u wr => ∃ (k : Nat) (a' : Option Addr) (c' : Nat) (M : List Dm), k ≤ m ∧ u = .int .i64 k ∧ g = .slice a' k c' ∧ Hid (MdAt w (.slice a' k c') M wr) ∧ Hid (M.length = k) ∧ Hid (AllGood M)) (fun _ u _ => (m - intOf u).toNat)
  case atStart => exact ⟨0, none, 0, [], Nat.zero_le _, rfl, rfl, HV0, rfl, fun x hx => by cases hx⟩
  case round =>
    obtain ⟨k, a', c', M, hk, rfl, rfl, HP, HL, HA⟩ := hrel
    clear HV0
    by_cases hlt : k < m
    · obtain ⟨g, o, rfl, c0, c1, c2⟩ := (HN.out.below HP.out.low).at_ k (by omega)
      have hk1 : (k : Int) < (n : Int) := by omega
      have hk2 : (k : Int) < 6 := by omega
      have hk0 : (0 : Int) ≤ (k : Int) := by omega
      obtain ⟨q, hq⟩ : ∃ q, l k = q := ⟨_, rfl⟩
      rw [hq] at c0 c1 c2
      clear hq
      obtain ⟨q1, q2, q3⟩ := q
      dsimp only at c0 c1 c2
      obtain ⟨j, hj, hband⟩ := and7 q3
      obtain ⟨T, hT, hTs⟩ := period j hj
      have p0 : wr.cell? ⟨w.heap.size, j, none⟩ = some (.int .i64 T) := by rw [blk_cell HP.out.per]; exact hT
      have hj0 : (0 : Int) ≤ (j : Int) := by omega
      have hj8 : (j : Int) < 8 := by omega
      have hT4 : 4 ≤ T ∧ T ≤ 24 := by omega
      have z1 : (T == 0) = false := by rw [beq_eq_false_iff_ne]; omega
      have z2 : ¬ T = 0 := by omega
      have r1a := Int.tmod_lt_of_pos q2 (show 0 < T by omega)
      have r1b := Int.lt_tmod_of_pos q2 (show 0 < T by omega)
      obtain ⟨R1, hR1⟩ : ∃ R, q2.tmod T = R := ⟨_, rfl⟩
      rw [hR1] at r1a r1b
      have e1 : IntKind.i64.wrap (R1 + T) = R1 + T := IntWalk.i64_in _ (by omega)
      have d1a := Int.emod_nonneg (R1 + T) (show T ≠ 0 by omega)
      have d1b := Int.emod_lt_of_pos (R1 + T) (show 0 < T by omega)
      have e1t : (R1 + T).tmod T = (R1 + T) % T := Int.tmod_eq_emod_of_nonneg (by omega)
      obtain ⟨D0, hD0⟩ : ∃ D, (R1 + T) % T = D := ⟨_, rfl⟩
      rw [hD0] at d1a d1b e1t
      have e2 : IntKind.i64.wrap (1 + D0) = 1 + D0 := IntWalk.i64_in _ (by omega)
      obtain ⟨D, hD⟩ : ∃ D, 1 + D0 = D := ⟨_, rfl⟩
      rw [hD] at e2
      have hDD : 1 ≤ D ∧ D ≤ T := by omega
      have e3 : IntKind.i64.wrap (D + 1) = D + 1 := IntWalk.i64_in _ (by omega)
      obtain ⟨D2, hD2⟩ : ∃ D2, D + 1 = D2 := ⟨_, rfl⟩
      rw [hD2] at e3
      have z3 : (D2 == 0) = false := by rw [beq_eq_false_iff_ne]; omega
      have z4 : ¬ D2 = 0 := by omega
      have r2a := Int.tmod_lt_of_pos q1 (show 0 < D2 by omega)
      have r2b := Int.lt_tmod_of_pos q1 (show 0 < D2 by omega)
      obtain ⟨R2, hR2⟩ : ∃ R, q1.tmod D2 = R := ⟨_, rfl⟩
      rw [hR2] at r2a r2b
      have e4 : IntKind.i64.wrap (R2 + D) = R2 + D := IntWalk.i64_in _ (by omega)
      have e5 : IntKind.i64.wrap (R2 + D + 1) = R2 + D + 1 := IntWalk.i64_in _ (by omega)
      have c1a := Int.emod_nonneg (R2 + D + 1) (show D2 ≠ 0 by omega)
      have c1b := Int.emod_lt_of_pos (R2 + D + 1) (show 0 < D2 by omega)
      have e5t : (R2 + D + 1).tmod D2 = (R2 + D + 1) % D2 := Int.tmod_eq_emod_of_nonneg (by omega)
      obtain ⟨C, hC⟩ : ∃ C, (R2 + D + 1) % D2 = C := ⟨_, rfl⟩
      rw [hC] at c1a c1b e5t
      have HGD : Hid (GoodD ⟨C, D, T⟩) := ⟨hTs, by show 1 ≤ D; omega, by show D ≤ T; omega, c1a, by show C ≤ D; omega⟩
      have HAA := Lib.hid (HA.out.more HGD.out)
      have HLL : Hid ((M ++ [(⟨C, D, T⟩ : Dm)]).length = k + 1) := by show _ = _; rw [List.length_append, HL.out]; rfl
      have HSM : Hid (M.length + 1 ≤ 1000000) := by have := HL.out; show _ ≤ _; omega
      have HNN : Hid (M.length + 1 = k + 1) := by have := HL.out; show _ = _; omega
      have u1 : (1 : Int) + D0 = D := hD
      clear hT hTs hj hT4 r1a r1b d1a d1b hDD r2a r2b c1a c1b HGD HA HL
      clear hD
      go_wp2_with (at_builtin; refine wp_gappend (m := 1) (l := [(⟨C, D, T⟩ : Dm)]) rfl _ _ rfl rfl rfl ((HP.out.below (by repeat (first | exact Below.refl _ _ | (with_reducible assumption) | refine bw_alloc ?_ _ | refine bw_drew ?_))).own) (HP.out.below (by repeat (first | exact Below.refl _ _ | (with_reducible assumption) | refine bw_alloc ?_ _ | refine bw_drew ?_))).sz (dm_new wr ⟨C, D, T⟩ _) rfl HSM.out (fun z => by cases z) (k + 1) HNN.out ?_; intro a6 c6 w6 o6 n6 l6; have HP6 := Lib.hid ((HP.out.below (by repeat (first | exact Below.refl _ _ | (with_reducible assumption) | refine bw_alloc ?_ _ | refine bw_drew ?_))).push n6 o6); clear o6 n6 l6)
      go_roundw
      case rel => exact ⟨k + 1, a6, c6, _, by omega, by go_num, rfl, HP6, HLL, HAA⟩
      case measure => simp [intOf]; omega
    · obtain rfl : m = k := by omega
      have HO := Lib.hid HP.out.own.slice
      have HQ : Hid (∀ w', w' = wr → (∃ (a9 : Option Addr) (N c9 : Nat) (M9 : List Dm), Ending.returned (.slice a' m c') = .returned (.slice a9 N c9) ∧ GView w' a9 M9 ∧ M9.length = N ∧ N = min n 6 ∧ N ≤ c9 ∧ (c9 : Int) ≤ 9223372036854775807 ∧ AllGood M9) ∧ Below w.heap.size w w') := by
        rintro w' rfl
        obtain ⟨a9, c9, e9, hv, h1, h2⟩ := HO.out
        obtain ⟨rfl, hN, rfl⟩ := Value.slice.inj e9
        exact ⟨⟨_, _, _, M, rfl, hv, HL.out, HG.out.symm, by rw [hN]; exact h1, h2, HA.out⟩, HP.out.low⟩
      clear HG HM
      rcases hor with rfl | ⟨rfl, hh⟩
      · go_wp2
        go_ret
        exact HQ.out _ rfl
      · have h66 : (6 : Int) < (n : Int) := by omega
        go_wp2
        go_ret
        exact HQ.out _ rfl
end Go.Proofs.Ytbliagfmpcmfdaa

/-
  A row of demands as callers have it.
-/
namespace Go.Proofs.Ytbliagfmpcmfdaa
open Go.RowKit Go.Maps

/-- A row of demands as callers have it. -/
structure Dems (W : World) (a : Option Addr) (n c : Nat) (l : List Dm) : Prop where
  len : l.length = n
  view : GView W a l
  le : n ≤ c
  small : (c : Int) ≤ 9223372036854775807
  wf : ∀ x ∈ l, I64 x.c ∧ I64 x.d ∧ I64 x.t
theorem Dems.below {w w' : World} {a : Option Addr} {n c : Nat} {l : List Dm} (h : Dems w a n c l) (hb : Below w.heap.size w w') : Dems w' a n c l := ⟨h.len, h.view.below hb, h.le, h.small, h.wf⟩
theorem Dems.n9 {w : World} {a : Option Addr} {n c : Nat} {l : List Dm} (h : Dems w a n c l) : (n : Int) ≤ 9223372036854775807 := by have := h.le; have := h.small; omega
theorem Dems.good {w : World} {a : Option Addr} {n c : Nat} {l : List Dm} (h1 : GView w a l) (h2 : l.length = n) (h3 : n ≤ c) (h4 : (c : Int) ≤ 9223372036854775807) (h5 : AllGood l) : Dems w a n c l :=
  ⟨h2, h1, h3, h4, fun x hx => by
    have h := h5 x hx
    have := h.per; have := h.d1; have := h.d2; have := h.c0; have := h.c1
    unfold I64; omega⟩
end Go.Proofs.Ytbliagfmpcmfdaa

/-
  The walks over the program's work due, next deadline, last deadline.
-/
namespace Go.Proofs.Ytbliagfmpcmfdaa
open Go.RowKit Go.Maps
attribute [-go_sem] run_min_int2 run_max_int2

theorem each_due {l : List Dm} (hok : ∀ x ∈ l, x.ok) {t : Int} (h0 : -1 ≤ t) (ht : t ≤ 2199023255552) {b : Nat} {V : World} (hb : V.heap[b]? = some (.cells #[.int .i64 t] 2 (0, 0))) : Each l 44 (.pointer (some ⟨b, 0, none⟩)) (fun x => jobsD x t) V where
  enter := fun _ _ => MuLone.run_callFunc_enter Try.func44 (by kernel_rfl) rfl _ _
  call := fun x w hx hw => pdue1_any x (hok x hx) t h0 ht b w (kept_obj hw hb)
  low := fun x hx => ⟨jobs_nonneg (hok x hx) t, jobs_top (hok x hx) ht⟩
theorem each_load {l : List Dm} (hok : ∀ x ∈ l, x.ok) {p : Int} (h0 : 0 ≤ p) (h1 : p ≤ 1048576) {b : Nat} {V : World} (hb : V.heap[b]? = some (.cells #[.int .i64 p] 2 (0, 0))) : Each l 33 (.pointer (some ⟨b, 0, none⟩)) (fun x => p / x.t) V where
  enter := fun _ _ => MuLone.run_callFunc_enter Try.func33 (by kernel_rfl) rfl _ _
  call := fun x w hx hw => pload1_any x (hok x hx) p h0 h1 b w (kept_obj hw hb)
  low := fun x hx => by have := load_part (hok x hx) h0 h1; exact ⟨this.1, by omega⟩

set_option maxRecDepth 100000 in
set_option maxHeartbeats 4000000 in
theorem pdue_any (l : List Dm) (n c : Nat) (hl : l.length = n) (hn : (n : Int) ≤ 9223372036854775807) (hok : ∀ x ∈ l, x.ok) (a : Option Addr) (t : Int) (h0 : -1 ≤ t) (ht : t ≤ 2199023255552) (w : World) (hv : GView w a l) :
    Calls Try.prog 29 #[.slice a n c, .int .i64 t] w fun e w' => e = .returned (.tuple #[.int .i64 ((capA (dueA l t)).getD 0), .bool (capA (dueA l t)).isSome]) ∧ Below w.heap.size w w' := by
  have hb1 : Below w.heap.size w (w.alloc (.cells #[.int .i64 t] 2)) := (by repeat (first | exact Below.refl _ _ | (with_reducible assumption) | refine bw_alloc ?_ _ | refine bw_drew ?_))
  have TC := Lib.hid (together_any l n c hl hn hok a _ (hv.below hb1) _ _ _ (each_due hok h0 ht (heap_alloc_new w (.cells #[.int .i64 t] 2))))
  have hmf : ∀ (fn : Fn) (first cap : Array Value) (w : World), (Instr.makeFunc fn first cap).run Try.prog w = .ok (.func fn first cap) w := fun _ _ _ _ => rfl
  have HB1 := Lib.hid hb1
  rw [sum_due l t l.length, show dueN l t l.length = dueA l t from rfl] at TC
  generalize capA (dueA l t) = res at *
  clear hv hok hb1 hl
  go_enter Try.func29, Try.ntmps29
  go_wp2_with (go_at_call 32; (with_reducible refine TC.out.mono ?_); rintro e w1 ⟨rfl, bx1⟩)
  go_ret2
  exact ⟨rfl, below_up HB1.out bx1⟩

/-- The least deadline above a time, if there are demands that may be. -/
theorem ofA_cap {l : List Dm} {t : Int} (h1 : okL l = true) (h2 : timeB t = true) : ofA l t = capA (dueA l t) := by
  unfold ofA capA
  by_cases q : dueA l t ≤ 4611686018427387904
  · rw [if_pos q, if_pos ⟨h1, h2, q⟩]
  · rw [if_neg q, if_neg fun h => q h.2.2]

set_option maxRecDepth 100000 in
set_option maxHeartbeats 4000000 in
theorem pof_any {w : World} {a : Option Addr} {n c : Nat} {l : List Dm} (h : Dems w a n c l) (t : Int) (ht : I64 t) : Calls Try.prog 14 #[.slice a n c, .int .i64 t] w fun e w' => e = .returned (.tuple #[.int .i64 ((ofA l t).getD 0), .bool (ofA l t).isSome]) ∧ Below w.heap.size w w' := by
  have HV := Lib.hid h.view
  have RC := Lib.hid (fun v (hb : Below w.heap.size w v) => pchk_any l n c h.len h.n9 a v (h.view.below hb))
  have TC := Lib.hid (fun v => ptime_any t v)
  obtain ⟨b1, hb1⟩ : ∃ b1, okL l = b1 := ⟨_, rfl⟩
  obtain ⟨b2, hb2⟩ : ∃ b2, timeB t = b2 := ⟨_, rfl⟩
  by_cases hbad : b1 = false ∨ b2 = false
  · have HN : Hid (ofA l t = none) := ofA_bad (by rcases hbad with h | h <;> simp_all)
    rw [hb1] at RC
    rw [hb2] at TC
    have hcs : b1 = false ∨ (b1 = true ∧ b2 = false) := by
      rcases hbad with h | h
      · exact .inl h
      · cases b1
        · exact .inl rfl
        · exact .inr ⟨rfl, h⟩
    clear hbad hb1 hb2 h ht
    rcases hcs with rfl | ⟨rfl, rfl⟩
    all_goals
      go_enter Try.func14, Try.ntmps14
      go_wp2_with (first
        | (go_at_call 25; (with_reducible refine (RC.out _ (by repeat (first | exact Below.refl _ _ | (with_reducible assumption) | refine bw_alloc ?_ _ | refine bw_drew ?_))).mono ?_); rintro e w1 ⟨rfl, bx1⟩)
        | (go_at_call 28; (with_reducible refine (TC.out _).mono ?_); rintro e w2 ⟨rfl, rfl⟩))
      go_ret2
      exact ⟨by rw [HN.out]; rfl, bx1⟩
  obtain rfl : b1 = true := by cases b1 with | true => rfl | false => exact absurd (.inl rfl) hbad
  obtain rfl : b2 = true := by cases b2 with | true => rfl | false => exact absurd (.inr rfl) hbad
  have ht2 := timeB_iff.1 hb2
  have DC := Lib.hid (fun v (hb : Below w.heap.size w v) => pdue_any l n c h.len h.n9 (okL_iff.1 hb1).1 a t (by have := ht2.1; omega) ht2.2 v (h.view.below hb))
  rw [← ofA_cap hb1 hb2] at DC
  rw [hb1] at RC
  rw [hb2] at TC
  generalize ofA l t = res at *
  clear hbad hb1 hb2 h ht ht2
  go_enter Try.func14, Try.ntmps14
  go_wp2_with (first
    | (go_at_call 25; (with_reducible refine (RC.out _ (by repeat (first | exact Below.refl _ _ | (with_reducible assumption) | refine bw_alloc ?_ _ | refine bw_drew ?_))).mono ?_); rintro e w1 ⟨rfl, bx1⟩)
    | (go_at_call 28; (with_reducible refine (TC.out _).mono ?_); rintro e w2 ⟨rfl, rfl⟩)
    | (go_at_call 29; (with_reducible refine (DC.out _ bx1).mono ?_); rintro e w3 ⟨rfl, bx3⟩))
  go_ret2
  exact ⟨rfl, below_up bx1 bx3⟩

set_option maxRecDepth 100000 in
set_option maxHeartbeats 8000000 in
theorem plast_any {w : World} {a : Option Addr} {n c : Nat} {l : List Dm} (h : Dems w a n c l) (t : Int) (ht : I64 t) : Calls Try.prog 16 #[.slice a n c, .int .i64 t] w fun e w' => e = .returned (.tuple #[.int .i64 ((lastS l t).getD 0), .bool (lastS l t).isSome]) ∧ Below w.heap.size w w' := by
  have HV := Lib.hid h.view
  have HL := Lib.hid h.len
  have hn9 := h.n9
  have RC := Lib.hid (fun v (hb : Below w.heap.size w v) => pchk_any l n c h.len h.n9 a v (h.view.below hb))
  have TC := Lib.hid (fun v => ptime_any t v)
  obtain ⟨b1, hb1⟩ : ∃ b1, okL l = b1 := ⟨_, rfl⟩
  obtain ⟨b2, hb2⟩ : ∃ b2, timeB t = b2 := ⟨_, rfl⟩
  by_cases hbad : b1 = false ∨ b2 = false
  · have HN : Hid (lastS l t = none) := lastS_bad (by rcases hbad with h | h <;> simp_all)
    rw [hb1] at RC
    rw [hb2] at TC
    have hcs : b1 = false ∨ (b1 = true ∧ b2 = false) := by
      rcases hbad with h | h
      · exact .inl h
      · cases b1
        · exact .inl rfl
        · exact .inr ⟨rfl, h⟩
    clear hbad hb1 hb2 h ht
    rcases hcs with rfl | ⟨rfl, rfl⟩
    all_goals
      go_enter Try.func16, Try.ntmps16
      go_wp2_with (first
        | (go_at_call 25; (with_reducible refine (RC.out _ (by repeat (first | exact Below.refl _ _ | (with_reducible assumption) | refine bw_alloc ?_ _ | refine bw_drew ?_))).mono ?_); rintro e w1 ⟨rfl, bx1⟩)
        | (go_at_call 28; (with_reducible refine (TC.out _).mono ?_); rintro e w2 ⟨rfl, rfl⟩))
      go_ret2
      exact ⟨by rw [HN.out]; rfl, bx1⟩
  obtain rfl : b1 = true := by cases b1 with | true => rfl | false => exact absurd (.inl rfl) hbad
  obtain rfl : b2 = true := by cases b2 with | true => rfl | false => exact absurd (.inr rfl) hbad
  have HT := Lib.hid (timeB_iff.1 hb2)
  have HOK := Lib.hid (okL_iff.1 hb1).1
  have HRES := Lib.hid (lastS_is hb1 hb2)
  rw [hb1] at RC
  rw [hb2] at TC
  obtain ⟨res, hres⟩ : ∃ res, lastS l t = res := ⟨_, rfl⟩
  rw [hres] at HRES ⊢
  have et : IntKind.i64.wrap (t - 1) = t - 1 := IntWalk.i64_in _ (by have := HT.out.1; have := HT.out.2; omega)
  clear hbad hb1 hb2 h ht hres
  go_enter Try.func16, Try.ntmps16
  go_upto_block 0 with (first
    | (go_at_call 25; (with_reducible refine (RC.out _ (by repeat (first | exact Below.refl _ _ | (with_reducible assumption) | refine bw_alloc ?_ _ | refine bw_drew ?_))).mono ?_); rintro e w1 ⟨rfl, bx1⟩; have HB1 := Lib.hid bx1; clear bx1)
    | (go_at_call 28; (with_reducible refine (TC.out _).mono ?_); rintro e w2 ⟨rfl, rfl⟩))
  clear RC TC
  go_cut [6] (fun u wx => ∃ p : Option Int, u = .int .i64 (p.getD 0) ∧ Hid (p = res ∧ ∀ y, p = some y → 0 < y) ∧ Hid (Below w.heap.size w wx))
  case first =>
    go_wp2
    go_loopw [6, 20] (fun g u wr => ∃ k : Nat, k ≤ n ∧ u = .int .i64 k ∧ g = .int .i64 ((lastN l t k).getD 0) ∧ Hid (Below w.heap.size w wr)) (fun _ u _ => (n - intOf u).toNat)
    case atStart => exact ⟨0, Nat.zero_le _, rfl, rfl, HB1⟩
    case round =>
      obtain ⟨k, hk, rfl, rfl, HP⟩ := hrel
      clear HB1
      by_cases hlt : k < n
      · obtain ⟨x, hx⟩ := nth_of HL.out hlt
        have hxo := HOK.out x (List.mem_of_getElem? hx)
        obtain ⟨g, o, rfl, ⟨c0, c1, c2⟩⟩ := (HV.out.below HP.out).at_ hx
        have hk1 : (k : Int) < (n : Int) := by omega
        have hk0 : (0 : Int) ≤ (k : Int) := by omega
        have JC := Lib.hid (fun v => pjobs_any x hxo (t - 1) (by have := HT.out.1; omega) (by have := HT.out.2; omega) v)
        have hj0 := jobs_nonneg hxo (t - 1)
        have hfit := (jobs_fit hxo (t - 1)).2
        obtain ⟨p, hp⟩ : ∃ p, lastN l t k = p := ⟨_, rfl⟩
        by_cases hj : jobsD x (t - 1) = 0
        · have HN := Lib.hid (last_skip hx hj)
          rw [hj] at JC
          rw [hp] at HN ⊢
          clear hx hxo hj hj0 hfit hp
          go_wp2_with (go_at_call 31; (with_reducible refine (JC.out _).mono ?_); rintro e wj ⟨rfl, bxj⟩; have HPJ := Lib.hid (below_up (below_up HP.out (by repeat (first | exact Below.refl _ _ | (with_reducible assumption) | refine bw_alloc ?_ _ | refine bw_drew ?_))) bxj); clear bxj)
          go_roundw
          case rel => exact ⟨k + 1, by omega, by go_num, by rw [HN.out], HPJ⟩
          case measure => simp [intOf]; omega
        · have HN := Lib.hid (last_step hx hj)
          have hf := hfit (by omega)
          have hd1 := hxo.d1; have hd2 := hxo.d2; have ht2 := hxo.t2
          have htt := HT.out.2
          obtain ⟨j, hjj⟩ : ∃ j, jobsD x (t - 1) = j := ⟨_, rfl⟩
          have hpv : prvD x t = x.d + (j - 1) * x.t := by unfold prvD; rw [hjj]
          have hnx : nxtD x (t - 1) - x.t = x.d + (j - 1) * x.t := by unfold nxtD; rw [hjj, Int.sub_mul, Int.one_mul]; omega
          have hm0 : 0 ≤ (j - 1) * x.t := Int.mul_nonneg (by omega) (by omega)
          have hjt := jobs_top hxo (t := t - 1) (by omega)
          rw [hnx] at hf
          rw [hpv] at HN
          rw [hjj] at JC hj0 hjt
          have hjp : 0 < j := by omega
          rw [hp] at HN ⊢
          have e1 : IntKind.i64.wrap (j - 1) = j - 1 := IntWalk.i64_in _ (by omega)
          have e2 : IntKind.i64.wrap ((j - 1) * x.t) = (j - 1) * x.t := IntWalk.i64_in _ (by omega)
          have e3 : IntKind.i64.wrap (x.d + (j - 1) * x.t) = x.d + (j - 1) * x.t := IntWalk.i64_in _ (by omega)
          obtain ⟨q, hq⟩ : ∃ q, (j - 1) * x.t = q := ⟨_, rfl⟩
          rw [hq] at e2 e3 HN
          obtain ⟨r, hr⟩ : ∃ r, x.d + q = r := ⟨_, rfl⟩
          rw [hr] at e3 HN
          clear hx hxo hj hj0 hfit hp hf hjj hpv hnx hm0 hjt hd1 hd2 ht2 htt
          by_cases hlt2 : p.getD 0 < r
          · have mx : ∀ (ts : Array TypeId) (t : TypeId) (w : World), (Builtin.max_ ts t #[.int .i64 (p.getD 0), .int .i64 r]).run Try.prog w = .ok (.int .i64 r) w := fun ts t w => by rw [run_max_int2, if_pos hlt2]
            rw [if_pos hlt2] at HN
            clear hlt2
            generalize p.getD 0 = s at *
            go_wp2_with (go_at_call 31; (with_reducible refine (JC.out _).mono ?_); rintro e wj ⟨rfl, bxj⟩; have HPJ := Lib.hid (below_up (below_up HP.out (by repeat (first | exact Below.refl _ _ | (with_reducible assumption) | refine bw_alloc ?_ _ | refine bw_drew ?_))) bxj); have c1 := kept_cell (o := 1) (v := .int .i64 x.d) bxj (by rw [World.cell?_alloc_new]; rfl); have c2 := kept_cell (o := 2) (v := .int .i64 x.t) bxj (by rw [World.cell?_alloc_new]; rfl); clear bxj)
            go_roundw
            case rel => exact ⟨k + 1, by omega, by go_num, by rw [HN.out]; rfl, HPJ⟩
            case measure => simp [intOf]; omega
          · have mx : ∀ (ts : Array TypeId) (t : TypeId) (w : World), (Builtin.max_ ts t #[.int .i64 (p.getD 0), .int .i64 r]).run Try.prog w = .ok (.int .i64 (p.getD 0)) w := fun ts t w => by rw [run_max_int2, if_neg hlt2]
            rw [if_neg hlt2] at HN
            clear hlt2
            go_wp2_with (go_at_call 31; (with_reducible refine (JC.out _).mono ?_); rintro e wj ⟨rfl, bxj⟩; have HPJ := Lib.hid (below_up (below_up HP.out (by repeat (first | exact Below.refl _ _ | (with_reducible assumption) | refine bw_alloc ?_ _ | refine bw_drew ?_))) bxj); have c1 := kept_cell (o := 1) (v := .int .i64 x.d) bxj (by rw [World.cell?_alloc_new]; rfl); have c2 := kept_cell (o := 2) (v := .int .i64 x.t) bxj (by rw [World.cell?_alloc_new]; rfl); clear bxj)
            go_roundw
            case rel => exact ⟨k + 1, by omega, by go_num, by rw [HN.out], HPJ⟩
            case measure => simp [intOf]; omega
      · obtain rfl : k = n := by omega
        have HE : Hid (lastN l t k = res ∧ ∀ y, lastN l t k = some y → 0 < y) := by
          have e : lastN l t k = lastA l t := by unfold lastA; rw [HL.out]
          rw [e]
          refine ⟨HRES.out.symm, fun y hy => ?_⟩
          have := dl_pos' HOK.out (last_some HOK.out hy).1
          omega
        generalize lastN l t k = p at *
        go_wp2_with fail
        go_meet
        exact ⟨p, rfl, HE, HP⟩
  case rest =>
    obtain ⟨p, rfl, HE, HP⟩ := hcut
    clear HB1
    cases p with
    | none =>
      have hr : Hid (res = none) := HE.out.1.symm
      clear HE HRES
      go_wp2_with fail
      go_ret2
      exact ⟨by rw [hr.out]; rfl, HP.out⟩
    | some y =>
      have hr : Hid (res = some y) := HE.out.1.symm
      have hy := HE.out.2 y rfl
      have hyd : decide (0 < y) = true := decide_eq_true hy
      clear HE HRES
      go_wp2_with fail
      go_ret2
      exact ⟨by rw [hr.out]; rfl, HP.out⟩
end Go.Proofs.Ytbliagfmpcmfdaa
