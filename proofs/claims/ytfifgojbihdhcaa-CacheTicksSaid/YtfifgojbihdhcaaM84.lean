/- Texts of this claim, put together: CW6, CW2, CEq, CLaw1n, CLaw1, CRow1. -/
import Derived.Test.YtfifgojbihdhcaaM83
import Derived.Laws.CopyRow
import Derived.RangeFuncNested
import Derived.RangeFuncBound
import Derived.RangeFuncCalls
import Derived.RangeFuncLeaves
import Derived.RangeFuncBox
import Derived.Shelf.RegionOpen
import Derived.Laws.StructEq
import Derived.Deep.RegionWith
import Derived.Deep.RegionHeld3
set_option linter.unusedVariables false
set_option linter.unusedSimpArgs false

/-
  The walk over a tick.
-/
namespace Go.Proofs.Ytfifgojbihdhcaa
open Go.RowKit Go.Maps

set_option maxRecDepth 100000 in
set_option maxHeartbeats 8000000 in
theorem cstep_any (x : TV) (rel dn dm db rl : Int) (p : Nat → Bool) (w : World) {b r n : Nat} {L : Nat → Int} (h : Ch CT w b r n L) (hx : x.ok w) (hm : dm ≤ 9223372036854775807) (hd : db ≤ 9223372036854775807) :
    Calls Try.prog 16 #[.pointer (some ⟨b, 0, none⟩), .agg #[.int .i64 x.id, .int .i64 x.c, .int .i64 x.d, .int .i64 x.t, .int .i64 x.p, .slice x.a1 x.ch.length x.c1, .slice x.a2 x.us.length x.c2], .int .i64 rel, .agg #[.int .i64 dn, .int .i64 dm, .int .i64 db, .int .i64 rl, .int .u64 (wd p 0), .int .u64 (wd p 1), .int .u64 (wd p 2), .int .u64 (wd p 3)]] w (StepBack CT b r n (stepL n L x.id (accOf x dn).1 (accOf x dn).2 rel ⟨dn, dm, db, rl, p⟩) (stepW n L x.id (accOf x dn).1 (accOf x dn).2 rel ⟨dn, dm, db, rl, p⟩) w) := by
  have MS := Lib.hid (fun W => may_step x rel dn dm db rl p W)
  have BL := Lib.hid h.lt.1
  have RL := Lib.hid h.lt.2
  have CH := Lib.hid h
  have H0 := Lib.hid (stepAt_new (fun k => k = r) w x dn dm db rl (wd p))
  obtain ⟨t0, t1, t2, t3, t4, t5, t6, q0, q1, q2, q3, q4, q5, q6, q7, f0, f1, f2, f3, f4, f5, f6, f7, r0, r1, r2, r3, r4, r5, r6, r7, g0, g1, g2, g3, g4, g5, g6, g7⟩ := H0.out.facts
  obtain ⟨rl', hrl⟩ : ∃ rl', IntKind.i64.wrap (rl + 1) = rl' := ⟨_, rfl⟩
  have HRL := Lib.hid hrl
  by_cases hf : Fits x.id rel ⟨dn, dm, db, rl, p⟩
  · have hf5 : 0 ≤ db := hf.2.2.2.2.2
    have u2 : IntKind.i64.wrap (db - 1) = db - 1 := IntWalk.i64_in _ (by omega)
    rw [decide_eq_true hf] at MS
    by_cases hp : 0 < db
    · rw [show stepL n L x.id (accOf x dn).1 (accOf x dn).2 rel ⟨dn, dm, db, rl, p⟩ = L by unfold stepL; rw [if_neg (fun z => z.2 hp)]]
      rw [show stepW n L x.id (accOf x dn).1 (accOf x dn).2 rel ⟨dn, dm, db, rl, p⟩ = (⟨dn, dm, db - 1, wUp rl, p⟩, true) by unfold stepW; rw [if_pos hf, if_pos hp]]
      unfold StepBack
      dsimp only
      unfold wUp
      rw [hrl]
      clear hf h hx
      generalize wd p = y at *
      go_enter Try.func16, Try.ntmps16
      go_wp2_with (go_at_call 30; (refine (MS.out _).mono ?_); rintro e w1 ⟨rfl, b1⟩; have H1 := Lib.hid (H0.out.below b1); obtain ⟨t0, t1, t2, t3, t4, t5, t6, q0, q1, q2, q3, q4, q5, q6, q7, f0, f1, f2, f3, f4, f5, f6, f7, r0, r1, r2, r3, r4, r5, r6, r7, g0, g1, g2, g3, g4, g5, g6, g7⟩ := H1.out.facts; have B1 := Lib.hid (below_up ((by repeat (first | exact Below.refl _ _ | (with_reducible assumption) | refine bw_alloc ?_ _ | refine bw_drew ?_)) : Below w.heap.size w _) b1); clear b1)
      obtain ⟨⟨s0, s1, s2, s3, s4, s5, s6, s7⟩, hC, hT⟩ := (((⟨H1.out.low, H1.out.rb, CH.out.below B1.out, BL.out, RL.out⟩ : Outs CT w b r n L w1).put 2 (.int .i64 (db - 1))).put 3 (.int .i64 rl')).ends (.int .i64 dn) (.int .i64 dm) (.int .i64 (db - 1)) (.int .i64 rl') (.int .u64 (y 0)) (.int .u64 (y 1)) (.int .u64 (y 2)) (.int .u64 (y 3))
      exact bodyPost_ret (v := .tuple #[.agg #[.int .i64 (dn), .int .i64 dm, .int .i64 (db - 1), .int .i64 rl', .int .u64 (y 0), .int .u64 (y 1), .int .u64 (y 2), .int .u64 (y 3)], .bool true]) (by simp [results, Try.results16, go_sem, s0, s1, s2, s3, s4, s5, s6, s7]) rfl ⟨rfl, hC, hT⟩
    · rw [show stepL n L x.id (accOf x dn).1 (accOf x dn).2 rel ⟨dn, dm, db, rl, p⟩ = workL n L x.id (accOf x dn).1 (accOf x dn).2 by unfold stepL; rw [if_pos ⟨hf, hp⟩]]
      rw [show stepW n L x.id (accOf x dn).1 (accOf x dn).2 rel ⟨dn, dm, db, rl, p⟩ = workW n L x.id (accOf x dn).1 (accOf x dn).2 rel ⟨dn, dm, db, rl, p⟩ by unfold stepW; rw [if_pos hf, if_neg hp]]
      have WA := Lib.hid (fun W (hW : Below w.heap.size w W) => work_any x rel dn dm db rl p W (h.below hW) (hx.below hW) hf hm)
      unfold StepBack at *
      generalize workL n L x.id (accOf x dn).1 (accOf x dn).2 = L' at *
      generalize workW n L x.id (accOf x dn).1 (accOf x dn).2 rel ⟨dn, dm, db, rl, p⟩ = oo at *
      obtain ⟨⟨a', b', c', d', p'⟩, fl⟩ := oo
      dsimp only at *
      generalize wd p' = z at *
      clear hf h hx
      generalize wd p = y at *
      go_enter Try.func16, Try.ntmps16
      go_wp2_with (first
        | (go_at_call 30; (refine (MS.out _).mono ?_); rintro e w1 ⟨rfl, b1⟩; have H1 := Lib.hid (H0.out.below b1); obtain ⟨t0, t1, t2, t3, t4, t5, t6, q0, q1, q2, q3, q4, q5, q6, q7, f0, f1, f2, f3, f4, f5, f6, f7, r0, r1, r2, r3, r4, r5, r6, r7, g0, g1, g2, g3, g4, g5, g6, g7⟩ := H1.out.facts; have B1 := Lib.hid (below_up ((by repeat (first | exact Below.refl _ _ | (with_reducible assumption) | refine bw_alloc ?_ _ | refine bw_drew ?_)) : Below w.heap.size w _) b1); clear b1)
        | (go_at_call 31; (refine (WA.out _ B1.out).mono ?_); rintro e w3 ⟨rfl, c3, k3⟩; have H3 := Lib.hid (H1.out.turn k3 RL.out); have C3 := Lib.hid c3; obtain ⟨t0, t1, t2, t3, t4, t5, t6, q0, q1, q2, q3, q4, q5, q6, q7, f0, f1, f2, f3, f4, f5, f6, f7, r0, r1, r2, r3, r4, r5, r6, r7, g0, g1, g2, g3, g4, g5, g6, g7⟩ := H3.out.facts; clear c3 k3))
      obtain ⟨⟨s0, s1, s2, s3, s4, s5, s6, s7⟩, hC, hT⟩ := ((⟨H3.out.low, H3.out.rb, C3.out, BL.out, RL.out⟩ : Outs CT w b r n L' w3)).ends (.int .i64 (a')) (.int .i64 b') (.int .i64 (c')) (.int .i64 d') (.int .u64 (z 0)) (.int .u64 (z 1)) (.int .u64 (z 2)) (.int .u64 (z 3))
      exact bodyPost_ret (v := .tuple #[.agg #[.int .i64 (a'), .int .i64 b', .int .i64 (c'), .int .i64 d', .int .u64 (z 0), .int .u64 (z 1), .int .u64 (z 2), .int .u64 (z 3)], .bool fl]) (by simp [results, Try.results16, go_sem, s0, s1, s2, s3, s4, s5, s6, s7]) rfl ⟨rfl, hC, hT⟩
  · rw [show stepL n L x.id (accOf x dn).1 (accOf x dn).2 rel ⟨dn, dm, db, rl, p⟩ = L by unfold stepL; rw [if_neg (fun z => hf z.1)]]
    rw [show stepW n L x.id (accOf x dn).1 (accOf x dn).2 rel ⟨dn, dm, db, rl, p⟩ = (⟨dn, dm, db, rl, p⟩, false) by unfold stepW; rw [if_neg hf]]
    rw [decide_eq_false hf] at MS
    unfold StepBack
    dsimp only
    clear hf h hx
    generalize wd p = y at *
    go_enter Try.func16, Try.ntmps16
    go_wp2_with (go_at_call 30; (refine (MS.out _).mono ?_); rintro e w1 ⟨rfl, b1⟩; have H1 := Lib.hid (H0.out.below b1); obtain ⟨t0, t1, t2, t3, t4, t5, t6, q0, q1, q2, q3, q4, q5, q6, q7, f0, f1, f2, f3, f4, f5, f6, f7, r0, r1, r2, r3, r4, r5, r6, r7, g0, g1, g2, g3, g4, g5, g6, g7⟩ := H1.out.facts; have B1 := Lib.hid (below_up ((by repeat (first | exact Below.refl _ _ | (with_reducible assumption) | refine bw_alloc ?_ _ | refine bw_drew ?_)) : Below w.heap.size w _) b1); clear b1)
    obtain ⟨⟨s0, s1, s2, s3, s4, s5, s6, s7⟩, hC, hT⟩ := ((⟨H1.out.low, H1.out.rb, CH.out.below B1.out, BL.out, RL.out⟩ : Outs CT w b r n L w1)).ends (.int .i64 dn) (.int .i64 dm) (.int .i64 db) (.int .i64 rl) (.int .u64 (y 0)) (.int .u64 (y 1)) (.int .u64 (y 2)) (.int .u64 (y 3))
    exact bodyPost_ret (v := .tuple #[.agg #[.int .i64 (dn), .int .i64 dm, .int .i64 (db), .int .i64 rl, .int .u64 (y 0), .int .u64 (y 1), .int .u64 (y 2), .int .u64 (y 3)], .bool false]) (by simp [results, Try.results16, go_sem, s0, s1, s2, s3, s4, s5, s6, s7]) rfl ⟨rfl, hC, hT⟩
set_option maxRecDepth 100000 in
set_option maxHeartbeats 4000000 in
theorem cstep_nil (x : TV) (rel dn dm db rl : Int) (y : Nat → Nat) (w : World) :
    Calls Try.prog 16 #[.pointer none, .agg #[.int .i64 x.id, .int .i64 x.c, .int .i64 x.d, .int .i64 x.t, .int .i64 x.p, .slice x.a1 x.ch.length x.c1, .slice x.a2 x.us.length x.c2], .int .i64 rel, .agg #[.int .i64 dn, .int .i64 dm, .int .i64 db, .int .i64 rl, .int .u64 (y 0), .int .u64 (y 1), .int .u64 (y 2), .int .u64 (y 3)]] w fun e w' => e = .returned (.tuple #[.agg #[.int .i64 dn, .int .i64 dm, .int .i64 db, .int .i64 rl, .int .u64 (y 0), .int .u64 (y 1), .int .u64 (y 2), .int .u64 (y 3)], .bool false]) ∧ Below w.heap.size w w' := by
  have H0 := Lib.hid (stepAt_new (fun _ => False) w x dn dm db rl y)
  obtain ⟨t0, t1, t2, t3, t4, t5, t6, q0, q1, q2, q3, q4, q5, q6, q7, f0, f1, f2, f3, f4, f5, f6, f7, r0, r1, r2, r3, r4, r5, r6, r7, g0, g1, g2, g3, g4, g5, g6, g7⟩ := H0.out.facts
  go_enter Try.func16, Try.ntmps16
  go_wp2
  exact bodyPost_ret (v := .tuple #[.agg #[.int .i64 dn, .int .i64 dm, .int .i64 db, .int .i64 rl, .int .u64 (y 0), .int .u64 (y 1), .int .u64 (y 2), .int .u64 (y 3)], .bool false]) (by
    have e := cells8 (heap_alloc_new ((w.alloc (.cells #[.int .i64 x.id, .int .i64 x.c, .int .i64 x.d, .int .i64 x.t, .int .i64 x.p, .slice x.a1 x.ch.length x.c1, .slice x.a2 x.us.length x.c2] TT)).alloc (.cells #[.int .i64 dn, .int .i64 dm, .int .i64 db, .int .i64 rl, .int .u64 (y 0), .int .u64 (y 1), .int .u64 (y 2), .int .u64 (y 3)] WT)) (.cells #[.int .i64 dn, .int .i64 dm, .int .i64 db, .int .i64 rl, .int .u64 (y 0), .int .u64 (y 1), .int .u64 (y 2), .int .u64 (y 3)] WT))
    rw [World.size_alloc, World.size_alloc] at e
    obtain ⟨s0, s1, s2, s3, s4, s5, s6, s7⟩ := e
    clear H0 t0 t1 t2 t3 t4 t5 t6 q0 q1 q2 q3 q4 q5 q6 q7 f0 f1 f2 f3 f4 f5 f6 f7 r0 r1 r2 r3 r4 r5 r6 r7 g0 g1 g2 g3 g4 g5 g6 g7
    simp [results, Try.results16, go_sem, s0, s1, s2, s3, s4, s5, s6, s7]) rfl ⟨rfl, (by repeat (first | exact Below.refl _ _ | (with_reducible assumption) | refine bw_alloc ?_ _ | refine bw_drew ?_))⟩
end Go.Proofs.Ytfifgojbihdhcaa

/-
  The walks over the sets that belong to one, told one by one; a flush.
-/
namespace Go.Proofs.Ytfifgojbihdhcaa
open Go.RowKit Go.Maps Go.Shelf
attribute [local go_sem] Oper.semAt_some

/-! ### all made nobody's -/
theorem clear_ch {w : World} {b r n : Nat} {L : Nat → Int} (h : Ch CT w b r n L) :
    ∃ w', (∀ ty, (Builtin.clear_ #[45] ty #[.slice (some ⟨r, 0, none⟩) n n]).run Try.prog w = .ok (.tuple #[]) w') ∧ Ch CT w' b r n (fun _ => 0) ∧ Turn (fun k => k = r) w w' := by
  obtain ⟨cur, hb, h1, h2⟩ := h.row
  have hz : ∀ w : World, (zeroValue 3).run Try.prog w = .ok (.int .i64 0) w := fun w => by kernel_rfl
  have hzc : Builtin.zeroCells (Value.int .i64 0).cells n = madeCells #[.int .i64 0] n := by
    unfold Builtin.zeroCells madeCells
    simp [Value.cells]
  by_cases hn : n = 0
  · subst hn
    refine ⟨w, fun ty => ?_, ⟨h.str, ⟨cur, hb, h1, fun i hi => by omega⟩, h.ne, h.few, fun _ => by unfold I64; omega⟩, Turn.refl _ _⟩
    simp [Builtin.clear_, run_underlying Try.underlying45]
  obtain ⟨Z, hZ, hzl, hz1, hz2⟩ : ∃ Z : List Value, (Builtin.zeroCells (Value.int .i64 0).cells n).toList = Z ∧ Z.length = n ∧ (∀ v ∈ Z, v.oneCell' = true) ∧ ∀ i, i < n → Z[i]? = some (.int .i64 0) := by
    refine ⟨_, rfl, ?_, ?_, ?_⟩
    · rw [hzc, Array.length_toList, size_madeCells]
    · intro v hv
      rw [hzc] at hv
      obtain ⟨i, hi, e⟩ := List.getElem_of_mem hv
      have hi' : i < n := by rw [Array.length_toList, size_madeCells] at hi; exact hi
      have := made_at hi'
      rw [← Array.getElem?_toList, List.getElem?_eq_getElem hi, e] at this
      cases this; rfl
    · intro i hi
      rw [hzc, Array.getElem?_toList]; exact made_at hi
  have hfit : 0 + 0 + Z.length ≤ cur.size := by omega
  have hst := run_storeCells_at Try.prog r 0 3 Z 0 cur w hb hfit hz1
  have hrow : RowC (w.setRow r (cur.toList.take (0 + 0) ++ Z ++ cur.toList.drop (0 + 0 + Z.length)).toArray) r n (fun _ => 0) := by
    refine ⟨_, setRow_heap w r cur _ 3 (0, 0) hb, ?_, fun i hi => ?_⟩
    · simp; omega
    · have := hz2 i hi
      have hzl' : i < Z.length := by omega
      simp [List.getElem?_append_left hzl', this]
  refine ⟨w.setRow r (cur.toList.take (0 + 0) ++ Z ++ cur.toList.drop (0 + 0 + Z.length)).toArray, fun ty => ?_, ⟨(setRow_other w r b _ h.ne).trans h.str, hrow, h.ne, h.few, fun _ => by unfold I64; omega⟩, ⟨rfl, rfl, rfl, by simp, fun k hk hne => setRow_other w r k _ hne⟩⟩
  obtain ⟨m, hm⟩ : ∃ m, n = m + 1 := ⟨n - 1, by omega⟩
  rw [hm] at hZ ⊢
  simp [Builtin.clear_, run_underlying Try.underlying45, hz, hZ, hst]
set_option maxHeartbeats 1000000 in
theorem cflush_any {w : World} {b r n : Nat} {L : Nat → Int} (h : Ch CT w b r n L) : Calls Try.prog 14 #[.pointer (some ⟨b, 0, none⟩)] w fun e w' => e = .returned (.tuple #[]) ∧ Ch CT w' b r n (fun _ => 0) ∧ Turn (fun k => k = r) w w' := by
  obtain ⟨w9, hcl, h9, t9⟩ := clear_ch h
  have c0 := h.slice
  have H9 := Lib.hid h9
  have T9 := Lib.hid t9
  clear h h9 t9
  go_enter Try.func14, Try.ntmps14
  go_wp2
  go_end0
  exact ⟨rfl, H9.out, T9.out⟩
set_option maxHeartbeats 1000000 in
theorem cflush_nil (w : World) : Calls Try.prog 14 #[.pointer none] w fun e w' => e = .returned (.tuple #[]) ∧ w' = w := by
  go_enter Try.func14, Try.ntmps14
  go_wp2
  go_end0
  exact ⟨rfl, rfl⟩
end Go.Proofs.Ytfifgojbihdhcaa

/-
  Two works held against each other; is the program awake.
-/
namespace Go.Proofs.Ytfifgojbihdhcaa
open Go.RowKit Go.Maps

theorem workGuard : Try.prog.eqGuardType Try.prog.depth 39 = false := by kernel_rfl
theorem workFields : Try.prog.underlying 39 = some (.struct (Try.prog.fieldsOf 39)) := by kernel_rfl
theorem workStood : Try.prog.stoodInHeld 39 = false := by kernel_rfl
theorem bits_same (d : Nat) (x0 x1 x2 x3 : Nat) (w : World) : (Op.equalIn (d + 1 + 1) 37 (.agg #[.int .u64 x0, .int .u64 x1, .int .u64 x2, .int .u64 x3]) (.agg #[.int .u64 x0, .int .u64 x1, .int .u64 x2, .int .u64 x3])).run Try.prog w = .ok true w := by
  rw [set_eq_d, eq4_self]
theorem part_bits (a b c d : Int) (x0 x1 x2 x3 : Nat) (w : World) : (part 37 #[.int .i64 a, .int .i64 b, .int .i64 c, .int .i64 d, .int .u64 x0, .int .u64 x1, .int .u64 x2, .int .u64 x3] 4).run Try.prog w = .ok (.agg #[.int .u64 x0, .int .u64 x1, .int .u64 x2, .int .u64 x3]) w := by kernel_rfl
set_option maxHeartbeats 1000000 in
theorem work_same (a b c d : Int) (x : Nat → Nat) (w : World) : (Op.equalIn 10000 39 (.agg #[.int .i64 a, .int .i64 b, .int .i64 c, .int .i64 d, .int .u64 (x 0), .int .u64 (x 1), .int .u64 (x 2), .int .u64 (x 3)]) (.agg #[.int .i64 a, .int .i64 b, .int .i64 c, .int .i64 d, .int .u64 (x 0), .int .u64 (x 1), .int .u64 (x 2), .int .u64 (x 3)])).run Try.prog w = .ok true w := by
  have u1 := Try.underlying2
  have h1 : ∀ (y : Int) (w : World), (Op.equalIn 9999 2 (.int .i64 y) (.int .i64 y)).run Try.prog w = .ok true w := fun y w => by
    rw [show (9999 : Nat) = 9998 + 1 from rfl, run_equalIn_int w 9998 2 .i64 .i64 y y u1]; simp
  have h2 : ∀ w : World, (Op.equalIn 9999 37 (.agg #[.int .u64 (x 0), .int .u64 (x 1), .int .u64 (x 2), .int .u64 (x 3)]) (.agg #[.int .u64 (x 0), .int .u64 (x 1), .int .u64 (x 2), .int .u64 (x 3)])).run Try.prog w = .ok true w := fun w => bits_same 9997 _ _ _ _ w
  have p0 : ∀ w : World, (part 2 (#[.int .i64 a, .int .i64 b, .int .i64 c, .int .i64 d, .int .u64 (x 0), .int .u64 (x 1), .int .u64 (x 2), .int .u64 (x 3)]) 0).run Try.prog w = .ok (.int .i64 a) w := fun w => by kernel_rfl
  have p1 : ∀ w : World, (part 2 (#[.int .i64 a, .int .i64 b, .int .i64 c, .int .i64 d, .int .u64 (x 0), .int .u64 (x 1), .int .u64 (x 2), .int .u64 (x 3)]) 1).run Try.prog w = .ok (.int .i64 b) w := fun w => by kernel_rfl
  have p2 : ∀ w : World, (part 2 (#[.int .i64 a, .int .i64 b, .int .i64 c, .int .i64 d, .int .u64 (x 0), .int .u64 (x 1), .int .u64 (x 2), .int .u64 (x 3)]) 2).run Try.prog w = .ok (.int .i64 c) w := fun w => by kernel_rfl
  have p3 : ∀ w : World, (part 2 (#[.int .i64 a, .int .i64 b, .int .i64 c, .int .i64 d, .int .u64 (x 0), .int .u64 (x 1), .int .u64 (x 2), .int .u64 (x 3)]) 3).run Try.prog w = .ok (.int .i64 d) w := fun w => by kernel_rfl
  have p4 := fun w => part_bits a b c d (x 0) (x 1) (x 2) (x 3) w
  rw [show (10000 : Nat) = 9999 + 1 from rfl, run_equalIn_struct w 9999 _ _ _ workFields workStood]
  simp only [Program.fieldsOf, Try.underlying39]
  simp [Op.eqFields, Sem.run_bind, p0, p1, p2, p3, p4, h1, h2, Result.andThen_ok]

theorem work_eql (a b c d : Int) (x : Nat → Nat) (w : World) : (binOp .eql 39 (.agg #[.int .i64 a, .int .i64 b, .int .i64 c, .int .i64 d, .int .u64 (x 0), .int .u64 (x 1), .int .u64 (x 2), .int .u64 (x 3)]) (.agg #[.int .i64 a, .int .i64 b, .int .i64 c, .int .i64 d, .int .u64 (x 0), .int .u64 (x 1), .int .u64 (x 2), .int .u64 (x 3)])).run Try.prog w = .ok (.bool true) w := by
  rw [run_eql_struct, work_same]; rfl
theorem bitsGuard : Try.prog.eqGuardType Try.prog.depth 37 = false := by kernel_rfl
theorem bits_eql (x0 x1 x2 x3 y0 y1 y2 y3 : Nat) (w : World) : (binOp .eql 37 (.agg #[.int .u64 x0, .int .u64 x1, .int .u64 x2, .int .u64 x3]) (.agg #[.int .u64 y0, .int .u64 y1, .int .u64 y2, .int .u64 y3])).run Try.prog w = .ok (.bool (eq4 x0 x1 x2 x3 y0 y1 y2 y3)) w := by
  rw [run_eql_struct, set_eq]; rfl
theorem bits_neq (x0 x1 x2 x3 y0 y1 y2 y3 : Nat) (w : World) : (binOp .neq 37 (.agg #[.int .u64 x0, .int .u64 x1, .int .u64 x2, .int .u64 x3]) (.agg #[.int .u64 y0, .int .u64 y1, .int .u64 y2, .int .u64 y3])).run Try.prog w = .ok (.bool (!eq4 x0 x1 x2 x3 y0 y1 y2 y3)) w := by
  rw [run_neq_struct, set_eq]; rfl
theorem none_eql (w : World) : (binOp .eql 37 (.agg #[.int .u64 0, .int .u64 0, .int .u64 0, .int .u64 0]) (.agg #[.int .u64 0, .int .u64 0, .int .u64 0, .int .u64 0])).run Try.prog w = .ok (.bool true) w := bits_eql 0 0 0 0 0 0 0 0 w
theorem none_neq (w : World) : (binOp .neq 37 (.agg #[.int .u64 0, .int .u64 0, .int .u64 0, .int .u64 0]) (.agg #[.int .u64 0, .int .u64 0, .int .u64 0, .int .u64 0])).run Try.prog w = .ok (.bool false) w := bits_neq 0 0 0 0 0 0 0 0 w
theorem work_neq (a b c d : Int) (x : Nat → Nat) (w : World) : (binOp .neq 39 (.agg #[.int .i64 a, .int .i64 b, .int .i64 c, .int .i64 d, .int .u64 (x 0), .int .u64 (x 1), .int .u64 (x 2), .int .u64 (x 3)]) (.agg #[.int .i64 a, .int .i64 b, .int .i64 c, .int .i64 d, .int .u64 (x 0), .int .u64 (x 1), .int .u64 (x 2), .int .u64 (x 3)])).run Try.prog w = .ok (.bool false) w := by
  rw [run_neq_struct, work_same]; rfl

set_option maxRecDepth 100000 in
set_option maxHeartbeats 4000000 in
theorem cawake_any (w : World) : Calls Try.prog 8 #[] w fun e w' => e = .returned (.bool true) ∧ Below w.heap.size w w' := by
  have C0 := Lib.hid (show Calls Try.prog 10 #[.int .i64 4] w (CacheBack CT 4 w) from cnew_some 4 (by omega) w)
  have E1 : useB 4 (fun _ => 0) 3 1 = false := by decide +kernel
  have E2 : useB 4 (useL 4 (fun _ => 0) 3 1) 3 1 = true := by decide +kernel
  have E3 : useB 4 (useL 4 (useL 4 (fun _ => 0) 3 1) 3 1) 3 2 = false := by decide +kernel
  have E4 : useB 4 (useL 4 (useL 4 (useL 4 (fun _ => 0) 3 1) 3 1) 3 2) 3 1 = false := by decide +kernel
  have HE := Lib.hid (And.intro E1 (And.intro E2 (And.intro E3 E4)))
  clear E1 E2 E3 E4
  go_enter Try.func8, Try.ntmps8
  go_upto_region 4 with (go_at_call 10; refine C0.out.mono ?_; rintro e w1 ⟨b, r, rfl, h1, hb, hr, b1⟩; have U1 := cuse_any h1 3 1; unfold UseBack at U1; rw [HE.out.1] at U1; have D1 := Lib.hid U1; have B1 := Lib.hid b1; have HB := Lib.hid hb; have HR := Lib.hid hr; clear U1 h1 hb hr b1)
  go_upto_region 5 with (go_at_call 12; refine D1.out.mono ?_; rintro e w2 ⟨rfl, h2, t2⟩; have U2 := cuse_any h2 3 1; unfold UseBack at U2; rw [HE.out.2.1] at U2; have D2 := Lib.hid U2; have T2 := Lib.hid t2; clear U2 h2 t2)
  go_upto_region 6 with (go_at_call 12; refine D2.out.mono ?_; rintro e w3 ⟨rfl, h3, t3⟩; have U3 := cuse_any h3 3 2; unfold UseBack at U3; rw [HE.out.2.2.1] at U3; have D3 := Lib.hid U3; have T3 := Lib.hid (T2.out.then t3); clear U3 h3 t3)
  go_upto_region 7 with (go_at_call 12; refine D3.out.mono ?_; rintro e w4 ⟨rfl, h4, t4⟩; have U4 := cuse_any h4 3 1; unfold UseBack at U4; rw [HE.out.2.2.2] at U4; have D4 := Lib.hid U4; have T4 := Lib.hid (T3.out.then t4); clear U4 h4 t4)
  go_wp2_with (go_at_call 12; refine D4.out.mono ?_; rintro e w5 ⟨rfl, h5, t5⟩; have T5 := Lib.hid (T4.out.then t5); clear h5 t5)
  go_ret
  exact ⟨rfl, B1.out.trans (T5.out.below (B := w.heap.size) B1.out.size (fun i q => by subst q; exact HR.out))⟩
end Go.Proofs.Ytfifgojbihdhcaa

/-
  The walk over the statement that of no cache nothing comes.
-/
namespace Go.Proofs.Ytfifgojbihdhcaa
open Go.RowKit Go.Maps
theorem none_same (w : World) : (Op.equalIn 10000 37 (.agg #[.int .u64 0, .int .u64 0, .int .u64 0, .int .u64 0]) (.agg #[.int .u64 0, .int .u64 0, .int .u64 0, .int .u64 0])).run Try.prog w = .ok true w := set_eq 0 0 0 0 0 0 0 0 w
attribute [-go_sem] run_eql_struct run_neq_struct
attribute [local go_sem] work_eql workGuard none_eql bitsGuard

/-- The three boxes of the statement. -/
structure NilAt (W : World) (dn dm db rl : Int) (y : Nat → Nat) (g1 g2 : Nat) (w : World) : Prop where
  low : Below W.heap.size W w
  wb : w.heap[W.heap.size]? = some (.cells #[.int .i64 dn, .int .i64 dm, .int .i64 db, .int .i64 rl, .int .u64 (y 0), .int .u64 (y 1), .int .u64 (y 2), .int .u64 (y 3)] WT (0, 0))
  nb : w.heap[g1]? = some (.cells #[.int .u64 0, .int .u64 0, .int .u64 0, .int .u64 0] 37 (0, 0))
  xb : w.heap[g2]? = some (.cells #[.int .i64 dn, .int .i64 dm, .int .i64 db, .int .i64 rl, .int .u64 (y 0), .int .u64 (y 1), .int .u64 (y 2), .int .u64 (y 3)] WT (0, 0))
theorem NilAt.cells {W : World} {dn dm db rl : Int} {y : Nat → Nat} {g1 g2 : Nat} {w w' : World} (h : NilAt W dn dm db rl y g1 g2 w) (hb : Below w.heap.size w w') : Below w.heap.size w w' ∧ w'.cell? ⟨W.heap.size, 0, none⟩ = some (.int .i64 dn) ∧ w'.cell? ⟨W.heap.size, 1, none⟩ = some (.int .i64 dm) ∧ w'.cell? ⟨W.heap.size, 2, none⟩ = some (.int .i64 db) ∧ w'.cell? ⟨W.heap.size, 3, none⟩ = some (.int .i64 rl) ∧ w'.cell? ⟨W.heap.size, 4, none⟩ = some (.int .u64 (y 0)) ∧ w'.cell? ⟨W.heap.size, 5, none⟩ = some (.int .u64 (y 1)) ∧ w'.cell? ⟨W.heap.size, 6, none⟩ = some (.int .u64 (y 2)) ∧ w'.cell? ⟨W.heap.size, 7, none⟩ = some (.int .u64 (y 3)) ∧ w'.cell? ⟨g1, 0, none⟩ = some (.int .u64 0) ∧ w'.cell? ⟨g1, 1, none⟩ = some (.int .u64 0) ∧ w'.cell? ⟨g1, 2, none⟩ = some (.int .u64 0) ∧ w'.cell? ⟨g1, 3, none⟩ = some (.int .u64 0) ∧ w'.cell? ⟨g2, 0, none⟩ = some (.int .i64 dn) ∧ w'.cell? ⟨g2, 1, none⟩ = some (.int .i64 dm) ∧ w'.cell? ⟨g2, 2, none⟩ = some (.int .i64 db) ∧ w'.cell? ⟨g2, 3, none⟩ = some (.int .i64 rl) ∧ w'.cell? ⟨g2, 4, none⟩ = some (.int .u64 (y 0)) ∧ w'.cell? ⟨g2, 5, none⟩ = some (.int .u64 (y 1)) ∧ w'.cell? ⟨g2, 6, none⟩ = some (.int .u64 (y 2)) ∧ w'.cell? ⟨g2, 7, none⟩ = some (.int .u64 (y 3)) :=
  ⟨hb, by rw [blk_cell (kept_obj hb h.wb)]; rfl, by rw [blk_cell (kept_obj hb h.wb)]; rfl, by rw [blk_cell (kept_obj hb h.wb)]; rfl, by rw [blk_cell (kept_obj hb h.wb)]; rfl, by rw [blk_cell (kept_obj hb h.wb)]; rfl, by rw [blk_cell (kept_obj hb h.wb)]; rfl, by rw [blk_cell (kept_obj hb h.wb)]; rfl, by rw [blk_cell (kept_obj hb h.wb)]; rfl, by rw [blk_cell (kept_obj hb h.nb)]; rfl, by rw [blk_cell (kept_obj hb h.nb)]; rfl, by rw [blk_cell (kept_obj hb h.nb)]; rfl, by rw [blk_cell (kept_obj hb h.nb)]; rfl, by rw [blk_cell (kept_obj hb h.xb)]; rfl, by rw [blk_cell (kept_obj hb h.xb)]; rfl, by rw [blk_cell (kept_obj hb h.xb)]; rfl, by rw [blk_cell (kept_obj hb h.xb)]; rfl, by rw [blk_cell (kept_obj hb h.xb)]; rfl, by rw [blk_cell (kept_obj hb h.xb)]; rfl, by rw [blk_cell (kept_obj hb h.xb)]; rfl, by rw [blk_cell (kept_obj hb h.xb)]; rfl⟩
theorem below_for {f : FuncId} {args : Array Value} {v : Ending} (W1 : World) (h : ∀ w, Calls Try.prog f args w fun e w' => e = v ∧ Below w.heap.size w w') : ∀ w, Below W1.heap.size W1 w → Calls Try.prog f args w fun e w' => e = v ∧ Below W1.heap.size W1 w' :=
  fun w hw => (h w).mono fun _ _ ⟨h1, h2⟩ => ⟨h1, below_up hw h2⟩
theorem same_for {f : FuncId} {args : Array Value} {v : Ending} (W1 : World) (h : ∀ w, Calls Try.prog f args w fun e w' => e = v ∧ w' = w) : ∀ w, Below W1.heap.size W1 w → Calls Try.prog f args w fun e w' => e = v ∧ Below W1.heap.size W1 w' :=
  fun w hw => (h w).mono fun _ _ ⟨h1, h2⟩ => ⟨h1, by rw [h2]; exact hw⟩
theorem eq4_none : eq4 0 0 0 0 0 0 0 0 = true := rfl

set_option maxRecDepth 100000 in
set_option maxHeartbeats 8000000 in
theorem law_nil_low (W : World) (n s dn dm db rl : Int) (y : Nat → Nat) (h0 : ¬ 0 ≤ n) : Calls Try.prog 7 #[.int .i64 n, .int .i64 s, .agg #[.int .i64 dn, .int .i64 dm, .int .i64 db, .int .i64 rl, .int .u64 (y 0), .int .u64 (y 1), .int .u64 (y 2), .int .u64 (y 3)]] W fun e w' => e = .returned (.bool true) ∧ Below W.heap.size W w' := by
  have A := Lib.hid (fun w => cawake_any w)
  have D1 := Lib.hid (fun w => cflush_nil w)
  have D2 := Lib.hid (fun w => cstep_nil ⟨1, 0, 0, 0, 0, none, [], 0, none, [], 0⟩ 1 dn dm db rl y w)
  have D3 := Lib.hid (fun w => sets_nil w)
  have D4 := Lib.hid (fun w => cuse_nil w s 1)
  have D5 := Lib.hid (fun w => cowner_nil w s)
  have D6 := Lib.hid (fun w => cof_nil 1 w)
  dsimp only [List.length_nil] at D2
  unfold OfBack at D6
  rw [wd_none, wd_none, wd_none, wd_none] at D6
  have N := Lib.hid (fun w => cnew_none n (.inl (by omega)) w)
  have d0 : decide (0 ≤ n) = false := decide_eq_false h0
  go_enter Try.func7, Try.ntmps7
  have H0 := Lib.hid (show (W.alloc (.cells #[.int .i64 dn, .int .i64 dm, .int .i64 db, .int .i64 rl, .int .u64 (y 0), .int .u64 (y 1), .int .u64 (y 2), .int .u64 (y 3)] WT)).heap[W.heap.size]? = some (.cells #[.int .i64 dn, .int .i64 dm, .int .i64 db, .int .i64 rl, .int .u64 (y 0), .int .u64 (y 1), .int .u64 (y 2), .int .u64 (y 3)] WT (0, 0)) from heap_alloc_new W _)
  have B0 := Lib.hid ((Below.refl W.heap.size W).alloc (Nat.le_refl _) (.cells #[.int .i64 dn, .int .i64 dm, .int .i64 db, .int .i64 rl, .int .u64 (y 0), .int .u64 (y 1), .int .u64 (y 2), .int .u64 (y 3)] WT))
  go_upto_region 3 with (go_at_call 10; refine (N.out _).mono ?_; rintro e w1 ⟨rfl, rfl⟩)
  go_upto_region 5 with (go_at_call 14; refine (D1.out _).mono ?_; rintro e w2 ⟨rfl, rfl⟩)
  refine gen_world (fun w => Below W.heap.size W w ∧ w.heap[W.heap.size]? = some (.cells #[.int .i64 dn, .int .i64 dm, .int .i64 db, .int .i64 rl, .int .u64 (y 0), .int .u64 (y 1), .int .u64 (y 2), .int .u64 (y 3)] WT (0, 0)) ∧ w.heap[W.heap.size + 1]? = some (.cells #[.int .u64 0, .int .u64 0, .int .u64 0, .int .u64 0] 37 (0, 0))) ⟨B0.out.alloc B0.out.size _, kept_obj ((Below.refl _ _).alloc (Nat.le_refl _) _) H0.out, (by have := heap_alloc_new (W.alloc (.cells #[.int .i64 dn, .int .i64 dm, .int .i64 db, .int .i64 rl, .int .u64 (y 0), .int .u64 (y 1), .int .u64 (y 2), .int .u64 (y 3)] WT)) (.cells #[.int .u64 0, .int .u64 0, .int .u64 0, .int .u64 0] 37); rwa [World.size_alloc] at this)⟩ ?_
  intro W5 ⟨h5, h6, h7⟩
  have H5 := Lib.hid h5
  have H6 := Lib.hid h6
  have H7 := Lib.hid h7
  have q0 : W5.cell? ⟨W.heap.size, 0, none⟩ = some (.int .i64 dn) := by rw [blk_cell h6]; rfl
  have q1 : W5.cell? ⟨W.heap.size, 1, none⟩ = some (.int .i64 dm) := by rw [blk_cell h6]; rfl
  have q2 : W5.cell? ⟨W.heap.size, 2, none⟩ = some (.int .i64 db) := by rw [blk_cell h6]; rfl
  have q3 : W5.cell? ⟨W.heap.size, 3, none⟩ = some (.int .i64 rl) := by rw [blk_cell h6]; rfl
  have q4 : W5.cell? ⟨W.heap.size, 4, none⟩ = some (.int .u64 (y 0)) := by rw [blk_cell h6]; rfl
  have q5 : W5.cell? ⟨W.heap.size, 5, none⟩ = some (.int .u64 (y 1)) := by rw [blk_cell h6]; rfl
  have q6 : W5.cell? ⟨W.heap.size, 6, none⟩ = some (.int .u64 (y 2)) := by rw [blk_cell h6]; rfl
  have q7 : W5.cell? ⟨W.heap.size, 7, none⟩ = some (.int .u64 (y 3)) := by rw [blk_cell h6]; rfl
  clear h5 h6 h7
  go_upto_region 6 with (go_at_call 16; refine (D2.out _).mono ?_; rintro e w3 ⟨rfl, b3⟩; have B3 := Lib.hid b3; clear b3)
  refine gen_world (NilAt W dn dm db rl y (W.heap.size + 1) w3.heap.size) ⟨(below_up H5.out B3.out).alloc (below_up H5.out B3.out).size _, kept_obj ((Below.refl _ _).alloc (Nat.le_refl _) _) (kept_obj B3.out H6.out), kept_obj ((Below.refl _ _).alloc (Nat.le_refl _) _) (kept_obj B3.out H7.out), heap_alloc_new w3 _⟩ ?_
  intro W6 hw6
  have MK := Lib.hid (fun w' (h : Below W6.heap.size W6 w') => hw6.cells h)
  have L6 := Lib.hid hw6.low
  have EA := Lib.hid (below_for W6 A.out)
  have ED3 := Lib.hid (same_for W6 D3.out)
  have ED4 := Lib.hid (same_for W6 D4.out)
  have ED5 := Lib.hid (same_for W6 D5.out)
  have ED6 := Lib.hid (below_for W6 D6.out)
  obtain ⟨_, m0, m1, m2, m3, m4, m5, m6, m7, m8, m9, m10, m11, m12, m13, m14, m15, m16, m17, m18, m19⟩ := hw6.cells (Below.refl _ _)
  clear hw6 H5 H6 H7 B0 H0 B3 D1 D2 N A D3 D4 D5 D6
  first | go_region_with (first
    | (go_at_call 8; (with_reducible refine (EA.out _ (by repeat (first | (with_reducible assumption) | refine Below.drew ?_ | refine Below.alloc ?_ (by first | omega | (simp; omega)) _))).mono ?_); rintro e wx ⟨rfl, bx⟩; have sx := bx.size; obtain ⟨_, m0, m1, m2, m3, m4, m5, m6, m7, m8, m9, m10, m11, m12, m13, m14, m15, m16, m17, m18, m19⟩ := MK.out _ bx)
    | (go_at_call 22; (with_reducible refine (ED3.out _ (by repeat (first | (with_reducible assumption) | refine Below.drew ?_ | refine Below.alloc ?_ (by first | omega | (simp; omega)) _))).mono ?_); rintro e wx ⟨rfl, bx⟩; have sx := bx.size; obtain ⟨_, m0, m1, m2, m3, m4, m5, m6, m7, m8, m9, m10, m11, m12, m13, m14, m15, m16, m17, m18, m19⟩ := MK.out _ bx)
    | (go_at_call 12; (with_reducible refine (ED4.out _ (by repeat (first | (with_reducible assumption) | refine Below.drew ?_ | refine Below.alloc ?_ (by first | omega | (simp; omega)) _))).mono ?_); rintro e wx ⟨rfl, bx⟩; have sx := bx.size; obtain ⟨_, m0, m1, m2, m3, m4, m5, m6, m7, m8, m9, m10, m11, m12, m13, m14, m15, m16, m17, m18, m19⟩ := MK.out _ bx)
    | (go_at_call 18; (with_reducible refine (ED5.out _ (by repeat (first | (with_reducible assumption) | refine Below.drew ?_ | refine Below.alloc ?_ (by first | omega | (simp; omega)) _))).mono ?_); rintro e wx ⟨rfl, bx⟩; have sx := bx.size; obtain ⟨_, m0, m1, m2, m3, m4, m5, m6, m7, m8, m9, m10, m11, m12, m13, m14, m15, m16, m17, m18, m19⟩ := MK.out _ bx)
    | (go_at_call 20; (with_reducible refine (ED6.out _ (by repeat (first | (with_reducible assumption) | refine Below.drew ?_ | refine Below.alloc ?_ (by first | omega | (simp; omega)) _))).mono ?_); rintro e wx ⟨rfl, bx⟩; have sx := bx.size; obtain ⟨_, m0, m1, m2, m3, m4, m5, m6, m7, m8, m9, m10, m11, m12, m13, m14, m15, m16, m17, m18, m19⟩ := MK.out _ bx)) | fail
  all_goals
    go_wp2
    go_ret
    exact ⟨rfl, below_up L6.out (by with_reducible assumption)⟩
end Go.Proofs.Ytfifgojbihdhcaa

/-
  The walk over the statement that of no cache nothing comes.
-/
namespace Go.Proofs.Ytfifgojbihdhcaa
open Go.RowKit Go.Maps
attribute [-go_sem] run_eql_struct run_neq_struct
attribute [local go_sem] work_eql workGuard none_eql bitsGuard

set_option maxRecDepth 100000 in
set_option maxHeartbeats 8000000 in
theorem law_nil (W : World) (n s dn dm db rl : Int) (y : Nat → Nat) : Calls Try.prog 7 #[.int .i64 n, .int .i64 s, .agg #[.int .i64 dn, .int .i64 dm, .int .i64 db, .int .i64 rl, .int .u64 (y 0), .int .u64 (y 1), .int .u64 (y 2), .int .u64 (y 3)]] W fun e w' => e = .returned (.bool true) ∧ Below W.heap.size W w' := by
  have A := Lib.hid (fun w => cawake_any w)
  have D1 := Lib.hid (fun w => cflush_nil w)
  have D2 := Lib.hid (fun w => cstep_nil ⟨1, 0, 0, 0, 0, none, [], 0, none, [], 0⟩ 1 dn dm db rl y w)
  have D3 := Lib.hid (fun w => sets_nil w)
  have D4 := Lib.hid (fun w => cuse_nil w s 1)
  have D5 := Lib.hid (fun w => cowner_nil w s)
  have D6 := Lib.hid (fun w => cof_nil 1 w)
  dsimp only [List.length_nil] at D2
  unfold OfBack at D6
  rw [wd_none, wd_none, wd_none, wd_none] at D6
  by_cases h0 : 0 ≤ n
  · by_cases h1 : n ≤ 256
    · obtain ⟨m, rfl⟩ : ∃ m : Nat, n = (m : Int) := ⟨n.toNat, by omega⟩
      have N := Lib.hid (fun w => cnew_some m (by omega) w)
      have d0 : decide (0 ≤ (m : Int)) = true := decide_eq_true h0
      have d1 : decide ((m : Int) ≤ 256) = true := decide_eq_true h1
      go_enter Try.func7, Try.ntmps7
      have H0 := Lib.hid (show (W.alloc (.cells #[.int .i64 dn, .int .i64 dm, .int .i64 db, .int .i64 rl, .int .u64 (y 0), .int .u64 (y 1), .int .u64 (y 2), .int .u64 (y 3)] WT)).heap[W.heap.size]? = some (.cells #[.int .i64 dn, .int .i64 dm, .int .i64 db, .int .i64 rl, .int .u64 (y 0), .int .u64 (y 1), .int .u64 (y 2), .int .u64 (y 3)] WT (0, 0)) from heap_alloc_new W _)
      have B0 := Lib.hid ((Below.refl W.heap.size W).alloc (Nat.le_refl _) (.cells #[.int .i64 dn, .int .i64 dm, .int .i64 db, .int .i64 rl, .int .u64 (y 0), .int .u64 (y 1), .int .u64 (y 2), .int .u64 (y 3)] WT))
      go_upto_region 3 with (go_at_call 10; refine (N.out _).mono ?_; rintro e w1 ⟨b, r, rfl, h1', hb', hr', b1⟩; have B1 := Lib.hid b1; clear h1' hb' hr' b1)
      go_upto_region 5 with (go_at_call 14; refine (D1.out _).mono ?_; rintro e w2 ⟨rfl, rfl⟩)
      refine gen_world (fun w => Below W.heap.size W w ∧ w.heap[W.heap.size]? = some (.cells #[.int .i64 dn, .int .i64 dm, .int .i64 db, .int .i64 rl, .int .u64 (y 0), .int .u64 (y 1), .int .u64 (y 2), .int .u64 (y 3)] WT (0, 0)) ∧ w.heap[w2.heap.size]? = some (.cells #[.int .u64 0, .int .u64 0, .int .u64 0, .int .u64 0] 37 (0, 0))) ⟨(below_up B0.out B1.out).alloc (below_up B0.out B1.out).size _, kept_obj ((Below.refl _ _).alloc (Nat.le_refl _) _) (kept_obj B1.out H0.out), heap_alloc_new w2 _⟩ ?_
      intro W5 ⟨h5, h6, h7⟩
      have H5 := Lib.hid h5
      have H6 := Lib.hid h6
      have H7 := Lib.hid h7
      have q0 : W5.cell? ⟨W.heap.size, 0, none⟩ = some (.int .i64 dn) := by rw [blk_cell h6]; rfl
      have q1 : W5.cell? ⟨W.heap.size, 1, none⟩ = some (.int .i64 dm) := by rw [blk_cell h6]; rfl
      have q2 : W5.cell? ⟨W.heap.size, 2, none⟩ = some (.int .i64 db) := by rw [blk_cell h6]; rfl
      have q3 : W5.cell? ⟨W.heap.size, 3, none⟩ = some (.int .i64 rl) := by rw [blk_cell h6]; rfl
      have q4 : W5.cell? ⟨W.heap.size, 4, none⟩ = some (.int .u64 (y 0)) := by rw [blk_cell h6]; rfl
      have q5 : W5.cell? ⟨W.heap.size, 5, none⟩ = some (.int .u64 (y 1)) := by rw [blk_cell h6]; rfl
      have q6 : W5.cell? ⟨W.heap.size, 6, none⟩ = some (.int .u64 (y 2)) := by rw [blk_cell h6]; rfl
      have q7 : W5.cell? ⟨W.heap.size, 7, none⟩ = some (.int .u64 (y 3)) := by rw [blk_cell h6]; rfl
      clear h5 h6 h7
      go_upto_region 6 with (go_at_call 16; refine (D2.out _).mono ?_; rintro e w3 ⟨rfl, b3⟩; have B3 := Lib.hid b3; clear b3)
      refine gen_world (NilAt W dn dm db rl y (w2.heap.size) w3.heap.size) ⟨(below_up H5.out B3.out).alloc (below_up H5.out B3.out).size _, kept_obj ((Below.refl _ _).alloc (Nat.le_refl _) _) (kept_obj B3.out H6.out), kept_obj ((Below.refl _ _).alloc (Nat.le_refl _) _) (kept_obj B3.out H7.out), heap_alloc_new w3 _⟩ ?_
      intro W6 hw6
      have MK := Lib.hid (fun w' (h : Below W6.heap.size W6 w') => hw6.cells h)
      have L6 := Lib.hid hw6.low
      have EA := Lib.hid (below_for W6 A.out)
      have ED3 := Lib.hid (same_for W6 D3.out)
      have ED4 := Lib.hid (same_for W6 D4.out)
      have ED5 := Lib.hid (same_for W6 D5.out)
      have ED6 := Lib.hid (below_for W6 D6.out)
      obtain ⟨_, m0, m1, m2, m3, m4, m5, m6, m7, m8, m9, m10, m11, m12, m13, m14, m15, m16, m17, m18, m19⟩ := hw6.cells (Below.refl _ _)
      clear hw6 H5 H6 H7 B0 H0 B3 D1 D2 N A D3 D4 D5 D6
      go_region_held3 (fun w' => Below W6.heap.size W6 w' ∧ w'.cell? ⟨W.heap.size, 0, none⟩ = some (.int .i64 dn) ∧ w'.cell? ⟨W.heap.size, 1, none⟩ = some (.int .i64 dm) ∧ w'.cell? ⟨W.heap.size, 2, none⟩ = some (.int .i64 db) ∧ w'.cell? ⟨W.heap.size, 3, none⟩ = some (.int .i64 rl) ∧ w'.cell? ⟨W.heap.size, 4, none⟩ = some (.int .u64 (y 0)) ∧ w'.cell? ⟨W.heap.size, 5, none⟩ = some (.int .u64 (y 1)) ∧ w'.cell? ⟨W.heap.size, 6, none⟩ = some (.int .u64 (y 2)) ∧ w'.cell? ⟨W.heap.size, 7, none⟩ = some (.int .u64 (y 3)) ∧ w'.cell? ⟨(w2.heap.size), 0, none⟩ = some (.int .u64 0) ∧ w'.cell? ⟨(w2.heap.size), 1, none⟩ = some (.int .u64 0) ∧ w'.cell? ⟨(w2.heap.size), 2, none⟩ = some (.int .u64 0) ∧ w'.cell? ⟨(w2.heap.size), 3, none⟩ = some (.int .u64 0) ∧ w'.cell? ⟨w3.heap.size, 0, none⟩ = some (.int .i64 dn) ∧ w'.cell? ⟨w3.heap.size, 1, none⟩ = some (.int .i64 dm) ∧ w'.cell? ⟨w3.heap.size, 2, none⟩ = some (.int .i64 db) ∧ w'.cell? ⟨w3.heap.size, 3, none⟩ = some (.int .i64 rl) ∧ w'.cell? ⟨w3.heap.size, 4, none⟩ = some (.int .u64 (y 0)) ∧ w'.cell? ⟨w3.heap.size, 5, none⟩ = some (.int .u64 (y 1)) ∧ w'.cell? ⟨w3.heap.size, 6, none⟩ = some (.int .u64 (y 2)) ∧ w'.cell? ⟨w3.heap.size, 7, none⟩ = some (.int .u64 (y 3))) (exact MK.out _ (by repeat (first | (with_reducible assumption) | refine Below.drew ?_ | refine Below.alloc ?_ (by first | omega | (simp; omega)) _))) (first
        | (go_at_call 8; (with_reducible refine (EA.out _ (by repeat (first | (with_reducible assumption) | refine Below.drew ?_ | refine Below.alloc ?_ (by first | omega | (simp; omega)) _))).mono ?_); rintro e wx ⟨rfl, bx⟩; have sx := bx.size)
        | (go_at_call 22; (with_reducible refine (ED3.out _ (by repeat (first | (with_reducible assumption) | refine Below.drew ?_ | refine Below.alloc ?_ (by first | omega | (simp; omega)) _))).mono ?_); rintro e wx ⟨rfl, bx⟩; have sx := bx.size)
        | (go_at_call 12; (with_reducible refine (ED4.out _ (by repeat (first | (with_reducible assumption) | refine Below.drew ?_ | refine Below.alloc ?_ (by first | omega | (simp; omega)) _))).mono ?_); rintro e wx ⟨rfl, bx⟩; have sx := bx.size)
        | (go_at_call 18; (with_reducible refine (ED5.out _ (by repeat (first | (with_reducible assumption) | refine Below.drew ?_ | refine Below.alloc ?_ (by first | omega | (simp; omega)) _))).mono ?_); rintro e wx ⟨rfl, bx⟩; have sx := bx.size)
        | (go_at_call 20; (with_reducible refine (ED6.out _ (by repeat (first | (with_reducible assumption) | refine Below.drew ?_ | refine Below.alloc ?_ (by first | omega | (simp; omega)) _))).mono ?_); rintro e wx ⟨rfl, bx⟩; have sx := bx.size))
      all_goals
        go_wp2
        go_ret
        exact ⟨rfl, below_up L6.out (by with_reducible assumption)⟩
    · have N := Lib.hid (fun w => cnew_none n (.inr (by omega)) w)
      have d0 : decide (0 ≤ n) = true := decide_eq_true h0
      have d1 : decide (n ≤ 256) = false := decide_eq_false h1
      go_enter Try.func7, Try.ntmps7
      have H0 := Lib.hid (show (W.alloc (.cells #[.int .i64 dn, .int .i64 dm, .int .i64 db, .int .i64 rl, .int .u64 (y 0), .int .u64 (y 1), .int .u64 (y 2), .int .u64 (y 3)] WT)).heap[W.heap.size]? = some (.cells #[.int .i64 dn, .int .i64 dm, .int .i64 db, .int .i64 rl, .int .u64 (y 0), .int .u64 (y 1), .int .u64 (y 2), .int .u64 (y 3)] WT (0, 0)) from heap_alloc_new W _)
      have B0 := Lib.hid ((Below.refl W.heap.size W).alloc (Nat.le_refl _) (.cells #[.int .i64 dn, .int .i64 dm, .int .i64 db, .int .i64 rl, .int .u64 (y 0), .int .u64 (y 1), .int .u64 (y 2), .int .u64 (y 3)] WT))
      go_upto_region 3 with (go_at_call 10; refine (N.out _).mono ?_; rintro e w1 ⟨rfl, rfl⟩)
      go_upto_region 5 with (go_at_call 14; refine (D1.out _).mono ?_; rintro e w2 ⟨rfl, rfl⟩)
      refine gen_world (fun w => Below W.heap.size W w ∧ w.heap[W.heap.size]? = some (.cells #[.int .i64 dn, .int .i64 dm, .int .i64 db, .int .i64 rl, .int .u64 (y 0), .int .u64 (y 1), .int .u64 (y 2), .int .u64 (y 3)] WT (0, 0)) ∧ w.heap[W.heap.size + 1]? = some (.cells #[.int .u64 0, .int .u64 0, .int .u64 0, .int .u64 0] 37 (0, 0))) ⟨B0.out.alloc B0.out.size _, kept_obj ((Below.refl _ _).alloc (Nat.le_refl _) _) H0.out, (by have := heap_alloc_new (W.alloc (.cells #[.int .i64 dn, .int .i64 dm, .int .i64 db, .int .i64 rl, .int .u64 (y 0), .int .u64 (y 1), .int .u64 (y 2), .int .u64 (y 3)] WT)) (.cells #[.int .u64 0, .int .u64 0, .int .u64 0, .int .u64 0] 37); rwa [World.size_alloc] at this)⟩ ?_
      intro W5 ⟨h5, h6, h7⟩
      have H5 := Lib.hid h5
      have H6 := Lib.hid h6
      have H7 := Lib.hid h7
      have q0 : W5.cell? ⟨W.heap.size, 0, none⟩ = some (.int .i64 dn) := by rw [blk_cell h6]; rfl
      have q1 : W5.cell? ⟨W.heap.size, 1, none⟩ = some (.int .i64 dm) := by rw [blk_cell h6]; rfl
      have q2 : W5.cell? ⟨W.heap.size, 2, none⟩ = some (.int .i64 db) := by rw [blk_cell h6]; rfl
      have q3 : W5.cell? ⟨W.heap.size, 3, none⟩ = some (.int .i64 rl) := by rw [blk_cell h6]; rfl
      have q4 : W5.cell? ⟨W.heap.size, 4, none⟩ = some (.int .u64 (y 0)) := by rw [blk_cell h6]; rfl
      have q5 : W5.cell? ⟨W.heap.size, 5, none⟩ = some (.int .u64 (y 1)) := by rw [blk_cell h6]; rfl
      have q6 : W5.cell? ⟨W.heap.size, 6, none⟩ = some (.int .u64 (y 2)) := by rw [blk_cell h6]; rfl
      have q7 : W5.cell? ⟨W.heap.size, 7, none⟩ = some (.int .u64 (y 3)) := by rw [blk_cell h6]; rfl
      clear h5 h6 h7
      go_upto_region 6 with (go_at_call 16; refine (D2.out _).mono ?_; rintro e w3 ⟨rfl, b3⟩; have B3 := Lib.hid b3; clear b3)
      refine gen_world (NilAt W dn dm db rl y (W.heap.size + 1) w3.heap.size) ⟨(below_up H5.out B3.out).alloc (below_up H5.out B3.out).size _, kept_obj ((Below.refl _ _).alloc (Nat.le_refl _) _) (kept_obj B3.out H6.out), kept_obj ((Below.refl _ _).alloc (Nat.le_refl _) _) (kept_obj B3.out H7.out), heap_alloc_new w3 _⟩ ?_
      intro W6 hw6
      have MK := Lib.hid (fun w' (h : Below W6.heap.size W6 w') => hw6.cells h)
      have L6 := Lib.hid hw6.low
      have EA := Lib.hid (below_for W6 A.out)
      have ED3 := Lib.hid (same_for W6 D3.out)
      have ED4 := Lib.hid (same_for W6 D4.out)
      have ED5 := Lib.hid (same_for W6 D5.out)
      have ED6 := Lib.hid (below_for W6 D6.out)
      obtain ⟨_, m0, m1, m2, m3, m4, m5, m6, m7, m8, m9, m10, m11, m12, m13, m14, m15, m16, m17, m18, m19⟩ := hw6.cells (Below.refl _ _)
      clear hw6 H5 H6 H7 B0 H0 B3 D1 D2 N A D3 D4 D5 D6
      go_region_held3 (fun w' => Below W6.heap.size W6 w' ∧ w'.cell? ⟨W.heap.size, 0, none⟩ = some (.int .i64 dn) ∧ w'.cell? ⟨W.heap.size, 1, none⟩ = some (.int .i64 dm) ∧ w'.cell? ⟨W.heap.size, 2, none⟩ = some (.int .i64 db) ∧ w'.cell? ⟨W.heap.size, 3, none⟩ = some (.int .i64 rl) ∧ w'.cell? ⟨W.heap.size, 4, none⟩ = some (.int .u64 (y 0)) ∧ w'.cell? ⟨W.heap.size, 5, none⟩ = some (.int .u64 (y 1)) ∧ w'.cell? ⟨W.heap.size, 6, none⟩ = some (.int .u64 (y 2)) ∧ w'.cell? ⟨W.heap.size, 7, none⟩ = some (.int .u64 (y 3)) ∧ w'.cell? ⟨(W.heap.size + 1), 0, none⟩ = some (.int .u64 0) ∧ w'.cell? ⟨(W.heap.size + 1), 1, none⟩ = some (.int .u64 0) ∧ w'.cell? ⟨(W.heap.size + 1), 2, none⟩ = some (.int .u64 0) ∧ w'.cell? ⟨(W.heap.size + 1), 3, none⟩ = some (.int .u64 0) ∧ w'.cell? ⟨w3.heap.size, 0, none⟩ = some (.int .i64 dn) ∧ w'.cell? ⟨w3.heap.size, 1, none⟩ = some (.int .i64 dm) ∧ w'.cell? ⟨w3.heap.size, 2, none⟩ = some (.int .i64 db) ∧ w'.cell? ⟨w3.heap.size, 3, none⟩ = some (.int .i64 rl) ∧ w'.cell? ⟨w3.heap.size, 4, none⟩ = some (.int .u64 (y 0)) ∧ w'.cell? ⟨w3.heap.size, 5, none⟩ = some (.int .u64 (y 1)) ∧ w'.cell? ⟨w3.heap.size, 6, none⟩ = some (.int .u64 (y 2)) ∧ w'.cell? ⟨w3.heap.size, 7, none⟩ = some (.int .u64 (y 3))) (exact MK.out _ (by repeat (first | (with_reducible assumption) | refine Below.drew ?_ | refine Below.alloc ?_ (by first | omega | (simp; omega)) _))) (first
        | (go_at_call 8; (with_reducible refine (EA.out _ (by repeat (first | (with_reducible assumption) | refine Below.drew ?_ | refine Below.alloc ?_ (by first | omega | (simp; omega)) _))).mono ?_); rintro e wx ⟨rfl, bx⟩; have sx := bx.size)
        | (go_at_call 22; (with_reducible refine (ED3.out _ (by repeat (first | (with_reducible assumption) | refine Below.drew ?_ | refine Below.alloc ?_ (by first | omega | (simp; omega)) _))).mono ?_); rintro e wx ⟨rfl, bx⟩; have sx := bx.size)
        | (go_at_call 12; (with_reducible refine (ED4.out _ (by repeat (first | (with_reducible assumption) | refine Below.drew ?_ | refine Below.alloc ?_ (by first | omega | (simp; omega)) _))).mono ?_); rintro e wx ⟨rfl, bx⟩; have sx := bx.size)
        | (go_at_call 18; (with_reducible refine (ED5.out _ (by repeat (first | (with_reducible assumption) | refine Below.drew ?_ | refine Below.alloc ?_ (by first | omega | (simp; omega)) _))).mono ?_); rintro e wx ⟨rfl, bx⟩; have sx := bx.size)
        | (go_at_call 20; (with_reducible refine (ED6.out _ (by repeat (first | (with_reducible assumption) | refine Below.drew ?_ | refine Below.alloc ?_ (by first | omega | (simp; omega)) _))).mono ?_); rintro e wx ⟨rfl, bx⟩; have sx := bx.size))
      all_goals
        go_wp2
        go_ret
        exact ⟨rfl, below_up L6.out (by with_reducible assumption)⟩
  · have N := Lib.hid (fun w => cnew_none n (.inl (by omega)) w)
    have d0 : decide (0 ≤ n) = false := decide_eq_false h0
    exact law_nil_low W n s dn dm db rl y h0
end Go.Proofs.Ytfifgojbihdhcaa

/-
  The row of the statement that of no cache nothing comes.
-/
namespace Go.Proofs.Ytfifgojbihdhcaa
open Go.RowKit Go.Maps
theorem row_nil (W : World) (n : Int) (_ : (Lit.int .i64 n).wf = true) (s : Int) (_ : (Lit.int .i64 s).wf = true) (dn dm db rl : Int) (y : Nat → Nat) (_ : I64 dn ∧ I64 dm ∧ I64 db ∧ I64 rl) (_ : ∀ k, y k < 18446744073709551616) :
    Calls Try.prog 7 #[.int .i64 n, .int .i64 s, .agg #[.int .i64 dn, .int .i64 dm, .int .i64 db, .int .i64 rl, .int .u64 (y 0), .int .u64 (y 1), .int .u64 (y 2), .int .u64 (y 3)]] W fun e w' => e = .returned (.bool true) ∧ Below W.heap.size W w' := law_nil W n s dn dm db rl y
end Go.Proofs.Ytfifgojbihdhcaa
