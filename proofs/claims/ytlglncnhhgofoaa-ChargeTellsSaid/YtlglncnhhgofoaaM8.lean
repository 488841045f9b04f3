/- Texts of this claim, put together: EGrow2, BMore, EW2, EMost, EAll, FCv, FW1, FW2, FW3. -/
import Derived.Test.YtlglncnhhgofoaaM7
import Derived.Deep.RegionHeld3
import Derived.Deep.CutBlock
import Derived.Deep.CutRange
import Derived.Deep.DeepCutAuto
set_option linter.unusedVariables false
set_option linter.unusedSimpArgs false

/-
  The walk over the row of sets that grows: the loop over the ticks.
-/
namespace Go.Proofs.Ytlglncnhhgofoaa
open Go.RowKit Go.Maps Go.Shelf
attribute [local go_sem] Oper.semAt_some make_sets

set_option maxRecDepth 100000 in
set_option maxHeartbeats 8000000 in
theorem growing_any {w : World} {T : TV} (hT : l_Told T) (hok : T.ok w) {ticks : List Nat} {gf : Nat} {lb : Array Value} {S : Nat → Prop} (hS : ∀ k, S k → k < w.heap.size) (ht : Tells gf lb S ticks w) (hgf : ∀ args w, (callFunc gf args).run Try.prog w = .ok (.enter gf args) w) :
    Calls Try.prog 79 #[.agg #[.int .i64 T.id, .int .i64 T.c, .int .i64 T.d, .int .i64 T.t, .int .i64 T.p, .slice T.a1 T.ch.length T.c1, .slice T.a2 T.us.length T.c2], .func (.func gf) #[] lb] w (GrowBack T ticks w) := by
  have TC := Lib.hid (fun w => told_any T hT w)
  have RC := Lib.hid (fun w => round_any T hT w)
  obtain ⟨N, hN⟩ : ∃ N, T.us.length = N := ⟨_, rfl⟩
  have HNE := Lib.hid hN
  have hn5 : N ≤ 64 := by have := hT.n64; omega
  have hmf : ∀ (fn : Fn) (first cap : Array Value) (w : World), (Instr.makeFunc fn first cap).run Try.prog w = .ok (.func fn first cap) w := fun _ _ _ _ => rfl
  have e1 : IntKind.i64.wrap ((1 : Int) + (N : Int)) = 1 + (N : Int) := IntWalk.i64_in _ (by omega)
  have mk := fun w => make_sets N hn5 w
  have HOK := Lib.hid hok
  have HTT := Lib.hid hT
  have HTE := Lib.hid ht
  have HSS := Lib.hid hS
  clear hT hok ht hS
  rw [hN] at TC RC ⊢
  refine (callsIn_wide (n := 3)).1 ?_
  refine callsIn_of_wp_marks Try.func79 rfl trivial ?_ rfl
  simp only [Try.ntmps79, List.size_toArray, List.length_cons, List.length_nil, Nat.reduceAdd, Nat.reduceSub, Array.replicate_succ, Array.replicate_zero, List.push_toArray, List.append_toArray, List.nil_append, List.cons_append]
  gi_wp2
  refine wpIn_wide.2 ?_
  refine wp_scope_straight ?_
  go_upto_region 3 with (go_at_call 78; (refine (TC.out _).mono ?_); rintro e w1 ⟨rfl, b1⟩; have HB1 := Lib.hid b1; have HT0 := Lib.hid (kept_obj b1 (heap_alloc_new w _)); clear b1)
  have c0 : w1.cell? ⟨w.heap.size, 0, none⟩ = some (.int .i64 T.id) := by rw [blk_cell HT0.out]; rfl
  have c1 : w1.cell? ⟨w.heap.size, 1, none⟩ = some (.int .i64 T.c) := by rw [blk_cell HT0.out]; rfl
  have c2 : w1.cell? ⟨w.heap.size, 2, none⟩ = some (.int .i64 T.d) := by rw [blk_cell HT0.out]; rfl
  have c3 : w1.cell? ⟨w.heap.size, 3, none⟩ = some (.int .i64 T.t) := by rw [blk_cell HT0.out]; rfl
  have c4 : w1.cell? ⟨w.heap.size, 4, none⟩ = some (.int .i64 T.p) := by rw [blk_cell HT0.out]; rfl
  have c5 : w1.cell? ⟨w.heap.size, 5, none⟩ = some (.slice T.a1 T.ch.length T.c1) := by rw [blk_cell HT0.out]; rfl
  have c6 : w1.cell? ⟨w.heap.size, 6, none⟩ = some (.slice T.a2 N T.c2) := by rw [blk_cell HT0.out]; rfl
  go_upto_region 4 with (go_at_call 82; (refine (RC.out _).mono ?_); rintro e w2 ⟨rfl, b2⟩; have HB2 := Lib.hid b2; clear b2)
  have HL2 : Hid (Below w.heap.size w w2) := below_up (below_up ((Below.refl w.heap.size w).alloc (Nat.le_refl _) _) HB1.out) HB2.out
  have HT2 := Lib.hid (kept_obj HB2.out HT0.out)
  clear TC RC HB1 HB2 HT0 c0 c1 c2 c3 c4 c5 c6 mk
  go_wp2
  go_step3
  go_wp2
  refine gen_world (GrowAt w w.heap.size (w2.heap.size + 1) (w2.heap.size + 1 + 1) T [] (some ⟨w2.heap.size, 0, none⟩) (1 + N)) ?_ ?_
  · have hb1 : Below w2.heap.size w2 (w2.alloc (.cells (madeCells #[.int .u64 0, .int .u64 0, .int .u64 0, .int .u64 0] ((1 + N) * 4)) ST4)) := (Below.refl _ _).alloc (Nat.le_refl _) _
    have hlt := lt_of_block HT2.out
    refine ⟨below_up HL2.out ((by repeat (first | exact Below.refl _ _ | (with_reducible assumption) | refine bw_alloc ?_ _ | refine bw_drew ?_))), ?_, ?_, ?_, ?_, by omega, by omega, by omega⟩
    · rw [HNE.out]; exact kept_obj (w := w2) ((by repeat (first | exact Below.refl _ _ | (with_reducible assumption) | refine bw_alloc ?_ _ | refine bw_drew ?_))) HT2.out
    · have := heap_alloc_new ((w2.alloc (.cells (madeCells #[.int .u64 0, .int .u64 0, .int .u64 0, .int .u64 0] ((1 + N) * 4)) ST4)).alloc (.cells #[.slice (some ⟨w2.heap.size, 0, none⟩) 1 (1 + N)] RB4)) (.cells #[.func (.func 97) #[] #[.pointer (some ⟨w2.heap.size + 1, 0, none⟩), .pointer (some ⟨w.heap.size, 0, none⟩)]] 130)
      rw [World.size_alloc, World.size_alloc] at this
      exact this
    · have := heap_alloc_new (w2.alloc (.cells (madeCells #[.int .u64 0, .int .u64 0, .int .u64 0, .int .u64 0] ((1 + N) * 4)) ST4)) (.cells #[.slice (some ⟨w2.heap.size, 0, none⟩) 1 (1 + N)] RB4)
      rw [World.size_alloc] at this
      exact kept_obj ((Below.refl _ _).alloc (Nat.le_refl _) _) this
    · exact ((made_own w2 T.us N hn5).low HL2.out.size).below (w := w2.alloc (.cells (madeCells #[.int .u64 0, .int .u64 0, .int .u64 0, .int .u64 0] ((1 + N) * 4)) ST4)) ((by repeat (first | exact Below.refl _ _ | (with_reducible assumption) | refine bw_alloc ?_ _ | refine bw_drew ?_)))
  intro W hw
  have HW := Lib.hid hw
  clear hw
  refine (wpIn_wide (n := 3)).1 ?_
  refine wpIn_rangeFunc_ownG rfl (by omega) (gf := gf) (lb := lb) rfl trivial hgf (HTE.out.below HW.out.low 2 (by omega)) kpS_t kpS_b (Below.refl _ _) (fun _ => rfl)
    (fun pre V => Grown w w.heap.size (w2.heap.size + 1) (w2.heap.size + 1 + 1) T pre V) (fun c pre V => Full w w.heap.size (w2.heap.size + 1) (w2.heap.size + 1 + 1) T c pre V) (Grown.own HW.out.low.size) (fun c => Full.own HW.out.low.size c) ⟨⟨_, _, HW.out⟩, Nat.zero_le _⟩
    (fun x => { tmps := #[.agg #[.int .i64 T.id, .int .i64 T.c, .int .i64 T.d, .int .i64 T.t, .int .i64 T.p, .slice T.a1 T.ch.length T.c1, .slice T.a2 N T.c2], .func (.func gf) #[] lb, .pointer (some ⟨w.heap.size, 0, none⟩), undef, .slice none 0 0, .pointer (some ⟨w2.heap.size + 1, 0, none⟩), .pointer (some ⟨w2.heap.size + 1 + 1, 0, none⟩), .int .i64 (x : Int), .agg #[.int .i64 T.id, .int .i64 T.c, .int .i64 T.d, .int .i64 T.t, .int .i64 T.p, .slice T.a1 T.ch.length T.c1, .slice T.a2 N T.c2], .bool true, .bool false, undef, .agg #[.int .i64 T.id, .int .i64 T.c, .int .i64 T.d, .int .i64 T.t, .int .i64 T.p, .slice T.a1 T.ch.length T.c1, .slice T.a2 N T.c2], .int .i64 N, .int .i64 (1 + (N : Int)), .slice (some ⟨w2.heap.size, 0, none⟩) 1 (1 + N), .func (.func 97) #[] #[.pointer (some ⟨w2.heap.size + 1, 0, none⟩), .pointer (some ⟨w.heap.size, 0, none⟩)], .func (.func gf) #[] lb, .int .i64 (x : Int), undef, undef, undef, undef, undef, undef, undef, undef, undef, undef], defers := [] }) ?assign ?body ?done ?stop
  case assign =>
    intro l x V K hK
    gi_wp2
    exact hK
  case body =>
    rintro l pre x V ⟨⟨a, c, hI⟩, hle⟩ hlt
    have HI := Lib.hid hI
    have HLE := Lib.hid hle
    have r0 : V.cell? ⟨w2.heap.size + 1, 0, none⟩ = some (.slice a (pre.length + 1) c) := by rw [blk_cell hI.rb]; rfl
    have c0 : V.cell? ⟨w.heap.size, 0, none⟩ = some (.int .i64 T.id) := by rw [blk_cell hI.tb]; rfl
    have c1 : V.cell? ⟨w.heap.size, 1, none⟩ = some (.int .i64 T.c) := by rw [blk_cell hI.tb]; rfl
    have c2 : V.cell? ⟨w.heap.size, 2, none⟩ = some (.int .i64 T.d) := by rw [blk_cell hI.tb]; rfl
    have c3 : V.cell? ⟨w.heap.size, 3, none⟩ = some (.int .i64 T.t) := by rw [blk_cell hI.tb]; rfl
    have c4 : V.cell? ⟨w.heap.size, 4, none⟩ = some (.int .i64 T.p) := by rw [blk_cell hI.tb]; rfl
    have c5 : V.cell? ⟨w.heap.size, 5, none⟩ = some (.slice T.a1 T.ch.length T.c1) := by rw [blk_cell hI.tb]; rfl
    have c6 : V.cell? ⟨w.heap.size, 6, none⟩ = some (.slice T.a2 N T.c2) := by rw [blk_cell hI.tb, ← HNE.out]; rfl
    have RC := Lib.hid (fun w => round_any T HTT.out w)
    rw [hN] at RC
    clear hI hle HTE
    obtain ⟨q, hq⟩ : ∃ q, decide ((N : Int) < (pre.length : Int) + 1) = q := ⟨_, rfl⟩
    have HQ := Lib.hid hq
    gi_wp2
    have hS : (fun w' : World => w'.cell? ⟨w2.heap.size + 1, 0, none⟩ = some (.slice a (pre.length + 1) c) ∧ w'.cell? ⟨w.heap.size, 0, none⟩ = some (.int .i64 T.id) ∧ w'.cell? ⟨w.heap.size, 1, none⟩ = some (.int .i64 T.c) ∧ w'.cell? ⟨w.heap.size, 2, none⟩ = some (.int .i64 T.d) ∧ w'.cell? ⟨w.heap.size, 3, none⟩ = some (.int .i64 T.t) ∧ w'.cell? ⟨w.heap.size, 4, none⟩ = some (.int .i64 T.p) ∧ w'.cell? ⟨w.heap.size, 5, none⟩ = some (.slice T.a1 T.ch.length T.c1) ∧ w'.cell? ⟨w.heap.size, 6, none⟩ = some (.slice T.a2 N T.c2)) V.drew := ⟨r0, c0, c1, c2, c3, c4, c5, c6⟩
    refine region_round (fun w' : World => w'.cell? ⟨w2.heap.size + 1, 0, none⟩ = some (.slice a (pre.length + 1) c) ∧ w'.cell? ⟨w.heap.size, 0, none⟩ = some (.int .i64 T.id) ∧ w'.cell? ⟨w.heap.size, 1, none⟩ = some (.int .i64 T.c) ∧ w'.cell? ⟨w.heap.size, 2, none⟩ = some (.int .i64 T.d) ∧ w'.cell? ⟨w.heap.size, 3, none⟩ = some (.int .i64 T.t) ∧ w'.cell? ⟨w.heap.size, 4, none⟩ = some (.int .i64 T.p) ∧ w'.cell? ⟨w.heap.size, 5, none⟩ = some (.slice T.a1 T.ch.length T.c1) ∧ w'.cell? ⟨w.heap.size, 6, none⟩ = some (.slice T.a2 N T.c2)) (by kernel_rfl) (by kernel_rfl) (by rintro ⟨_, _, h⟩; exact h) ?_
    refine wpAnyH_take (i := 0) (oi := { dst := some 23, op := .load RB4 (.tmp 5), type := RB4, pos := _, after := _, guard := none }) (v := Value.slice a (pre.length + 1) c) rfl (by kernel_rfl) (by kernel_rfl) (by kernel_rfl) (fun _ _ _ h => h) (Or.inl ⟨by rfl, ?_⟩) hS ?_
    · rintro w' ⟨z0, z1, z2, z3, z4, z5, z6, z7⟩
      go_simp
    simp only [Act.put, List.setIfInBounds_toArray, List.set_cons_zero, List.set_cons_succ]
    refine wpAnyH_take (i := 1) (oi := { dst := some 24, op := .call { callee := .builtin .len, args := #[.tmp 23], argTypes := #[RB4] }, type := 3, pos := _, after := _, guard := none }) (v := .int .i64 ((pre.length : Int) + 1)) rfl (by kernel_rfl) (by kernel_rfl) (by kernel_rfl) (fun _ _ _ h => h) (Or.inl ⟨by rfl, ?_⟩) hS ?_
    · rintro w' ⟨z0, z1, z2, z3, z4, z5, z6, z7⟩
      go_simp
    simp only [Act.put, List.setIfInBounds_toArray, List.set_cons_zero, List.set_cons_succ]
    refine wpAnyH_take (i := 2) (oi := { dst := some 25, op := .load TT (.tmp 2), type := TT, pos := _, after := _, guard := none }) (v := .agg #[.int .i64 T.id, .int .i64 T.c, .int .i64 T.d, .int .i64 T.t, .int .i64 T.p, .slice T.a1 T.ch.length T.c1, .slice T.a2 N T.c2]) rfl (by kernel_rfl) (by kernel_rfl) (by kernel_rfl) (fun _ _ _ h => h) (Or.inl ⟨by rfl, ?_⟩) hS ?_
    · rintro w' ⟨z0, z1, z2, z3, z4, z5, z6, z7⟩
      go_simp
    simp only [Act.put, List.setIfInBounds_toArray, List.set_cons_zero, List.set_cons_succ]
    refine wpAnyH_ready (rs := [3]) (by kernel_rfl) (by simp) ?_
    refine AllReadyH.cons (o := { dst := some 26, op := .call { callee := .value (.func 82), args := #[.tmp 25], argTypes := #[TT] }, type := 2, pos := _, after := _, guard := none }) rfl (fun K hK => ?_) AllReadyH.nil
    go_simp
    go_at_call 82
    (with_reducible refine (RC.out _).mono ?_)
    rintro e w3 ⟨rfl, b3⟩
    have b4 : Below V.heap.size V w3 := below_next b3 (Below.refl _ V) (Nat.le_refl _)
    have hS3 : (fun w' : World => w'.cell? ⟨w2.heap.size + 1, 0, none⟩ = some (.slice a (pre.length + 1) c) ∧ w'.cell? ⟨w.heap.size, 0, none⟩ = some (.int .i64 T.id) ∧ w'.cell? ⟨w.heap.size, 1, none⟩ = some (.int .i64 T.c) ∧ w'.cell? ⟨w.heap.size, 2, none⟩ = some (.int .i64 T.d) ∧ w'.cell? ⟨w.heap.size, 3, none⟩ = some (.int .i64 T.t) ∧ w'.cell? ⟨w.heap.size, 4, none⟩ = some (.int .i64 T.p) ∧ w'.cell? ⟨w.heap.size, 5, none⟩ = some (.slice T.a1 T.ch.length T.c1) ∧ w'.cell? ⟨w.heap.size, 6, none⟩ = some (.slice T.a2 N T.c2)) w3 := ⟨kept_cell b4 r0, kept_cell b4 c0, kept_cell b4 c1, kept_cell b4 c2, kept_cell b4 c3, kept_cell b4 c4, kept_cell b4 c5, kept_cell b4 c6⟩
    have H3 := Lib.hid (And.intro (HI.out.below b4) b4)
    clear b3 b4 r0 c0 c1 c2 c3 c4 c5 c6
    refine hK.out _ _ hS3 (fun _ => ?_)
    clear hK K
    try simp only [Act.put, List.setIfInBounds_toArray, List.set_cons_zero, List.set_cons_succ]
    refine wpAnyH_ready (rs := [4]) (by kernel_rfl) (by simp) ?_
    refine AllReadyH.cons (o := { dst := some 27, op := .binOp .gtr 2 (.tmp 24) (.tmp 26) 2, type := 4, pos := _, after := _, guard := none }) rfl (fun K hK => ?_) AllReadyH.nil
    go_simp
    refine hK.out _ _ hS3 (fun _ => ?_)
    clear hK K
    try simp only [Act.put, List.setIfInBounds_toArray, List.set_cons_zero, List.set_cons_succ]
    refine wpAnyH_ready (rs := [5]) (by kernel_rfl) (by simp) ?_
    refine AllReadyH.cons (o := { dst := some 22, op := .assign (.tmp 27), type := 4, pos := _, after := _, guard := none }) rfl (fun K hK => ?_) AllReadyH.nil
    go_simp
    refine hK.out _ _ hS3 (fun _ => ?_)
    clear hK K
    try simp only [Act.put, List.setIfInBounds_toArray, List.set_cons_zero, List.set_cons_succ]
    refine wpAnyH_done (by kernel_rfl) ?_ _
    have fb0 : w3.cell? ⟨w2.heap.size + 1 + 1, 0, none⟩ = some (.func (.func 97) #[] #[.pointer (some ⟨w2.heap.size + 1, 0, none⟩), .pointer (some ⟨w.heap.size, 0, none⟩)]) := by rw [blk_cell H3.out.1.fb]; rfl
    clear hS hS3 RC hq
    cases q with
    | true =>
      gi_wp2
      have hN1 := of_decide_eq_true HQ.out
      have hk := turn_keeps (S := fun _ => False) (B := W.heap.size) (Turn.of_below H3.out.2) (fun i h => h.elim)
      exact ⟨hk, rfl, pre, x, rfl, by have := HLE.out; have := HNE.out; omega, a, c, H3.out.1⟩
    | false =>
      have hN1 := of_decide_eq_false HQ.out
      have hlt2 : pre.length < T.us.length := by have := HNE.out; omega
      have AD := Lib.hid (add_any HTT.out (HOK.out.below H3.out.1.low) (by rintro e; rw [e] at hlt2; simp at hlt2) H3.out.1 x (by have := HNE.out; omega))
      have HL2' := Lib.hid hlt2
      clear hN1 hlt2
      gi_wp2_with (refine ⟨trivial, ?_⟩; gi_at_call 97; (refine (CallsIn.inRound l (callsIn_wide.2 (AD.out))).mono ?_); rintro e w4 ⟨rfl, g4, S4, s4, t4⟩)
      have ht := (Turn.of_below (S := S4) H3.out.2).then (t4.mono fun i _ h => h)
      have hs4 : ∀ i, S4 i → ∀ o, V.heap[i]? = some o → o.isCells = true := fun i hi o ho => (s4 i hi).2 o (kept_obj H3.out.2 ho)
      exact ⟨turn_keeps ht hs4, ⟨turn_walks ht hs4, fun k cs U fr hk hc => ht.obj hc (fun q => by have := (s4 k q).1; have := HSS.out k hk; omega)⟩, g4, by have := HL2'.out; simp; omega⟩
  case done =>
    rintro D ys V hD hys ⟨⟨a, c, hI⟩, hle⟩ hK
    subst hys
    have HI := Lib.hid hI
    have HLE := Lib.hid hle
    have r0 : V.cell? ⟨w2.heap.size + 1, 0, none⟩ = some (.slice a (ys.length + 1) c) := by rw [blk_cell hI.rb]; rfl
    clear hI hle
    gi_wp2
    go_wp2
    refine ⟨by simp, .inl ⟨_, _, rfl, run_takeDeferred hK, ?_⟩⟩
    refine ⟨_, results_tmp rfl _ _ _, ⟨a, c, ?_, ?_⟩, ?_⟩
    · rw [Nat.min_eq_left (by have := HLE.out; omega)]; rfl
    · rw [List.take_of_length_le HLE.out]
      have hv := HI.out.view
      rcases hv with hv | ⟨g, o, e, hc⟩
      · exact .inl hv
      · exact .inr ⟨g, o, e, fun j u hj => by
          have h1 := hc j u hj
          have hne : g ≠ D := by
            rintro rfl
            unfold World.cell? at h1
            rw [hK] at h1
            simp at h1
          have := World.putObj_heap_other (w := V) (o := .deferred none) hne
          unfold World.cell? at h1 ⊢
          rw [this]
          exact h1⟩
    · exact HI.out.low.trans (belowK_b (w := w) (Nat.le_refl _) _ D _ _ (by have := HW.out.low.size; omega) hK rfl rfl)
  case stop =>
    rintro D c ys V hD hys ⟨rfl, pre, x, rfl, hl, a, c, hI⟩ hK
    have HI := Lib.hid hI
    have r0 : V.cell? ⟨w2.heap.size + 1, 0, none⟩ = some (.slice a (pre.length + 1) c) := by rw [blk_cell hI.rb]; rfl
    clear hI
    gi_wp2
    go_wp2
    refine ⟨by simp, .inl ⟨_, _, rfl, run_takeDeferred hK, ?_⟩⟩
    have htk : ticks.take N = pre := by
      obtain ⟨r, hr⟩ := hys
      rw [← hr, List.append_assoc, List.take_append_of_le_length (by omega), List.take_of_length_le (by omega)]
    have hln : N ≤ ticks.length := by
      obtain ⟨r, hr⟩ := hys
      rw [← hr]; simp; omega
    refine ⟨_, results_tmp rfl _ _ _, ⟨a, c, ?_, ?_⟩, ?_⟩
    · rw [hN, Nat.min_eq_right hln, ← hN, ← hl]; rfl
    · rw [hN, htk]
      have hv := HI.out.view
      rcases hv with hv | ⟨g, o, e, hc⟩
      · exact .inl hv
      · exact .inr ⟨g, o, e, fun j u hj => by
          have h1 := hc j u hj
          have hne : g ≠ D := by
            rintro rfl
            unfold World.cell? at h1
            rw [hK] at h1
            simp at h1
          have := World.putObj_heap_other (w := V) (o := .deferred none) hne
          unfold World.cell? at h1 ⊢
          rw [this]
          exact h1⟩
    · exact HI.out.low.trans (belowK_b (w := w) (Nat.le_refl _) _ D _ _ (by have := HW.out.low.size; omega) hK rfl rfl)
end Go.Proofs.Ytlglncnhhgofoaa

/-
  More walks over sets: what is in both, how many, a set out of a row; two together.
-/
namespace Go.Proofs.Ytlglncnhhgofoaa
open Go.RowKit

set_option maxHeartbeats 1000000 in
theorem count_any (x : Nat) (hx : x < 18446744073709551616) (w : World) :
    Calls Try.prog 84 #[.int .u64 x] w fun e w' => e = .returned (.int .i64 (cntN x.testBit 64)) ∧ w = w' := by
  obtain ⟨a, b, c, d, e, f, h1, ka, h2, kb, kb', h3, h4, h5, h6, kc, kd, ke, kf, hr⟩ := pop_steps x
  have q : cntN x.testBit 64 < 128 := by have := cntN_le x.testBit 64; omega
  have w1 : IntKind.u64.wrap (bits .and .u64 ((x : Int) / 2) 6148914691236517205 + bits .and .u64 (x : Int) 6148914691236517205) = (a : Int) := by
    rw [show (x : Int) / 2 = ((x / 2 : Nat) : Int) by omega, show (6148914691236517205 : Int) = ((6148914691236517205 : Nat) : Int) from rfl, and_nat _ _ (by omega) (by omega), and_nat _ _ hx (by omega), ← Int.natCast_add, h1]
    exact u64_nat _ ka
  have w2 : IntKind.u64.wrap (bits .and .u64 ((a : Int) / 4) 3689348814741910323 + bits .and .u64 (a : Int) 3689348814741910323) = (b : Int) := by
    rw [show (a : Int) / 4 = ((a / 4 : Nat) : Int) by omega, show (3689348814741910323 : Int) = ((3689348814741910323 : Nat) : Int) from rfl, and_nat _ _ (by omega) (by omega), and_nat _ _ ka (by omega), ← Int.natCast_add, h2]
    exact u64_nat _ kb
  have w3 : bits .and .u64 (IntKind.u64.wrap ((b : Int) / 16 + (b : Int))) 1085102592571150095 = (c : Int) := by
    rw [show (b : Int) / 16 + (b : Int) = ((b / 16 + b : Nat) : Int) by omega, u64_nat _ kb', show (1085102592571150095 : Int) = ((1085102592571150095 : Nat) : Int) from rfl, and_nat _ _ kb' (by omega), h3]
  have w4 : IntKind.u64.wrap ((c : Int) + (c : Int) / 256) = (d : Int) := by
    rw [show (c : Int) + (c : Int) / 256 = ((c + c / 256 : Nat) : Int) by omega, h4]; exact u64_nat _ kd
  have w5 : IntKind.u64.wrap ((d : Int) + (d : Int) / 65536) = (e : Int) := by
    rw [show (d : Int) + (d : Int) / 65536 = ((d + d / 65536 : Nat) : Int) by omega, h5]; exact u64_nat _ ke
  have w6 : IntKind.u64.wrap ((e : Int) + (e : Int) / 4294967296) = (f : Int) := by
    rw [show (e : Int) + (e : Int) / 4294967296 = ((e + e / 4294967296 : Nat) : Int) by omega, h6]; exact u64_nat _ (by omega)
  have w7 : bits .and .i64 (wrap64 (f : Int)) 127 = (cntN x.testBit 64 : Nat) := by rw [i64_and127, IntWalk.wrap64_in _ (by omega), ← hr]; exact (Int.natCast_emod f 128).symm
  clear h1 h2 h3 h4 h5 h6 ka kb kb' kc kd ke kf hr q hx
  generalize cntN x.testBit 64 = z at w7 ⊢
  go_enter Try.func84, Try.ntmps84
  go_wp2
  go_ret
  exact ⟨rfl, rfl⟩
set_option maxHeartbeats 2000000 in
theorem and_any (p q : Nat → Bool) (w : World) :
    Calls Try.prog 83 #[.agg #[.int .u64 (wd p 0), .int .u64 (wd p 1), .int .u64 (wd p 2), .int .u64 (wd p 3)], .agg #[.int .u64 (wd q 0), .int .u64 (wd q 1), .int .u64 (wd q 2), .int .u64 (wd q 3)]] w fun e w' => e = .returned (.agg #[.int .u64 (wd (andP p q) 0), .int .u64 (wd (andP p q) 1), .int .u64 (wd (andP p q) 2), .int .u64 (wd (andP p q) 3)]) ∧ Below w.heap.size w w' := by
  have e0 := Lib.hid (w_and p q 0)
  have e1 := Lib.hid (w_and p q 1)
  have e2 := Lib.hid (w_and p q 2)
  have e3 := Lib.hid (w_and p q 3)
  generalize wd (andP p q) = r at e0 e1 e2 e3 ⊢
  generalize wd p = a at e0 e1 e2 e3 ⊢
  generalize wd q = b at e0 e1 e2 e3 ⊢
  go_enter Try.func83, Try.ntmps83
  go_wp2
  go_loopw [6] (fun i wr => ∃ k : Nat, k ≤ 4 ∧ i = .int .i64 k ∧ Loop4 w wr k r a b) (fun i _ => (4 - intOf i).toNat)
  case atStart =>
    exact ⟨0, by omega, rfl, ⟨((Four.new w _ _ _ _ _).alloc _).alloc _, by simpa using (Four.new (w.alloc _) (b 0) (b 1) (b 2) (b 3) _).alloc _, by simpa using Four.new ((w.alloc _).alloc _) 0 0 0 0 _, (((Below.refl _ _).alloc (Nat.le_refl _) _).alloc (by simp) _).alloc (by simp; omega) _⟩⟩
  case round =>
    obtain ⟨k, hk, rfl, hx, hy, hz, hb⟩ := hrel
    have HY := Lib.hid hy
    have HZ := Lib.hid hz
    have HB := Lib.hid hb
    have HX := Lib.hid hx
    clear hb hz
    rcases (show k = 0 ∨ k = 1 ∨ k = 2 ∨ k = 3 ∨ k = 4 by omega) with rfl | rfl | rfl | rfl | rfl
    rotate_left 4
    · clear HY hy
      simp only [mix, Nat.reduceLT, reduceIte] at hx
      obtain ⟨x0, x1, x2, x3, g0, g1, g2, g3⟩ := hx
      obtain ⟨z0, z1, z2, z3, v0, v1, v2, v3⟩ := HZ.out
      go_wp2
      refine bodyPost_ret (v := .agg #[.int .u64 (r 0), .int .u64 (r 1), .int .u64 (r 2), .int .u64 (r 3)]) ?_ rfl ⟨rfl, below_set4 HB.out (by omega) (r 0) (r 1) (r 2) (r 3)⟩
      obtain ⟨s0, s1, s2, s3, _, _, _, _⟩ := HZ.out.set4 (r 0) (r 1) (r 2) (r 3)
      unfold set4 at s0 s1 s2 s3
      simp [results, Try.results83, go_sem, s0, s1, s2, s3]
    all_goals
      simp only [mix, Nat.lt_irrefl, Nat.reduceLT, Nat.not_lt_zero, reduceIte] at hx
      obtain ⟨x0, x1, x2, x3, g0, g1, g2, g3⟩ := hx
      obtain ⟨y0, y1, y2, y3, _, _, _, _⟩ := hy
    · have e := e0.out
      go_wp2
      go_region
      all_goals
        clear e
        go_wp2
        go_roundw
        case rel => exact ⟨1, by omega, rfl, ⟨(HX.out.set0 (r 0)).of_drew, (HY.out.far (p := ⟨w.heap.size, 0, none⟩) (by simp) _).of_drew, (HZ.out.far (p := ⟨w.heap.size, 0, none⟩) (by simp; omega) _).of_drew, (HB.out.setCell (p := ⟨w.heap.size, 0, none⟩) (Nat.le_refl _) _).drew⟩⟩
        case measure => simp [intOf]
    · have e := e1.out
      go_wp2
      go_region
      all_goals
        clear e
        go_wp2
        go_roundw
        case rel => exact ⟨2, by omega, rfl, ⟨(HX.out.set1 (r 1)).of_drew, (HY.out.far (p := ⟨w.heap.size, 1, none⟩) (by simp) _).of_drew, (HZ.out.far (p := ⟨w.heap.size, 1, none⟩) (by simp; omega) _).of_drew, (HB.out.setCell (p := ⟨w.heap.size, 1, none⟩) (Nat.le_refl _) _).drew⟩⟩
        case measure => simp [intOf]
    · have e := e2.out
      go_wp2
      go_region
      all_goals
        clear e
        go_wp2
        go_roundw
        case rel => exact ⟨3, by omega, rfl, ⟨(HX.out.set2 (r 2)).of_drew, (HY.out.far (p := ⟨w.heap.size, 2, none⟩) (by simp) _).of_drew, (HZ.out.far (p := ⟨w.heap.size, 2, none⟩) (by simp; omega) _).of_drew, (HB.out.setCell (p := ⟨w.heap.size, 2, none⟩) (Nat.le_refl _) _).drew⟩⟩
        case measure => simp [intOf]
    · have e := e3.out
      go_wp2
      go_region
      all_goals
        clear e
        go_wp2
        go_roundw
        case rel => exact ⟨4, by omega, rfl, ⟨(HX.out.set3 (r 3)).of_drew, (HY.out.far (p := ⟨w.heap.size, 3, none⟩) (by simp) _).of_drew, (HZ.out.far (p := ⟨w.heap.size, 3, none⟩) (by simp; omega) _).of_drew, (HB.out.setCell (p := ⟨w.heap.size, 3, none⟩) (Nat.le_refl _) _).drew⟩⟩
        case measure => simp [intOf]
set_option maxHeartbeats 2000000 in
theorem len_core (p : Nat → Bool) (w : World) :
    Calls Try.prog 59 #[.agg #[.int .u64 (wd p 0), .int .u64 (wd p 1), .int .u64 (wd p 2), .int .u64 (wd p 3)]] w fun e w' => e = .returned (.int .i64 (cntW p 4)) ∧ Below w.heap.size w w' := by
  have HL : Hid (∀ k, k ≤ 4 → cntW p k ≤ 256) := fun k hk => by rw [cntW_eq]; have := cntN_le p (64 * k); omega
  have HC : Hid (∀ k w, Calls Try.prog 84 #[.int .u64 (wd p k)] w fun e w' => e = .returned (.int .i64 (cntN (wd p k).testBit 64)) ∧ w = w') := fun k w => count_any _ (wd_lt p k) w
  have H0 : cntW p 0 = 0 := rfl
  have HS : Hid (∀ k, cntW p (k + 1) = cntW p k + cntN (wd p k).testBit 64) := fun _ => rfl
  have HN : Hid (∀ k, cntN (wd p k).testBit 64 ≤ 64) := fun k => cntN_le _ 64
  generalize wd p = a at HC HS HN ⊢
  generalize cntW p = c at HL H0 HS ⊢
  go_enter Try.func59, Try.ntmps59
  go_wp2
  go_loop [3, 7] (fun n i => ∃ k : Nat, k ≤ 4 ∧ i = .int .i64 k ∧ n = .int .i64 (c k)) (fun _ i => (4 - intOf i).toNat)
  case atStart => exact ⟨0, by omega, rfl, by rw [H0]; rfl⟩
  case round =>
    obtain ⟨k, hk, rfl, rfl⟩ := hrel
    have hle := HL.out k hk
    rcases (show k = 0 ∨ k = 1 ∨ k = 2 ∨ k = 3 ∨ k = 4 by omega) with rfl | rfl | rfl | rfl | rfl
    rotate_left 4
    · clear H0
      go_wp2
      go_ret
      exact ⟨rfl, (Below.refl _ _).alloc (Nat.le_refl _) _⟩
    · have C := Lib.hid (HC.out 0)
      have hn := HN.out 0
      have hs := Lib.hid (HS.out 0)
      have hix := index_0 (a 0) (a 1) (a 2) (a 3)
      clear H0
      generalize cntN (a 0).testBit 64 = m at C hn hs
      go_wp2_with (go_at_call 84; (refine (C.out _).mono ?_); rintro e w' ⟨rfl, rfl⟩)
      go_round
      case rel => exact ⟨0 + 1, by omega, rfl, by rw [hs.out]; go_num⟩
      case measure => simp [intOf]
    · have C := Lib.hid (HC.out 1)
      have hn := HN.out 1
      have hs := Lib.hid (HS.out 1)
      have hix := index_1 (a 0) (a 1) (a 2) (a 3)
      clear H0
      generalize cntN (a 1).testBit 64 = m at C hn hs
      go_wp2_with (go_at_call 84; (refine (C.out _).mono ?_); rintro e w' ⟨rfl, rfl⟩)
      go_round
      case rel => exact ⟨1 + 1, by omega, rfl, by rw [hs.out]; go_num⟩
      case measure => simp [intOf]
    · have C := Lib.hid (HC.out 2)
      have hn := HN.out 2
      have hs := Lib.hid (HS.out 2)
      have hix := index_2 (a 0) (a 1) (a 2) (a 3)
      clear H0
      generalize cntN (a 2).testBit 64 = m at C hn hs
      go_wp2_with (go_at_call 84; (refine (C.out _).mono ?_); rintro e w' ⟨rfl, rfl⟩)
      go_round
      case rel => exact ⟨2 + 1, by omega, rfl, by rw [hs.out]; go_num⟩
      case measure => simp [intOf]
    · have C := Lib.hid (HC.out 3)
      have hn := HN.out 3
      have hs := Lib.hid (HS.out 3)
      have hix := index_3 (a 0) (a 1) (a 2) (a 3)
      clear H0
      generalize cntN (a 3).testBit 64 = m at C hn hs
      go_wp2_with (go_at_call 84; (refine (C.out _).mono ?_); rintro e w' ⟨rfl, rfl⟩)
      go_round
      case rel => exact ⟨3 + 1, by omega, rfl, by rw [hs.out]; go_num⟩
      case measure => simp [intOf]
theorem len_any (p : Nat → Bool) (w : World) :
    Calls Try.prog 59 #[.agg #[.int .u64 (wd p 0), .int .u64 (wd p 1), .int .u64 (wd p 2), .int .u64 (wd p 3)]] w fun e w' => e = .returned (.int .i64 (cntN p 256)) ∧ Below w.heap.size w w' := by
  have h := len_core p w
  rw [cntW_eq] at h
  exact h
theorem ror_two (p q : Nat → Bool) (b : Nat) (w : World) (hb : b < w.heap.size)
    (h0 : w.cell? ⟨b, 0, none⟩ = some (.int .u64 (wd p 0))) (h1 : w.cell? ⟨b, 1, none⟩ = some (.int .u64 (wd p 1))) (h2 : w.cell? ⟨b, 2, none⟩ = some (.int .u64 (wd p 2))) (h3 : w.cell? ⟨b, 3, none⟩ = some (.int .u64 (wd p 3)))
    (h4 : w.cell? ⟨b, 4, none⟩ = some (.int .u64 (wd q 0))) (h5 : w.cell? ⟨b, 5, none⟩ = some (.int .u64 (wd q 1))) (h6 : w.cell? ⟨b, 6, none⟩ = some (.int .u64 (wd q 2))) (h7 : w.cell? ⟨b, 7, none⟩ = some (.int .u64 (wd q 3))) :
    Calls Try.prog 62 #[.slice (some ⟨b, 0, none⟩) 2 2] w fun e w' => e = .returned (.agg #[.int .u64 (wd (orP p q) 0), .int .u64 (wd (orP p q) 1), .int .u64 (wd (orP p q) 2), .int .u64 (wd (orP p q) 3)]) ∧ Below w.heap.size w w' := by
  have h := ror_any [p, q] (by simp) 2 (some ⟨b, 0, none⟩) w (.inr ⟨b, 0, rfl, hb, fun k hk => by
    rcases (show k = 0 ∨ k = 1 by simp at hk; omega) with rfl | rfl
    · exact ⟨h0, h1, h2, h3⟩
    · exact ⟨h4, h5, h6, h7⟩⟩)
  rw [show ([p, q] : List (Nat → Bool)).length = 2 from rfl, orN_two p q 0 (by omega), orN_two p q 1 (by omega), orN_two p q 2 (by omega), orN_two p q 3 (by omega)] at h
  exact h
end Go.Proofs.Ytlglncnhhgofoaa

/-
  The walks over what is used ahead of a place, behind it, at all, and what is useful there.
-/
namespace Go.Proofs.Ytlglncnhhgofoaa
open Go.RowKit Go.Maps Go.Shelf


/-- A result that is nothing yet, in a block of its own. -/
structure Zero4 (G : Nat) (V0 w : World) : Prop where
  low : Below G V0 w
  zer : w.heap[G]? = some (.cells #[.int .u64 0, .int .u64 0, .int .u64 0, .int .u64 0] ST4 (0, 0))
theorem Zero4.new {V0 : World} {G : Nat} (h : V0.heap.size = G) : Zero4 G V0 (V0.alloc (.cells #[.int .u64 0, .int .u64 0, .int .u64 0, .int .u64 0] ST4)) := by
  subst h
  exact ⟨(Below.refl _ _).alloc (Nat.le_refl _) _, heap_alloc_new V0 _⟩
theorem Zero4.drew {G : Nat} {V0 w : World} (h : Zero4 G V0 w) : Zero4 G V0 w.drew := ⟨h.low.drew, h.zer⟩
theorem Zero4.up {G : Nat} {V0 w w' : World} (h : Zero4 G V0 w) (hb : Below w.heap.size w w') : Zero4 G V0 w' :=
  ⟨h.low.trans (hb.mono (Nat.le_of_lt (lt_of_block h.zer))), kept_obj hb h.zer⟩
theorem Calls.upZ {P : Program} {f : FuncId} {args : Array Value} {G : Nat} {V0 w : World} {R : Ending → World → Prop} (h : Zero4 G V0 w) (c : Calls P f args w fun e w' => R e w' ∧ Below w.heap.size w w') : Calls P f args w fun e w' => R e w' ∧ Zero4 G V0 w' :=
  c.mono fun _ _ ⟨h1, h2⟩ => ⟨h1, h.up h2⟩
theorem enters_up (args : Array Value) (w : World) : (callFunc 99 args).run Try.prog w = .ok (.enter 99 args) w := enters_of Try.func99 (by kernel_rfl) rfl args w
theorem enters_down (args : Array Value) (w : World) : (callFunc 100 args).run Try.prog w = .ok (.enter 100 args) w := enters_of Try.func100 (by kernel_rfl) rfl args w
/-- The rows of the ticks from 0 on; of those below an end. -/
theorem grow_up {T : TV} (hT : l_Told T) (m : Nat) (hm : m ≤ 1073741824) (Be : Nat) (w : World) (hok : T.ok w) (hb : w.heap[Be]? = some (.cells #[.int .i64 (m : Int)] 2 (0, 0))) :
    Calls Try.prog 79 #[.agg #[.int .i64 T.id, .int .i64 T.c, .int .i64 T.d, .int .i64 T.t, .int .i64 T.p, .slice T.a1 T.ch.length T.c1, .slice T.a2 T.us.length T.c2], .func (.func 99) #[] #[.pointer (some ⟨Be, 0, none⟩)]] w (GrowBack T (upT m) w) :=
  growing_any hT hok (S := fun k => k = Be) (fun k hk => by subst hk; exact lt_of_block hb) (rising_tells Be m hm w hb) enters_up
theorem grow_down {T : TV} (hT : l_Told T) (C a : Nat) (hC : C ≤ 1073741824) (ha : a ≤ C) (Be Bf : Nat) (w : World) (hok : T.ok w) (hb : w.heap[Be]? = some (.cells #[.int .i64 (C : Int)] 2 (0, 0))) (hf : w.heap[Bf]? = some (.cells #[.int .i64 (a : Int)] 2 (0, 0))) :
    Calls Try.prog 79 #[.agg #[.int .i64 T.id, .int .i64 T.c, .int .i64 T.d, .int .i64 T.t, .int .i64 T.p, .slice T.a1 T.ch.length T.c1, .slice T.a2 T.us.length T.c2], .func (.func 100) #[] #[.pointer (some ⟨Be, 0, none⟩), .pointer (some ⟨Bf, 0, none⟩)]] w (GrowBack T (downT C (C - a)) w) :=
  growing_any hT hok (S := fun k => k = Be ∨ k = Bf) (fun k hk => by rcases hk with rfl | rfl; exact lt_of_block hb; exact lt_of_block hf) (falling_tells Be Bf C a hC ha w hb hf) enters_down
theorem last_rows {us : List Int} (h5 : us.length ≤ 64) (l : List Nat) {P : Nat → Bool} (hP : tkP us (l.take us.length) = P) (a : Option Addr) (c : Nat) (w : World) (h : SView w a (rowsOf us (l.take us.length))) :
    Calls Try.prog 98 #[.slice a (min l.length us.length + 1) c] w (SetBack P w) :=
  last_any _ P (min l.length us.length) (by rw [rows_len, List.length_take, Nat.min_comm]) (by rw [← hP, rows_at _ _ (by rw [List.length_take]; omega), List.take_of_length_le (by rw [List.length_take]; omega)]) (by omega) a c w h
theorem up_last (us : List Int) (m : Nat) : tkP us ((upT m).take us.length) = inP us 0 m := by
  rw [← up_all us m]
  congr 1
  rcases Nat.le_total us.length m with h | h
  · rw [upT_take m _ h, Nat.min_eq_right h]
  · rw [List.take_of_length_le (by rw [upT_len]; exact h), Nat.min_eq_left h]
theorem down_last (us : List Int) (C a : Nat) (ha : a ≤ C) : tkP us ((downT C (C - a)).take us.length) = inP us a C := by
  rw [← down_all us C a ha]
  congr 1
  rcases Nat.le_total us.length (C - a) with h | h
  · rw [downT_take C _ _ h, Nat.min_eq_right h]
  · rw [List.take_of_length_le (by rw [downT_len]; exact h), Nat.min_eq_left h]
theorem rising_box (m : Nat) (w : World) : Calls Try.prog 80 #[.int .i64 (m : Int)] w fun e w' => (∃ Be, e = .returned (.func (.func 99) #[] #[.pointer (some ⟨Be, 0, none⟩)]) ∧ w'.heap[Be]? = some (.cells #[.int .i64 (m : Int)] 2 (0, 0))) ∧ Below w.heap.size w w' :=
  (rising_any m w).mono fun e w' ⟨h1, h2⟩ => ⟨⟨_, h1, by rw [h2]; exact heap_alloc_new w _⟩, by rw [h2]; exact (Below.refl _ _).alloc (Nat.le_refl _) _⟩
theorem falling_box (C a : Nat) (w : World) : Calls Try.prog 81 #[.int .i64 (C : Int), .int .i64 (a : Int)] w fun e w' => (∃ Be Bf, e = .returned (.func (.func 100) #[] #[.pointer (some ⟨Be, 0, none⟩), .pointer (some ⟨Bf, 0, none⟩)]) ∧ w'.heap[Be]? = some (.cells #[.int .i64 (C : Int)] 2 (0, 0)) ∧ w'.heap[Bf]? = some (.cells #[.int .i64 (a : Int)] 2 (0, 0))) ∧ Below w.heap.size w w' :=
  (falling_any C a w).mono fun e w' ⟨h1, h2⟩ => ⟨⟨_, _, h1, by rw [h2]; exact (two_boxes w rfl _ _).1, by rw [h2]; exact (two_boxes w rfl _ _).2⟩, by rw [h2]; exact (by repeat (first | exact Below.refl _ _ | (with_reducible assumption) | refine bw_alloc ?_ _ | refine bw_drew ?_))⟩

set_option maxRecDepth 100000 in
set_option maxHeartbeats 8000000 in
theorem before_any (T : TV) (hT : l_Told T) (C p : Nat) (hC : T.c = (C : Int)) (w : World) (hok : T.ok w) : Calls Try.prog 96 #[.agg #[.int .i64 T.id, .int .i64 T.c, .int .i64 T.d, .int .i64 T.t, .int .i64 T.p, .slice T.a1 T.ch.length T.c1, .slice T.a2 T.us.length T.c2], .int .i64 (p : Int)] w (SetBack (inP T.us 0 (min p C)) w) := by
  have hC24 : C ≤ 1073741824 := by have := hT.c30; omega
  have PC := Lib.hid (fun w => place_any T hT C p hC w)
  obtain ⟨q, hq⟩ : ∃ q, min p C = q := ⟨_, rfl⟩
  have hq24 : q ≤ 1073741824 := by omega
  rw [hq] at PC ⊢
  have RC := Lib.hid (fun w => rising_box q w)
  have GC := Lib.hid (fun Be v (hb : Below w.heap.size w v) => grow_up hT q hq24 Be v (hok.below hb))
  obtain ⟨P, hP⟩ : ∃ P, inP T.us 0 q = P := ⟨_, rfl⟩
  have LC := Lib.hid (fun a c v => last_rows hT.n64 (upT q) ((up_last T.us q).trans hP) a c v)
  rw [hP]
  clear hT hok hP hq hC hC24 hq24
  go_enter Try.func96, Try.ntmps96
  go_upto_region 1 with fail
  obtain ⟨V0, hV0⟩ : ∃ V0, w.alloc (.cells #[.int .i64 T.id, .int .i64 T.c, .int .i64 T.d, .int .i64 T.t, .int .i64 T.p, .slice T.a1 T.ch.length T.c1, .slice T.a2 T.us.length T.c2] TT) = V0 := ⟨_, rfl⟩
  have hG : V0.heap.size = w.heap.size + 1 := by rw [← hV0, World.size_alloc]
  have HT0 : Hid (V0.heap[w.heap.size]? = some (.cells #[.int .i64 T.id, .int .i64 T.c, .int .i64 T.d, .int .i64 T.t, .int .i64 T.p, .slice T.a1 T.ch.length T.c1, .slice T.a2 T.us.length T.c2] TT (0, 0))) := by rw [← hV0]; exact heap_alloc_new w _
  have HLW : Hid (Below w.heap.size w V0) := by rw [← hV0]; exact (Below.refl _ _).alloc (Nat.le_refl _) _
  rw [hV0]
  refine gen_world (Zero4 (w.heap.size + 1) V0) (Zero4.new hG) ?_
  intro V kx
  clear hV0 hG
  have HZ := Lib.hid kx
  have MK : Hid (∀ w', Below (w.heap.size + 1) V0 w' → (w'.cell? ⟨w.heap.size, 0, none⟩ = some (.int .i64 T.id) ∧ w'.cell? ⟨w.heap.size, 1, none⟩ = some (.int .i64 T.c) ∧ w'.cell? ⟨w.heap.size, 2, none⟩ = some (.int .i64 T.d) ∧ w'.cell? ⟨w.heap.size, 3, none⟩ = some (.int .i64 T.t) ∧ w'.cell? ⟨w.heap.size, 4, none⟩ = some (.int .i64 T.p) ∧ w'.cell? ⟨w.heap.size, 5, none⟩ = some (.slice T.a1 T.ch.length T.c1) ∧ w'.cell? ⟨w.heap.size, 6, none⟩ = some (.slice T.a2 T.us.length T.c2))) := fun w' hb => by
    have x := kept_objB hb (Nat.lt_succ_self _) HT0.out
    exact ⟨by rw [blk_cell x]; rfl, by rw [blk_cell x]; rfl, by rw [blk_cell x]; rfl, by rw [blk_cell x]; rfl, by rw [blk_cell x]; rfl, by rw [blk_cell x]; rfl, by rw [blk_cell x]; rfl⟩
  go_region_held3 (fun w' => w'.cell? ⟨w.heap.size, 0, none⟩ = some (.int .i64 T.id) ∧ w'.cell? ⟨w.heap.size, 1, none⟩ = some (.int .i64 T.c) ∧ w'.cell? ⟨w.heap.size, 2, none⟩ = some (.int .i64 T.d) ∧ w'.cell? ⟨w.heap.size, 3, none⟩ = some (.int .i64 T.t) ∧ w'.cell? ⟨w.heap.size, 4, none⟩ = some (.int .i64 T.p) ∧ w'.cell? ⟨w.heap.size, 5, none⟩ = some (.slice T.a1 T.ch.length T.c1) ∧ w'.cell? ⟨w.heap.size, 6, none⟩ = some (.slice T.a2 T.us.length T.c2)) (exact MK.out _ (by repeat (first | exact Zero4.low (by with_reducible assumption) | refine Below.drew ?_ | refine Below.setCell ?_ (by exact Nat.le_refl _) _))) (first | (go_at_call 102; (with_reducible refine (Calls.upZ (by first | (with_reducible assumption) | exact Zero4.drew (by with_reducible assumption)) (PC.out _)).mono ?_); rintro e wx ⟨rfl, kx⟩) | (go_at_call 80; (with_reducible refine (Calls.upZ (by first | (with_reducible assumption) | exact Zero4.drew (by with_reducible assumption)) (RC.out _)).mono ?_); rintro e wx ⟨⟨Be, rfl, hb⟩, kx⟩; have HB := Lib.hid hb; clear hb) | (go_at_call 79; (with_reducible refine (Calls.upZ (by first | (with_reducible assumption) | exact Zero4.drew (by with_reducible assumption)) (GC.out _ _ (HLW.out.trans (kx.low.mono (Nat.le_succ _))) HB.out)).mono ?_); rintro e wx ⟨⟨a, c, rfl, hr⟩, kx⟩; have HR := Lib.hid hr; clear hr) | (go_at_call 98; (with_reducible refine (Calls.upZ (by first | (with_reducible assumption) | exact Zero4.drew (by with_reducible assumption)) (LC.out _ _ _ HR.out)).mono ?_); rintro e wx ⟨rfl, kx⟩; have z0 : wx.cell? ⟨w.heap.size + 1, 0, none⟩ = some (.int .u64 0) := (by rw [blk_cell kx.zer]; rfl); have z1 : wx.cell? ⟨w.heap.size + 1, 1, none⟩ = some (.int .u64 0) := (by rw [blk_cell kx.zer]; rfl); have z2 : wx.cell? ⟨w.heap.size + 1, 2, none⟩ = some (.int .u64 0) := (by rw [blk_cell kx.zer]; rfl); have z3 : wx.cell? ⟨w.heap.size + 1, 3, none⟩ = some (.int .u64 0) := (by rw [blk_cell kx.zer]; rfl); have f0 := blk_free kx.zer 0; have f1 := blk_free kx.zer 1; have f2 := blk_free kx.zer 2; have f3 := blk_free kx.zer 3))
  all_goals
    go_wp2_with fail
    have hz := Blk4.set (show Blk4 wx (w.heap.size + 1) 0 0 0 0 from kx.zer) (wd P 0) (wd P 1) (wd P 2) (wd P 3)
    obtain ⟨y0, y1, y2, y3⟩ := hz.cells
    refine bodyPost_ret (v := .agg #[.int .u64 (wd P 0), .int .u64 (wd P 1), .int .u64 (wd P 2), .int .u64 (wd P 3)]) ?_ rfl ⟨rfl, ?_⟩
    · simp [results, Try.results96, go_sem, y0, y1, y2, y3]
    · exact HLW.out.trans ((Below.setCell (p := ⟨w.heap.size + 1, 3, none⟩) (Below.setCell (p := ⟨w.heap.size + 1, 2, none⟩) (Below.setCell (p := ⟨w.heap.size + 1, 1, none⟩) (Below.setCell (p := ⟨w.heap.size + 1, 0, none⟩) kx.low (Nat.le_refl _) _) (Nat.le_refl _) _) (Nat.le_refl _) _) (Nat.le_refl _) _).mono (Nat.le_succ _))

set_option maxRecDepth 100000 in
set_option maxHeartbeats 4000000 in
theorem used_any (T : TV) (hT : l_Told T) (C : Nat) (hC : T.c = (C : Int)) (w : World) (hok : T.ok w) : Calls Try.prog 77 #[.agg #[.int .i64 T.id, .int .i64 T.c, .int .i64 T.d, .int .i64 T.t, .int .i64 T.p, .slice T.a1 T.ch.length T.c1, .slice T.a2 T.us.length T.c2]] w (SetBack (inP T.us 0 C) w) := by
  have BC := Lib.hid (fun v (hb : Below w.heap.size w v) => before_any T hT C C hC v (hok.below hb))
  rw [Nat.min_self, ← hC] at BC
  unfold SetBack at BC
  generalize inP T.us 0 C = P at *
  clear hT hok hC
  go_enter Try.func77, Try.ntmps77
  go_upto_region 1 with fail
  obtain ⟨V0, hV0⟩ : ∃ V0, w.alloc (.cells #[.int .i64 T.id, .int .i64 T.c, .int .i64 T.d, .int .i64 T.t, .int .i64 T.p, .slice T.a1 T.ch.length T.c1, .slice T.a2 T.us.length T.c2] TT) = V0 := ⟨_, rfl⟩
  have hG : V0.heap.size = w.heap.size + 1 := by rw [← hV0, World.size_alloc]
  have HT0 : Hid (V0.heap[w.heap.size]? = some (.cells #[.int .i64 T.id, .int .i64 T.c, .int .i64 T.d, .int .i64 T.t, .int .i64 T.p, .slice T.a1 T.ch.length T.c1, .slice T.a2 T.us.length T.c2] TT (0, 0))) := by rw [← hV0]; exact heap_alloc_new w _
  have HLW : Hid (Below w.heap.size w V0) := by rw [← hV0]; exact (Below.refl _ _).alloc (Nat.le_refl _) _
  rw [hV0]
  refine gen_world (Zero4 (w.heap.size + 1) V0) (Zero4.new hG) ?_
  intro V kx
  clear hV0 hG
  have HZ := Lib.hid kx
  have MK : Hid (∀ w', Below (w.heap.size + 1) V0 w' → (w'.cell? ⟨w.heap.size, 0, none⟩ = some (.int .i64 T.id) ∧ w'.cell? ⟨w.heap.size, 1, none⟩ = some (.int .i64 T.c) ∧ w'.cell? ⟨w.heap.size, 2, none⟩ = some (.int .i64 T.d) ∧ w'.cell? ⟨w.heap.size, 3, none⟩ = some (.int .i64 T.t) ∧ w'.cell? ⟨w.heap.size, 4, none⟩ = some (.int .i64 T.p) ∧ w'.cell? ⟨w.heap.size, 5, none⟩ = some (.slice T.a1 T.ch.length T.c1) ∧ w'.cell? ⟨w.heap.size, 6, none⟩ = some (.slice T.a2 T.us.length T.c2))) := fun w' hb => by
    have x := kept_objB hb (Nat.lt_succ_self _) HT0.out
    exact ⟨by rw [blk_cell x]; rfl, by rw [blk_cell x]; rfl, by rw [blk_cell x]; rfl, by rw [blk_cell x]; rfl, by rw [blk_cell x]; rfl, by rw [blk_cell x]; rfl, by rw [blk_cell x]; rfl⟩
  obtain ⟨t0, t1, t2, t3, t4, t5, t6⟩ := MK.out _ HZ.out.low
  go_wp2_with (go_at_call 96; (with_reducible refine (Calls.upZ (by first | (with_reducible assumption) | exact Zero4.drew (by with_reducible assumption)) (BC.out _ (HLW.out.trans (kx.low.mono (Nat.le_succ _))))).mono ?_); rintro e wx ⟨rfl, kx⟩; have z0 : wx.cell? ⟨w.heap.size + 1, 0, none⟩ = some (.int .u64 0) := (by rw [blk_cell kx.zer]; rfl); have z1 : wx.cell? ⟨w.heap.size + 1, 1, none⟩ = some (.int .u64 0) := (by rw [blk_cell kx.zer]; rfl); have z2 : wx.cell? ⟨w.heap.size + 1, 2, none⟩ = some (.int .u64 0) := (by rw [blk_cell kx.zer]; rfl); have z3 : wx.cell? ⟨w.heap.size + 1, 3, none⟩ = some (.int .u64 0) := (by rw [blk_cell kx.zer]; rfl); have f0 := blk_free kx.zer 0; have f1 := blk_free kx.zer 1; have f2 := blk_free kx.zer 2; have f3 := blk_free kx.zer 3)
  all_goals
    have hz := Blk4.set (show Blk4 wx (w.heap.size + 1) 0 0 0 0 from kx.zer) (wd P 0) (wd P 1) (wd P 2) (wd P 3)
    obtain ⟨y0, y1, y2, y3⟩ := hz.cells
    refine bodyPost_ret (v := .agg #[.int .u64 (wd P 0), .int .u64 (wd P 1), .int .u64 (wd P 2), .int .u64 (wd P 3)]) ?_ rfl ⟨rfl, ?_⟩
    · simp [results, Try.results77, go_sem, y0, y1, y2, y3]
    · exact HLW.out.trans ((Below.setCell (p := ⟨w.heap.size + 1, 3, none⟩) (Below.setCell (p := ⟨w.heap.size + 1, 2, none⟩) (Below.setCell (p := ⟨w.heap.size + 1, 1, none⟩) (Below.setCell (p := ⟨w.heap.size + 1, 0, none⟩) kx.low (Nat.le_refl _) _) (Nat.le_refl _) _) (Nat.le_refl _) _) (Nat.le_refl _) _).mono (Nat.le_succ _))
end Go.Proofs.Ytlglncnhhgofoaa

/-
  The walk over the most sets that are useful at a place.
-/
namespace Go.Proofs.Ytlglncnhhgofoaa
open Go.RowKit Go.Maps Go.Shelf
attribute [-go_sem] run_min_int2

/-- The boxes of the search: the task, the other sets. -/
structure MostAt (w : World) (T : TV) (o : Nat → Nat) (V : World) : Prop where
  low : Below w.heap.size w V
  tb : V.heap[w.heap.size]? = some (.cells #[.int .i64 T.id, .int .i64 T.c, .int .i64 T.d, .int .i64 T.t, .int .i64 T.p, .slice T.a1 T.ch.length T.c1, .slice T.a2 T.us.length T.c2] TT (0, 0))
  ob : V.heap[w.heap.size + 1]? = some (.cells #[.int .u64 (o 0), .int .u64 (o 1), .int .u64 (o 2), .int .u64 (o 3)] ST4 (0, 0))
theorem MostAt.below {w V V' : World} {T : TV} {o : Nat → Nat} (h : MostAt w T o V) (hb : Below V.heap.size V V') : MostAt w T o V' := ⟨below_up h.low hb, kept_obj hb h.tb, kept_obj hb h.ob⟩
theorem MostAt.drew {w V : World} {T : TV} {o : Nat → Nat} (h : MostAt w T o V) : MostAt w T o V.drew := ⟨bw_drew h.low, h.tb, h.ob⟩
theorem Calls.upV {P : Program} {f : FuncId} {args : Array Value} {V w : World} {R : Ending → World → Prop} (h : Below V.heap.size V w) (c : Calls P f args w fun e w' => R e w' ∧ Below w.heap.size w w') : Calls P f args w fun e w' => R e w' ∧ Below w.heap.size w w' ∧ Below V.heap.size V w' :=
  c.mono fun _ _ ⟨h1, h2⟩ => ⟨h1, h2, below_up h h2⟩
theorem best_step (f : Nat → Nat) {p : Nat} (h : 1 ≤ p) : best f p = if (best f (p - 1)).1 < f p then (f p, p) else best f (p - 1) := by
  obtain ⟨k, rfl⟩ : ∃ k, p = k + 1 := ⟨p - 1, by omega⟩
  rfl
theorem ahead_at (us : List Int) {C p : Nat} (h : p ≤ us.length) (hC : p ≤ C) : (rowsOf us ((upT C).take us.length))[p]? = some (inP us 0 p) := by
  rw [rows_at _ _ (by rw [List.length_take, upT_len]; omega), List.take_take, Nat.min_eq_left h, upT_take _ _ hC, ← up_all us p, Nat.min_eq_left h]
theorem left_at (us : List Int) {C p : Nat} (h : p ≤ C) : (rowsOf us ((downT C C).take us.length))[min (C - p) us.length]? = some (inP us p C) := by
  rw [rows_at _ _ (by rw [List.length_take, downT_len]; omega), List.take_take, Nat.min_eq_left (Nat.min_le_right _ _), downT_take _ _ _ (by omega), down_all us C p h]

set_option maxRecDepth 100000 in
set_option maxHeartbeats 16000000 in
theorem most_any (T : TV) (hT : l_Told T) (C : Nat) (hC : T.c = (C : Int)) (w : World) (hok : T.ok w) (O : Nat → Bool) :
    Calls Try.prog 58 #[.agg #[.int .i64 T.id, .int .i64 T.c, .int .i64 T.d, .int .i64 T.t, .int .i64 T.p, .slice T.a1 T.ch.length T.c1, .slice T.a2 T.us.length T.c2], .agg #[.int .u64 (wd O 0), .int .u64 (wd O 1), .int .u64 (wd O 2), .int .u64 (wd O 3)]] w fun e w' => e = .returned (.tuple #[.int .i64 ((mostOf T.us C O).1 : Nat), .int .i64 ((mostOf T.us C O).2 : Nat)]) ∧ Below w.heap.size w w' := by
  have hC24 : C ≤ 1073741824 := by have := hT.c30; omega
  have hC1 : 1 ≤ C := by have := hT.c1; omega
  have hn5 := hT.n64
  have TC := Lib.hid (fun w => told_any T hT w)
  have NC := Lib.hid (fun w => round_any T hT w)
  have UC := Lib.hid (fun w => rising_box C w)
  have DC := Lib.hid (fun w => falling_box C 0 w)
  rw [← hC] at UC DC
  have G1 := Lib.hid (fun Be v (hb : Below w.heap.size w v) => grow_up hT C hC24 Be v (hok.below hb))
  have G2 := Lib.hid (fun Be Bf v (hb : Below w.heap.size w v) => grow_down hT C 0 hC24 (Nat.zero_le _) Be Bf v (hok.below hb))
  rw [← hC] at G1 G2
  rw [Nat.sub_zero] at G2
  rw [show (((0 : Nat)) : Int) = 0 from rfl] at DC G2
  obtain ⟨o, ho⟩ : ∃ o, wd O = o := ⟨_, rfl⟩
  have HO := Lib.hid ho
  rw [ho]
  have HC := Lib.hid hC
  clear hT hok ho hC
  go_enter Try.func58, Try.ntmps58
  go_upto_region 1 with fail
  refine gen_world (MostAt w T o) ⟨(by repeat (first | exact Below.refl _ _ | (with_reducible assumption) | refine bw_alloc ?_ _ | refine bw_drew ?_)), (two_boxes w rfl _ _).1, (two_boxes w rfl _ _).2⟩ ?_
  intro V1 k1
  have c0 : V1.cell? ⟨w.heap.size, 0, none⟩ = some (.int .i64 T.id) := by rw [blk_cell k1.tb]; rfl
  have c1 : V1.cell? ⟨w.heap.size, 1, none⟩ = some (.int .i64 T.c) := by rw [blk_cell k1.tb]; rfl
  have c2 : V1.cell? ⟨w.heap.size, 2, none⟩ = some (.int .i64 T.d) := by rw [blk_cell k1.tb]; rfl
  have c3 : V1.cell? ⟨w.heap.size, 3, none⟩ = some (.int .i64 T.t) := by rw [blk_cell k1.tb]; rfl
  have c4 : V1.cell? ⟨w.heap.size, 4, none⟩ = some (.int .i64 T.p) := by rw [blk_cell k1.tb]; rfl
  have c5 : V1.cell? ⟨w.heap.size, 5, none⟩ = some (.slice T.a1 T.ch.length T.c1) := by rw [blk_cell k1.tb]; rfl
  have c6 : V1.cell? ⟨w.heap.size, 6, none⟩ = some (.slice T.a2 T.us.length T.c2) := by rw [blk_cell k1.tb]; rfl
  go_upto_region 4 with (go_at_call 78; (with_reducible refine (TC.out _).mono ?_); rintro e w1 ⟨rfl, b1⟩; have kx := k1.below b1)
  clear c0 c1 c2 c3 c4 c5 c6 k1 TC
  refine gen_world (MostAt w T o) kx ?_
  clear kx
  intro V kx
  have MK : Hid (∀ w', MostAt w T o w' → (w'.cell? ⟨w.heap.size, 0, none⟩ = some (.int .i64 T.id) ∧ w'.cell? ⟨w.heap.size, 1, none⟩ = some (.int .i64 T.c) ∧ w'.cell? ⟨w.heap.size, 2, none⟩ = some (.int .i64 T.d) ∧ w'.cell? ⟨w.heap.size, 3, none⟩ = some (.int .i64 T.t) ∧ w'.cell? ⟨w.heap.size, 4, none⟩ = some (.int .i64 T.p) ∧ w'.cell? ⟨w.heap.size, 5, none⟩ = some (.slice T.a1 T.ch.length T.c1) ∧ w'.cell? ⟨w.heap.size, 6, none⟩ = some (.slice T.a2 T.us.length T.c2))) := fun w' hb => by
    exact ⟨by rw [blk_cell hb.tb]; rfl, by rw [blk_cell hb.tb]; rfl, by rw [blk_cell hb.tb]; rfl, by rw [blk_cell hb.tb]; rfl, by rw [blk_cell hb.tb]; rfl, by rw [blk_cell hb.tb]; rfl, by rw [blk_cell hb.tb]; rfl⟩
  obtain ⟨L1, hL1⟩ : ∃ L1, min (upT C).length T.us.length + 1 = L1 := ⟨_, rfl⟩
  obtain ⟨L2, hL2⟩ : ∃ L2, min (downT C C).length T.us.length + 1 = L2 := ⟨_, rfl⟩
  have HL1 := Lib.hid hL1
  have HL2 := Lib.hid hL2
  unfold GrowBack at G1 G2
  rw [hL1] at G1
  rw [hL2] at G2
  clear hL1 hL2
  go_cut [8, 9] from 16 to 25 (fun u v wx => ∃ a1 c1 a2 c2, u = .slice a1 L1 c1 ∧ v = .slice a2 L2 c2 ∧ Hid (MostAt w T o wx) ∧ Hid (SView wx a1 (rowsOf T.us ((upT C).take T.us.length))) ∧ Hid (SView wx a2 (rowsOf T.us ((downT C C).take T.us.length))))
  case first =>
    go_region_held3 (fun w' => w'.cell? ⟨w.heap.size, 0, none⟩ = some (.int .i64 T.id) ∧ w'.cell? ⟨w.heap.size, 1, none⟩ = some (.int .i64 T.c) ∧ w'.cell? ⟨w.heap.size, 2, none⟩ = some (.int .i64 T.d) ∧ w'.cell? ⟨w.heap.size, 3, none⟩ = some (.int .i64 T.t) ∧ w'.cell? ⟨w.heap.size, 4, none⟩ = some (.int .i64 T.p) ∧ w'.cell? ⟨w.heap.size, 5, none⟩ = some (.slice T.a1 T.ch.length T.c1) ∧ w'.cell? ⟨w.heap.size, 6, none⟩ = some (.slice T.a2 T.us.length T.c2)) (exact MK.out _ (by first | (with_reducible assumption) | exact MostAt.drew (by with_reducible assumption))) (first
      | (go_at_call 80; (with_reducible refine (UC.out _).mono ?_); rintro e wx ⟨⟨Be, rfl, hb⟩, bx⟩; have HB := Lib.hid hb; have kx := (by first | exact MostAt.below kx bx | exact MostAt.below (MostAt.drew kx) bx : MostAt w T o wx); clear hb bx)
      | (go_at_call 79; (with_reducible refine (G1.out _ _ kx.low HB.out).mono ?_); rintro e wx ⟨⟨a1, c1, rfl, hr⟩, bx⟩; have HR1 := Lib.hid hr; have kx := (by first | exact MostAt.below kx bx | exact MostAt.below (MostAt.drew kx) bx : MostAt w T o wx); clear hr bx)
      | (go_at_call 81; (with_reducible refine (DC.out _).mono ?_); rintro e wx ⟨⟨Bg, Bf, rfl, hg, hf⟩, bx⟩; have HG := Lib.hid hg; have HF := Lib.hid hf; have HR1 := Lib.hid (HR1.out.below bx); have kx := (by first | exact MostAt.below kx bx | exact MostAt.below (MostAt.drew kx) bx : MostAt w T o wx); clear hg hf bx)
      | (go_at_call 79; (with_reducible refine (G2.out _ _ _ kx.low HG.out HF.out).mono ?_); rintro e wx ⟨⟨a2, c2, rfl, hr⟩, bx⟩; have HR2 := Lib.hid hr; have HR1 := Lib.hid (HR1.out.below bx); have kx := (by first | exact MostAt.below kx bx | exact MostAt.below (MostAt.drew kx) bx : MostAt w T o wx); clear hr bx))
    all_goals
      go_wp2_with fail
      go_meet
      exact ⟨_, _, _, _, rfl, rfl, kx, HR1, HR2⟩
  case rest =>
    obtain ⟨a1, c1, a2, c2, rfl, rfl, H1, HR1, HR2⟩ := hcut
    have hK1 : min (C - 1) T.us.length ≤ 64 := by omega
    go_wp2
    go_loopw [6, 7, 10] (fun m a p wr => ∃ (P : Nat), 1 ≤ P ∧ P ≤ min (C - 1) T.us.length + 1 ∧ p = .int .i64 (P : Int) ∧ m = .int .i64 ((best (usefulN T.us C O) (P - 1)).1 : Nat) ∧ a = .int .i64 ((best (usefulN T.us C O) (P - 1)).2 : Nat) ∧ Hid (MostAt w T o wr) ∧ Hid (SView wr a1 (rowsOf T.us ((upT C).take T.us.length))) ∧ Hid (SView wr a2 (rowsOf T.us ((downT C C).take T.us.length)))) (fun _ _ p _ => ((T.us.length : Int) + 2 - intOf p).toNat)
    case atStart => exact ⟨1, by omega, by omega, rfl, rfl, rfl, H1, HR1, HR2⟩
    case round =>
      obtain ⟨P, hP1, hPK, rfl, rfl, rfl, HM, HS1, HS2⟩ := hrel
      clear H1 HR1 HR2
      by_cases hA : P ≤ min (C - 1) T.us.length
      · have hPC : P < C := by omega
        have hPN : P ≤ T.us.length := by omega
        have q1 : (P : Int) < T.c := by have := HC.out; omega
        have q2 : (P : Int) ≤ (T.us.length : Int) := by omega
        obtain ⟨D, hD⟩ : ∃ D, D = C - P := ⟨_, rfl⟩
        obtain ⟨J, hJ⟩ : ∃ J, J = min (C - P) T.us.length := ⟨_, rfl⟩
        have q3 : IntKind.i64.wrap (T.c - (P : Int)) = (D : Int) := by rw [show T.c - (P : Int) = (D : Int) by have := HC.out; omega]; exact IntWalk.i64_in _ (by omega)
        have q4 : (P : Int) < (L1 : Int) := by have := HL1.out; rw [upT_len] at this; omega
        have q5 : (J : Int) < (L2 : Int) := by have := HL2.out; rw [downT_len] at this; omega
        have q6 : (0 : Int) ≤ (P : Int) := by omega
        have q7 : (0 : Int) ≤ (J : Int) := by omega
        have q8 : IntKind.i64.wrap ((P : Int) + 1) = (P : Int) + 1 := IntWalk.i64_in _ (by omega)
        obtain ⟨g1, o1, rfl, sa⟩ := HS1.out.at_ (ahead_at T.us hPN (Nat.le_of_lt hPC))
        obtain ⟨g2, o2, rfl, sb⟩ := HS2.out.at_ (left_at T.us (C := C) (p := P) (Nat.le_of_lt hPC))
        rw [← hJ] at sb
        have AC := Lib.hid (fun w => and_any (inP T.us 0 P) (inP T.us P C) w)
        have AO := Lib.hid (fun w => and_any (andP (inP T.us 0 P) (inP T.us P C)) O w)
        have LO := Lib.hid (fun w => len_any (andP (andP (inP T.us 0 P) (inP T.us P C)) O) w)
        rw [show cntN (andP (andP (inP T.us 0 P) (inP T.us P C)) O) 256 = usefulN T.us C O P from rfl] at LO
        rw [HO.out] at AO
        obtain ⟨A, hAe⟩ : ∃ A, wd (inP T.us 0 P) = A := ⟨_, rfl⟩
        obtain ⟨B, hBe⟩ : ∃ B, wd (inP T.us P C) = B := ⟨_, rfl⟩
        obtain ⟨U, hUe⟩ : ∃ U, wd (andP (inP T.us 0 P) (inP T.us P C)) = U := ⟨_, rfl⟩
        obtain ⟨X, hXe⟩ : ∃ X, wd (andP (andP (inP T.us 0 P) (inP T.us P C)) O) = X := ⟨_, rfl⟩
        rw [hAe, hBe, hUe] at AC
        rw [hUe, hXe] at AO
        rw [hXe] at LO
        have MS : Hid (∀ w', Below wr.heap.size wr w' → (w'.cell? ⟨w.heap.size, 0, none⟩ = some (.int .i64 T.id) ∧ w'.cell? ⟨w.heap.size, 1, none⟩ = some (.int .i64 T.c) ∧ w'.cell? ⟨w.heap.size, 2, none⟩ = some (.int .i64 T.d) ∧ w'.cell? ⟨w.heap.size, 3, none⟩ = some (.int .i64 T.t) ∧ w'.cell? ⟨w.heap.size, 4, none⟩ = some (.int .i64 T.p) ∧ w'.cell? ⟨w.heap.size, 5, none⟩ = some (.slice T.a1 T.ch.length T.c1) ∧ w'.cell? ⟨w.heap.size, 6, none⟩ = some (.slice T.a2 T.us.length T.c2) ∧ w'.cell? ⟨g1, o1 + P * 4, none⟩ = some (.int .u64 (A 0)) ∧ w'.cell? ⟨g1, o1 + P * 4 + 1, none⟩ = some (.int .u64 (A 1)) ∧ w'.cell? ⟨g1, o1 + P * 4 + 2, none⟩ = some (.int .u64 (A 2)) ∧ w'.cell? ⟨g1, o1 + P * 4 + 3, none⟩ = some (.int .u64 (A 3)) ∧ w'.cell? ⟨g2, o2 + J * 4, none⟩ = some (.int .u64 (B 0)) ∧ w'.cell? ⟨g2, o2 + J * 4 + 1, none⟩ = some (.int .u64 (B 1)) ∧ w'.cell? ⟨g2, o2 + J * 4 + 2, none⟩ = some (.int .u64 (B 2)) ∧ w'.cell? ⟨g2, o2 + J * 4 + 3, none⟩ = some (.int .u64 (B 3)))) := fun w' hb => by
          have hm := HM.out.below hb
          obtain ⟨x0, x1, x2, x3⟩ := sa.below hb
          obtain ⟨y0, y1, y2, y3⟩ := sb.below hb
          rw [hAe] at x0 x1 x2 x3
          rw [hBe] at y0 y1 y2 y3
          exact ⟨by rw [blk_cell hm.tb]; rfl, by rw [blk_cell hm.tb]; rfl, by rw [blk_cell hm.tb]; rfl, by rw [blk_cell hm.tb]; rfl, by rw [blk_cell hm.tb]; rfl, by rw [blk_cell hm.tb]; rfl, by rw [blk_cell hm.tb]; rfl, x0, x1, x2, x3, y0, y1, y2, y3⟩
        clear hAe hBe hUe hXe sa sb
        have bb := Below.refl wr.heap.size wr
        have c0 : wr.cell? ⟨w.heap.size, 0, none⟩ = some (.int .i64 T.id) := by rw [blk_cell HM.out.tb]; rfl
        have c1 : wr.cell? ⟨w.heap.size, 1, none⟩ = some (.int .i64 T.c) := by rw [blk_cell HM.out.tb]; rfl
        have c2 : wr.cell? ⟨w.heap.size, 2, none⟩ = some (.int .i64 T.d) := by rw [blk_cell HM.out.tb]; rfl
        have c3 : wr.cell? ⟨w.heap.size, 3, none⟩ = some (.int .i64 T.t) := by rw [blk_cell HM.out.tb]; rfl
        have c4 : wr.cell? ⟨w.heap.size, 4, none⟩ = some (.int .i64 T.p) := by rw [blk_cell HM.out.tb]; rfl
        have c5 : wr.cell? ⟨w.heap.size, 5, none⟩ = some (.slice T.a1 T.ch.length T.c1) := by rw [blk_cell HM.out.tb]; rfl
        have c6 : wr.cell? ⟨w.heap.size, 6, none⟩ = some (.slice T.a2 T.us.length T.c2) := by rw [blk_cell HM.out.tb]; rfl
        go_upto_region 8 with (go_at_call 82; (with_reducible refine (NC.out _).mono ?_); rintro e w3 ⟨rfl, b3⟩)
        have bV := b3
        clear b3 c0 c1 c2 c3 c4 c5 c6 q1 q2
        refine gen_world (fun v => Below wr.heap.size wr v) bV ?_
        clear bV
        intro V bV
        go_cut [11] from 38 to 52 (fun u wx => ∃ gx : Nat, u = .pointer (some ⟨gx, 0, none⟩) ∧ Hid (wx.heap[gx]? = some (.cells #[.int .u64 (U 0), .int .u64 (U 1), .int .u64 (U 2), .int .u64 (U 3)] ST4 (0, 0))) ∧ Hid (Below wr.heap.size wr wx))
        case first =>
          by_cases q9 : (T.us.length : Int) < (D : Int)
          · obtain rfl : J = T.us.length := by omega
            have mn : ∀ (ts : Array TypeId) (t : TypeId) (w : World), (Builtin.min_ ts t #[.int .i64 (D : Int), .int .i64 (T.us.length : Int)]).run Try.prog w = .ok (.int .i64 (T.us.length : Int)) w := fun ts t w => by rw [run_min_int2, if_pos q9]
            clear hJ hD q9
            go_region_held3 (fun w' => w'.cell? ⟨w.heap.size, 0, none⟩ = some (.int .i64 T.id) ∧ w'.cell? ⟨w.heap.size, 1, none⟩ = some (.int .i64 T.c) ∧ w'.cell? ⟨w.heap.size, 2, none⟩ = some (.int .i64 T.d) ∧ w'.cell? ⟨w.heap.size, 3, none⟩ = some (.int .i64 T.t) ∧ w'.cell? ⟨w.heap.size, 4, none⟩ = some (.int .i64 T.p) ∧ w'.cell? ⟨w.heap.size, 5, none⟩ = some (.slice T.a1 T.ch.length T.c1) ∧ w'.cell? ⟨w.heap.size, 6, none⟩ = some (.slice T.a2 T.us.length T.c2) ∧ w'.cell? ⟨g1, o1 + P * 4, none⟩ = some (.int .u64 (A 0)) ∧ w'.cell? ⟨g1, o1 + P * 4 + 1, none⟩ = some (.int .u64 (A 1)) ∧ w'.cell? ⟨g1, o1 + P * 4 + 2, none⟩ = some (.int .u64 (A 2)) ∧ w'.cell? ⟨g1, o1 + P * 4 + 3, none⟩ = some (.int .u64 (A 3)) ∧ w'.cell? ⟨g2, o2 + T.us.length * 4, none⟩ = some (.int .u64 (B 0)) ∧ w'.cell? ⟨g2, o2 + T.us.length * 4 + 1, none⟩ = some (.int .u64 (B 1)) ∧ w'.cell? ⟨g2, o2 + T.us.length * 4 + 2, none⟩ = some (.int .u64 (B 2)) ∧ w'.cell? ⟨g2, o2 + T.us.length * 4 + 3, none⟩ = some (.int .u64 (B 3))) (exact MS.out _ (by repeat (first | (with_reducible assumption) | refine Below.drew ?_ | refine bw_alloc ?_ _ | refine Below.setCell ?_ (by first | exact bV.size | (show _ ≤ _; omega)) _))) (first
              | (go_at_call 82; (with_reducible refine (Calls.upV (V := wr) (by repeat (first | exact Below.refl _ _ | (with_reducible assumption) | refine bw_alloc ?_ _ | refine bw_drew ?_)) (NC.out _)).mono ?_); rintro e wx ⟨rfl, by0, bx⟩; have sx := bx.size; (try (have hq : wx.heap[V.heap.size]? = some (.cells #[.int .u64 0, .int .u64 0, .int .u64 0, .int .u64 0] ST4 (0, 0)) := kept_obj by0 (heap_alloc_new V.drew _); have HQ0 := Lib.hid hq; have z0 : wx.cell? ⟨V.heap.size, 0, none⟩ = some (.int .u64 0) := (by rw [blk_cell hq]; rfl); have z1 : wx.cell? ⟨V.heap.size, 1, none⟩ = some (.int .u64 0) := (by rw [blk_cell hq]; rfl); have z2 : wx.cell? ⟨V.heap.size, 2, none⟩ = some (.int .u64 0) := (by rw [blk_cell hq]; rfl); have z3 : wx.cell? ⟨V.heap.size, 3, none⟩ = some (.int .u64 0) := (by rw [blk_cell hq]; rfl); have f0 : wx.frozen? ⟨V.heap.size, 0, none⟩ = false := blk_free hq 0; have f1 : wx.frozen? ⟨V.heap.size, 1, none⟩ = false := blk_free hq 1; have f2 : wx.frozen? ⟨V.heap.size, 2, none⟩ = false := blk_free hq 2; have f3 : wx.frozen? ⟨V.heap.size, 3, none⟩ = false := blk_free hq 3; clear hq)); clear by0)
              | (go_at_call 83; (with_reducible refine (Calls.upV (V := wr) (by repeat (first | exact Below.refl _ _ | (with_reducible assumption) | refine bw_alloc ?_ _ | refine bw_drew ?_)) (AC.out _)).mono ?_); rintro e wy ⟨rfl, by0, by1⟩; have sy := by1.size; (first | (have hq := kept_obj by0 HQ0.out; have HQ1 := Lib.hid hq; have z0 : wy.cell? ⟨V.heap.size, 0, none⟩ = some (.int .u64 0) := (by rw [blk_cell hq]; rfl); have z1 : wy.cell? ⟨V.heap.size, 1, none⟩ = some (.int .u64 0) := (by rw [blk_cell hq]; rfl); have z2 : wy.cell? ⟨V.heap.size, 2, none⟩ = some (.int .u64 0) := (by rw [blk_cell hq]; rfl); have z3 : wy.cell? ⟨V.heap.size, 3, none⟩ = some (.int .u64 0) := (by rw [blk_cell hq]; rfl); have f0 : wy.frozen? ⟨V.heap.size, 0, none⟩ = false := blk_free hq 0; have f1 : wy.frozen? ⟨V.heap.size, 1, none⟩ = false := blk_free hq 1; have f2 : wy.frozen? ⟨V.heap.size, 2, none⟩ = false := blk_free hq 2; have f3 : wy.frozen? ⟨V.heap.size, 3, none⟩ = false := blk_free hq 3; clear hq) | (have hq : wy.heap[wx.heap.size]? = some (.cells #[.int .u64 0, .int .u64 0, .int .u64 0, .int .u64 0] ST4 (0, 0)) := kept_obj by0 (heap_alloc_new wx _); have HQ2 := Lib.hid hq; have z0 : wy.cell? ⟨wx.heap.size, 0, none⟩ = some (.int .u64 0) := (by rw [blk_cell hq]; rfl); have z1 : wy.cell? ⟨wx.heap.size, 1, none⟩ = some (.int .u64 0) := (by rw [blk_cell hq]; rfl); have z2 : wy.cell? ⟨wx.heap.size, 2, none⟩ = some (.int .u64 0) := (by rw [blk_cell hq]; rfl); have z3 : wy.cell? ⟨wx.heap.size, 3, none⟩ = some (.int .u64 0) := (by rw [blk_cell hq]; rfl); have f0 : wy.frozen? ⟨wx.heap.size, 0, none⟩ = false := blk_free hq 0; have f1 : wy.frozen? ⟨wx.heap.size, 1, none⟩ = false := blk_free hq 1; have f2 : wy.frozen? ⟨wx.heap.size, 2, none⟩ = false := blk_free hq 2; have f3 : wy.frozen? ⟨wx.heap.size, 3, none⟩ = false := blk_free hq 3; clear hq) | skip); clear by0))
            all_goals
              go_wp2_with fail
              go_meet
              first
                | exact ⟨V.heap.size, rfl, Lib.hid (Blk4.set (show Blk4 wy V.heap.size 0 0 0 0 from HQ1.out) (U 0) (U 1) (U 2) (U 3)), Lib.hid (by repeat (first | (with_reducible assumption) | refine bw_alloc ?_ _ | refine Below.setCell ?_ (by show _ ≤ _; first | exact bV.size | exact sx | exact sy) _))⟩
                | exact ⟨wx.heap.size, rfl, Lib.hid (Blk4.set (show Blk4 wy wx.heap.size 0 0 0 0 from HQ2.out) (U 0) (U 1) (U 2) (U 3)), Lib.hid (by repeat (first | (with_reducible assumption) | refine bw_alloc ?_ _ | refine Below.setCell ?_ (by show _ ≤ _; first | exact bV.size | exact sx | exact sy) _))⟩
                | exact ⟨wy.heap.size, rfl, Lib.hid (heap_alloc_new wy _), Lib.hid (by repeat (first | (with_reducible assumption) | refine bw_alloc ?_ _ | refine Below.setCell ?_ (by show _ ≤ _; first | exact bV.size | exact sx | exact sy) _))⟩
          · obtain rfl : J = D := by omega
            have mn : ∀ (ts : Array TypeId) (t : TypeId) (w : World), (Builtin.min_ ts t #[.int .i64 (J : Int), .int .i64 (T.us.length : Int)]).run Try.prog w = .ok (.int .i64 (J : Int)) w := fun ts t w => by rw [run_min_int2, if_neg q9]
            clear hJ hD q9
            go_region_held3 (fun w' => w'.cell? ⟨w.heap.size, 0, none⟩ = some (.int .i64 T.id) ∧ w'.cell? ⟨w.heap.size, 1, none⟩ = some (.int .i64 T.c) ∧ w'.cell? ⟨w.heap.size, 2, none⟩ = some (.int .i64 T.d) ∧ w'.cell? ⟨w.heap.size, 3, none⟩ = some (.int .i64 T.t) ∧ w'.cell? ⟨w.heap.size, 4, none⟩ = some (.int .i64 T.p) ∧ w'.cell? ⟨w.heap.size, 5, none⟩ = some (.slice T.a1 T.ch.length T.c1) ∧ w'.cell? ⟨w.heap.size, 6, none⟩ = some (.slice T.a2 T.us.length T.c2) ∧ w'.cell? ⟨g1, o1 + P * 4, none⟩ = some (.int .u64 (A 0)) ∧ w'.cell? ⟨g1, o1 + P * 4 + 1, none⟩ = some (.int .u64 (A 1)) ∧ w'.cell? ⟨g1, o1 + P * 4 + 2, none⟩ = some (.int .u64 (A 2)) ∧ w'.cell? ⟨g1, o1 + P * 4 + 3, none⟩ = some (.int .u64 (A 3)) ∧ w'.cell? ⟨g2, o2 + J * 4, none⟩ = some (.int .u64 (B 0)) ∧ w'.cell? ⟨g2, o2 + J * 4 + 1, none⟩ = some (.int .u64 (B 1)) ∧ w'.cell? ⟨g2, o2 + J * 4 + 2, none⟩ = some (.int .u64 (B 2)) ∧ w'.cell? ⟨g2, o2 + J * 4 + 3, none⟩ = some (.int .u64 (B 3))) (exact MS.out _ (by repeat (first | (with_reducible assumption) | refine Below.drew ?_ | refine bw_alloc ?_ _ | refine Below.setCell ?_ (by first | exact bV.size | (show _ ≤ _; omega)) _))) (first
              | (go_at_call 82; (with_reducible refine (Calls.upV (V := wr) (by repeat (first | exact Below.refl _ _ | (with_reducible assumption) | refine bw_alloc ?_ _ | refine bw_drew ?_)) (NC.out _)).mono ?_); rintro e wx ⟨rfl, by0, bx⟩; have sx := bx.size; (try (have hq : wx.heap[V.heap.size]? = some (.cells #[.int .u64 0, .int .u64 0, .int .u64 0, .int .u64 0] ST4 (0, 0)) := kept_obj by0 (heap_alloc_new V.drew _); have HQ0 := Lib.hid hq; have z0 : wx.cell? ⟨V.heap.size, 0, none⟩ = some (.int .u64 0) := (by rw [blk_cell hq]; rfl); have z1 : wx.cell? ⟨V.heap.size, 1, none⟩ = some (.int .u64 0) := (by rw [blk_cell hq]; rfl); have z2 : wx.cell? ⟨V.heap.size, 2, none⟩ = some (.int .u64 0) := (by rw [blk_cell hq]; rfl); have z3 : wx.cell? ⟨V.heap.size, 3, none⟩ = some (.int .u64 0) := (by rw [blk_cell hq]; rfl); have f0 : wx.frozen? ⟨V.heap.size, 0, none⟩ = false := blk_free hq 0; have f1 : wx.frozen? ⟨V.heap.size, 1, none⟩ = false := blk_free hq 1; have f2 : wx.frozen? ⟨V.heap.size, 2, none⟩ = false := blk_free hq 2; have f3 : wx.frozen? ⟨V.heap.size, 3, none⟩ = false := blk_free hq 3; clear hq)); clear by0)
              | (go_at_call 83; (with_reducible refine (Calls.upV (V := wr) (by repeat (first | exact Below.refl _ _ | (with_reducible assumption) | refine bw_alloc ?_ _ | refine bw_drew ?_)) (AC.out _)).mono ?_); rintro e wy ⟨rfl, by0, by1⟩; have sy := by1.size; (first | (have hq := kept_obj by0 HQ0.out; have HQ1 := Lib.hid hq; have z0 : wy.cell? ⟨V.heap.size, 0, none⟩ = some (.int .u64 0) := (by rw [blk_cell hq]; rfl); have z1 : wy.cell? ⟨V.heap.size, 1, none⟩ = some (.int .u64 0) := (by rw [blk_cell hq]; rfl); have z2 : wy.cell? ⟨V.heap.size, 2, none⟩ = some (.int .u64 0) := (by rw [blk_cell hq]; rfl); have z3 : wy.cell? ⟨V.heap.size, 3, none⟩ = some (.int .u64 0) := (by rw [blk_cell hq]; rfl); have f0 : wy.frozen? ⟨V.heap.size, 0, none⟩ = false := blk_free hq 0; have f1 : wy.frozen? ⟨V.heap.size, 1, none⟩ = false := blk_free hq 1; have f2 : wy.frozen? ⟨V.heap.size, 2, none⟩ = false := blk_free hq 2; have f3 : wy.frozen? ⟨V.heap.size, 3, none⟩ = false := blk_free hq 3; clear hq) | (have hq : wy.heap[wx.heap.size]? = some (.cells #[.int .u64 0, .int .u64 0, .int .u64 0, .int .u64 0] ST4 (0, 0)) := kept_obj by0 (heap_alloc_new wx _); have HQ2 := Lib.hid hq; have z0 : wy.cell? ⟨wx.heap.size, 0, none⟩ = some (.int .u64 0) := (by rw [blk_cell hq]; rfl); have z1 : wy.cell? ⟨wx.heap.size, 1, none⟩ = some (.int .u64 0) := (by rw [blk_cell hq]; rfl); have z2 : wy.cell? ⟨wx.heap.size, 2, none⟩ = some (.int .u64 0) := (by rw [blk_cell hq]; rfl); have z3 : wy.cell? ⟨wx.heap.size, 3, none⟩ = some (.int .u64 0) := (by rw [blk_cell hq]; rfl); have f0 : wy.frozen? ⟨wx.heap.size, 0, none⟩ = false := blk_free hq 0; have f1 : wy.frozen? ⟨wx.heap.size, 1, none⟩ = false := blk_free hq 1; have f2 : wy.frozen? ⟨wx.heap.size, 2, none⟩ = false := blk_free hq 2; have f3 : wy.frozen? ⟨wx.heap.size, 3, none⟩ = false := blk_free hq 3; clear hq) | skip); clear by0))
            all_goals
              go_wp2_with fail
              go_meet
              first
                | exact ⟨V.heap.size, rfl, Lib.hid (Blk4.set (show Blk4 wy V.heap.size 0 0 0 0 from HQ1.out) (U 0) (U 1) (U 2) (U 3)), Lib.hid (by repeat (first | (with_reducible assumption) | refine bw_alloc ?_ _ | refine Below.setCell ?_ (by show _ ≤ _; first | exact bV.size | exact sx | exact sy) _))⟩
                | exact ⟨wx.heap.size, rfl, Lib.hid (Blk4.set (show Blk4 wy wx.heap.size 0 0 0 0 from HQ2.out) (U 0) (U 1) (U 2) (U 3)), Lib.hid (by repeat (first | (with_reducible assumption) | refine bw_alloc ?_ _ | refine Below.setCell ?_ (by show _ ≤ _; first | exact bV.size | exact sx | exact sy) _))⟩
                | exact ⟨wy.heap.size, rfl, Lib.hid (heap_alloc_new wy _), Lib.hid (by repeat (first | (with_reducible assumption) | refine bw_alloc ?_ _ | refine Below.setCell ?_ (by show _ ≤ _; first | exact bV.size | exact sx | exact sy) _))⟩
        case rest =>
          obtain ⟨gx, rfl, HU, HB⟩ := hcut
          have HM2 := Lib.hid (HM.out.below HB.out)
          have u0 : wc.cell? ⟨gx, 0, none⟩ = some (.int .u64 (U 0)) := by rw [blk_cell HU.out]; rfl
          have u1 : wc.cell? ⟨gx, 1, none⟩ = some (.int .u64 (U 1)) := by rw [blk_cell HU.out]; rfl
          have u2 : wc.cell? ⟨gx, 2, none⟩ = some (.int .u64 (U 2)) := by rw [blk_cell HU.out]; rfl
          have u3 : wc.cell? ⟨gx, 3, none⟩ = some (.int .u64 (U 3)) := by rw [blk_cell HU.out]; rfl
          have v0 : wc.cell? ⟨w.heap.size + 1, 0, none⟩ = some (.int .u64 (o 0)) := by rw [blk_cell HM2.out.ob]; rfl
          have v1 : wc.cell? ⟨w.heap.size + 1, 1, none⟩ = some (.int .u64 (o 1)) := by rw [blk_cell HM2.out.ob]; rfl
          have v2 : wc.cell? ⟨w.heap.size + 1, 2, none⟩ = some (.int .u64 (o 2)) := by rw [blk_cell HM2.out.ob]; rfl
          have v3 : wc.cell? ⟨w.heap.size + 1, 3, none⟩ = some (.int .u64 (o 3)) := by rw [blk_cell HM2.out.ob]; rfl
          clear MS AC
          go_upto_region 10 with (first
            | (go_at_call 83; (with_reducible refine (AO.out _).mono ?_); rintro e wx ⟨rfl, b1⟩; have HB1 := Lib.hid (below_up HB.out b1); clear b1)
            | (go_at_call 59; (with_reducible refine (LO.out _).mono ?_); rintro e wy ⟨rfl, b2⟩; have HB2 := Lib.hid (below_up HB1.out b2); clear b2))
          have HBS := Lib.hid (best_step (usefulN T.us C O) hP1)
          have HBR : Hid (∀ w', Below wr.heap.size wr w' → Hid (MostAt w T o w') ∧ Hid (SView w' (some ⟨g1, o1, none⟩) (rowsOf T.us ((upT C).take T.us.length))) ∧ Hid (SView w' (some ⟨g2, o2, none⟩) (rowsOf T.us ((downT C C).take T.us.length)))) := fun w' hb => ⟨HM.out.below hb, HS1.out.below hb, HS2.out.below hb⟩
          have hf256 := usefulN_le T.us C O P
          have hm256 : (best (usefulN T.us C O) (P - 1)).1 ≤ 256 := best_le fun p _ _ => usefulN_le T.us C O p
          have hPs : P + 1 - 1 = P := rfl
          clear u0 u1 u2 u3 v0 v1 v2 v3
          obtain ⟨mv, hmv⟩ : ∃ mv, best (usefulN T.us C O) (P - 1) = mv := ⟨_, rfl⟩
          obtain ⟨fP, hfP⟩ : ∃ fP, usefulN T.us C O P = fP := ⟨_, rfl⟩
          have HMV := Lib.hid hmv
          have HFP := Lib.hid hfP
          rw [hmv] at hm256 ⊢
          rw [hfP] at hf256 ⊢
          clear hmv hfP
          by_cases hq : mv.1 < fP
          · have hq1 : (mv.1 : Int) < (fP : Int) := by omega
            go_wp2
            go_roundw
            case rel =>
              have hbs := HBS.out
              rw [HMV.out, HFP.out, if_pos hq] at hbs
              refine ⟨P + 1, by omega, by omega, by go_num, ?_, ?_, HBR.out _ HB2.out⟩
              · rw [hPs, hbs]
              · rw [hPs, hbs]
            case measure => simp [intOf]; omega
          · have hq1 : ¬ (mv.1 : Int) < (fP : Int) := by omega
            go_wp2
            go_roundw
            case rel =>
              have hbs := HBS.out
              rw [HMV.out, HFP.out, if_neg hq] at hbs
              refine ⟨P + 1, by omega, by omega, by go_num, ?_, ?_, HBR.out _ HB2.out⟩
              · rw [hPs, hbs]
              · rw [hPs, hbs]
            case measure => simp [intOf]; omega
      · have hPe : P - 1 = min (C - 1) T.us.length := by omega
        have HPE : Hid (best (usefulN T.us C O) (P - 1) = mostOf T.us C O) := by show _ = _; rw [hPe]; rfl
        rw [HPE.out]
        have hlow := Lib.hid HM.out.low
        have c0 : wr.cell? ⟨w.heap.size, 0, none⟩ = some (.int .i64 T.id) := by rw [blk_cell HM.out.tb]; rfl
        have c1 : wr.cell? ⟨w.heap.size, 1, none⟩ = some (.int .i64 T.c) := by rw [blk_cell HM.out.tb]; rfl
        have c2 : wr.cell? ⟨w.heap.size, 2, none⟩ = some (.int .i64 T.d) := by rw [blk_cell HM.out.tb]; rfl
        have c3 : wr.cell? ⟨w.heap.size, 3, none⟩ = some (.int .i64 T.t) := by rw [blk_cell HM.out.tb]; rfl
        have c4 : wr.cell? ⟨w.heap.size, 4, none⟩ = some (.int .i64 T.p) := by rw [blk_cell HM.out.tb]; rfl
        have c5 : wr.cell? ⟨w.heap.size, 5, none⟩ = some (.slice T.a1 T.ch.length T.c1) := by rw [blk_cell HM.out.tb]; rfl
        have c6 : wr.cell? ⟨w.heap.size, 6, none⟩ = some (.slice T.a2 T.us.length T.c2) := by rw [blk_cell HM.out.tb]; rfl
        by_cases hPC : P < C
        · have q1 : (P : Int) < T.c := by have := HC.out; omega
          have q2 : ¬ (P : Int) ≤ (T.us.length : Int) := by omega
          clear hPe
          go_wp2_with (go_at_call 82; (with_reducible refine (NC.out _).mono ?_); rintro e w3 ⟨rfl, b3⟩)
          go_ret2
          exact ⟨rfl, below_up hlow.out b3⟩
        · have q1 : ¬ (P : Int) < T.c := by have := HC.out; omega
          clear hPe
          go_wp2
          go_ret2
          exact ⟨rfl, hlow.out⟩
end Go.Proofs.Ytlglncnhhgofoaa

/-
  The walk over all sets that the tasks of a row use, but for one's.
-/
namespace Go.Proofs.Ytlglncnhhgofoaa
open Go.RowKit Go.Maps Go.Shelf

/-- What the first k of a row use, but for one's. -/
def allN (L : List TV) (id : Int) : Nat → Nat → Bool
  | 0 => noneP
  | k + 1 => match L[k]? with
    | some T => if T.id = id then allN L id k else orP (allN L id k) (inP T.us 0 T.c.toNat)
    | none => allN L id k
theorem allN_is {L : List TV} {id : Int} {k : Nat} {T : TV} (h : L[k]? = some T) (hi : T.id = id) : allN L id (k + 1) = allN L id k := by
  rw [allN, h]; exact if_pos hi
theorem allN_not {L : List TV} {id : Int} {k : Nat} {T : TV} (h : L[k]? = some T) (hi : ¬ T.id = id) : allN L id (k + 1) = orP (allN L id k) (inP T.us 0 T.c.toNat) := by
  rw [allN, h]; exact if_neg hi
/-- The boxes: what comes back, what has been met. -/
structure AllAt (w : World) (p : Nat → Nat) (V : World) : Prop where
  low : Below w.heap.size w V
  res : V.heap[w.heap.size]? = some (.cells #[.int .u64 0, .int .u64 0, .int .u64 0, .int .u64 0] ST4 (0, 0))
  all : V.heap[w.heap.size + 1]? = some (.cells #[.int .u64 (p 0), .int .u64 (p 1), .int .u64 (p 2), .int .u64 (p 3)] ST4 (0, 0))
theorem AllAt.below {w V V' : World} {p : Nat → Nat} (h : AllAt w p V) (hb : Below V.heap.size V V') : AllAt w p V' := ⟨below_up h.low hb, kept_obj hb h.res, kept_obj hb h.all⟩
theorem AllAt.put {w V : World} {p : Nat → Nat} (h : AllAt w p V) (y : Nat → Nat) : AllAt w y ((((V.setCell ⟨w.heap.size + 1, 0, none⟩ (.int .u64 (y 0))).setCell ⟨w.heap.size + 1, 1, none⟩ (.int .u64 (y 1))).setCell ⟨w.heap.size + 1, 2, none⟩ (.int .u64 (y 2))).setCell ⟨w.heap.size + 1, 3, none⟩ (.int .u64 (y 3))) :=
  ⟨(((h.low.setCell (p := ⟨w.heap.size + 1, 0, none⟩) (Nat.le_succ _) _).setCell (p := ⟨w.heap.size + 1, 1, none⟩) (Nat.le_succ _) _).setCell (p := ⟨w.heap.size + 1, 2, none⟩) (Nat.le_succ _) _).setCell (p := ⟨w.heap.size + 1, 3, none⟩) (Nat.le_succ _) _,
    (set4_far (by omega) _ _ _ _).trans h.res, Blk4.set (show Blk4 V (w.heap.size + 1) _ _ _ _ from h.all) (y 0) (y 1) (y 2) (y 3)⟩

set_option maxRecDepth 100000 in
set_option maxHeartbeats 16000000 in
theorem all_any (L : List TV) (hT : ∀ T ∈ L, l_Told T) (id : Int) (w : World) (a : Option Addr) (n cap : Nat) (hn : n ≤ 100) (ht : Tasks w a n cap L) :
    Calls Try.prog 57 #[.slice a n cap, .int .i64 id] w (SetBack (allN L id n) w) := by
  have HT := Lib.hid ht
  have HL := Lib.hid hT
  clear ht hT
  go_enter Try.func57, Try.ntmps57
  go_upto_region 2 with fail
  refine gen_world (AllAt w (wd (allN L id 0))) ⟨(by repeat (first | exact Below.refl _ _ | (with_reducible assumption) | refine bw_alloc ?_ _ | refine bw_drew ?_)), (two_boxes w rfl _ _).1, by show _ = some (Obj.cells #[.int .u64 (wd noneP 0), .int .u64 (wd noneP 1), .int .u64 (wd noneP 2), .int .u64 (wd noneP 3)] ST4 (0, 0)); rw [wd_none, wd_none, wd_none, wd_none]; exact (two_boxes w rfl _ _).2⟩ ?_
  intro V hv
  have HV := Lib.hid hv
  clear hv
  go_wp2
  go_loopw [10] (fun u wr => ∃ k : Nat, k ≤ n ∧ u = .int .i64 k ∧ Hid (AllAt w (wd (allN L id k)) wr)) (fun u _ => (n - intOf u).toNat)
  case atStart => exact ⟨0, Nat.zero_le _, rfl, HV⟩
  case round =>
    obtain ⟨k, hk, rfl, HA⟩ := hrel
    clear HV
    by_cases hlt : k < n
    · obtain ⟨T, hTk⟩ := nth_of HT.out.len hlt
      obtain ⟨g, og, rfl, hat⟩ := (HT.out.view.below HA.out.low).at_ hTk
      have HTT := Lib.hid (HL.out T (List.mem_of_getElem? hTk))
      have HOK := Lib.hid (HT.out.ok.at_ hTk)
      obtain ⟨c0, c1, c2, c3, c4, c5, c6⟩ := hat
      have hk0 : (0 : Int) ≤ (k : Int) := by omega
      have hkn : (k : Int) < (n : Int) := by omega
      have hks : IntKind.i64.wrap ((k : Int) + 1) = (k : Int) + 1 := IntWalk.i64_in _ (by omega)
      obtain ⟨C, hC⟩ : ∃ C : Nat, T.c = (C : Int) := ⟨T.c.toNat, by have := HTT.out.c1; omega⟩
      have HC := Lib.hid hC
      clear hC
      go_upto_region 5 with fail
      refine gen_world (fun v => AllAt w (wd (allN L id k)) v ∧ v.heap[wr.heap.size]? = some (.cells #[.int .i64 T.id, .int .i64 T.c, .int .i64 T.d, .int .i64 T.t, .int .i64 T.p, .slice T.a1 T.ch.length T.c1, .slice T.a2 T.us.length T.c2] TT (0, 0)) ∧ Below wr.heap.size wr v) ⟨HA.out.below ((Below.refl _ _).alloc (Nat.le_refl _) _), heap_alloc_new wr _, (Below.refl _ _).alloc (Nat.le_refl _) _⟩ ?_
      intro V2 ⟨ha2, ht2, hb2⟩
      have HA2 := Lib.hid ha2
      have HT2 := Lib.hid ht2
      have HB2 := Lib.hid hb2
      clear c0 c1 c2 c3 c4 c5 c6 hb2
      have t0 : V2.cell? ⟨wr.heap.size, 0, none⟩ = some (.int .i64 T.id) := by rw [blk_cell ht2]; rfl
      by_cases hid : T.id = id
      · have hd : (T.id == id) = true := by simp [hid]
        have hd2 : (T.id != id) = false := by simp [hid]
        have HN : Hid (allN L id (k + 1) = allN L id k) := allN_is hTk hid
        clear ha2 ht2 hid hTk
        go_wp2
        go_roundw
        case rel => exact ⟨k + 1, by omega, by go_num, by rw [HN.out]; exact HA2⟩
        case measure => simp [intOf]; omega
      · have hd : (T.id == id) = false := by simp [hid]
        have hd2 : (T.id != id) = true := by simp [hid]
        have HN : Hid (allN L id (k + 1) = orP (allN L id k) (inP T.us 0 T.c.toNat)) := allN_not hTk hid
        have UC := Lib.hid (fun v (hb : Below wr.heap.size wr v) => used_any T HTT.out C HC.out v (HOK.out.below (below_up HA.out.low hb)))
        rw [show inP T.us 0 C = inP T.us 0 T.c.toNat by rw [HC.out]; rfl] at UC
        have OC := Lib.hid (or_two (allN L id k) (inP T.us 0 T.c.toNat))
        rw [← HN.out] at OC
        unfold SetBack at UC
        clear HN hid hTk
        obtain ⟨p2, hp2⟩ : ∃ p2, wd (allN L id (k + 1)) = p2 := ⟨_, rfl⟩
        have HP2 := Lib.hid hp2
        rw [hp2] at OC
        clear hp2
        generalize wd (allN L id k) = p at *
        generalize wd (inP T.us 0 T.c.toNat) = y at *
        have t1 : V2.cell? ⟨wr.heap.size, 1, none⟩ = some (.int .i64 T.c) := by rw [blk_cell ht2]; rfl
        have t2 : V2.cell? ⟨wr.heap.size, 2, none⟩ = some (.int .i64 T.d) := by rw [blk_cell ht2]; rfl
        have t3 : V2.cell? ⟨wr.heap.size, 3, none⟩ = some (.int .i64 T.t) := by rw [blk_cell ht2]; rfl
        have t4 : V2.cell? ⟨wr.heap.size, 4, none⟩ = some (.int .i64 T.p) := by rw [blk_cell ht2]; rfl
        have t5 : V2.cell? ⟨wr.heap.size, 5, none⟩ = some (.slice T.a1 T.ch.length T.c1) := by rw [blk_cell ht2]; rfl
        have t6 : V2.cell? ⟨wr.heap.size, 6, none⟩ = some (.slice T.a2 T.us.length T.c2) := by rw [blk_cell ht2]; rfl
        have a0 : V2.cell? ⟨w.heap.size + 1, 0, none⟩ = some (.int .u64 (p 0)) := by rw [blk_cell ha2.all]; rfl
        have a1 : V2.cell? ⟨w.heap.size + 1, 1, none⟩ = some (.int .u64 (p 1)) := by rw [blk_cell ha2.all]; rfl
        have a2 : V2.cell? ⟨w.heap.size + 1, 2, none⟩ = some (.int .u64 (p 2)) := by rw [blk_cell ha2.all]; rfl
        have a3 : V2.cell? ⟨w.heap.size + 1, 3, none⟩ = some (.int .u64 (p 3)) := by rw [blk_cell ha2.all]; rfl
        clear ha2 ht2
        go_upto_region 6 with fail
        go_region_with (first
          | (go_at_call 77; (refine (UC.out _ (by repeat (first | exact HB2.out | refine bw_drew ?_))).mono ?_); rintro e w1 ⟨rfl, b1⟩; have HA3 := Lib.hid (AllAt.below (V := V2.drew) ⟨bw_drew HA2.out.low, HA2.out.res, HA2.out.all⟩ b1); clear b1; have a0 : w1.cell? ⟨w.heap.size + 1, 0, none⟩ = some (.int .u64 (p 0)) := (by rw [blk_cell HA3.out.all]; rfl); have a1 : w1.cell? ⟨w.heap.size + 1, 1, none⟩ = some (.int .u64 (p 1)) := (by rw [blk_cell HA3.out.all]; rfl); have a2 : w1.cell? ⟨w.heap.size + 1, 2, none⟩ = some (.int .u64 (p 2)) := (by rw [blk_cell HA3.out.all]; rfl); have a3 : w1.cell? ⟨w.heap.size + 1, 3, none⟩ = some (.int .u64 (p 3)) := (by rw [blk_cell HA3.out.all]; rfl); have f0 := blk_free HA3.out.all 0; have f1 := blk_free HA3.out.all 1; have f2 := blk_free HA3.out.all 2; have f3 := blk_free HA3.out.all 3)
          | (go_at_call 74; (refine (OC.out _ _ (by simp) (by simp) (by simp) (by simp) (by simp) (by simp) (by simp) (by simp) (by simp)).mono ?_); rintro e w2 ⟨rfl, b2⟩; have HA4 := Lib.hid ((HA3.out.below ((Below.refl _ _).alloc (Nat.le_refl _) _)).below b2); clear b2; have a0 : w2.cell? ⟨w.heap.size + 1, 0, none⟩ = some (.int .u64 (p 0)) := (by rw [blk_cell HA4.out.all]; rfl); have a1 : w2.cell? ⟨w.heap.size + 1, 1, none⟩ = some (.int .u64 (p 1)) := (by rw [blk_cell HA4.out.all]; rfl); have a2 : w2.cell? ⟨w.heap.size + 1, 2, none⟩ = some (.int .u64 (p 2)) := (by rw [blk_cell HA4.out.all]; rfl); have a3 : w2.cell? ⟨w.heap.size + 1, 3, none⟩ = some (.int .u64 (p 3)) := (by rw [blk_cell HA4.out.all]; rfl); have f0 := blk_free HA4.out.all 0; have f1 := blk_free HA4.out.all 1; have f2 := blk_free HA4.out.all 2; have f3 := blk_free HA4.out.all 3))
        all_goals
          go_wp2
          go_roundw
          case rel => exact ⟨k + 1, by omega, by go_num, by rw [HP2.out]; exact HA4.out.put p2⟩
          case measure => simp [intOf]; omega
    · obtain rfl : k = n := by omega
      have hres := HA.out.res
      have a0 : wr.cell? ⟨w.heap.size + 1, 0, none⟩ = some (.int .u64 (wd (allN L id k) 0)) := by rw [blk_cell HA.out.all]; rfl
      have a1 : wr.cell? ⟨w.heap.size + 1, 1, none⟩ = some (.int .u64 (wd (allN L id k) 1)) := by rw [blk_cell HA.out.all]; rfl
      have a2 : wr.cell? ⟨w.heap.size + 1, 2, none⟩ = some (.int .u64 (wd (allN L id k) 2)) := by rw [blk_cell HA.out.all]; rfl
      have a3 : wr.cell? ⟨w.heap.size + 1, 3, none⟩ = some (.int .u64 (wd (allN L id k) 3)) := by rw [blk_cell HA.out.all]; rfl
      have z0 : wr.cell? ⟨w.heap.size, 0, none⟩ = some (.int .u64 0) := by rw [blk_cell hres]; rfl
      have z1 : wr.cell? ⟨w.heap.size, 1, none⟩ = some (.int .u64 0) := by rw [blk_cell hres]; rfl
      have z2 : wr.cell? ⟨w.heap.size, 2, none⟩ = some (.int .u64 0) := by rw [blk_cell hres]; rfl
      have z3 : wr.cell? ⟨w.heap.size, 3, none⟩ = some (.int .u64 0) := by rw [blk_cell hres]; rfl
      have f0 := blk_free hres 0
      have f1 := blk_free hres 1
      have f2 := blk_free hres 2
      have f3 := blk_free hres 3
      have hz := Blk4.set (show Blk4 wr w.heap.size 0 0 0 0 from hres) (wd (allN L id k) 0) (wd (allN L id k) 1) (wd (allN L id k) 2) (wd (allN L id k) 3)
      have HZ := Lib.hid hz.cells
      clear hres hz
      obtain ⟨p, hp⟩ : ∃ p, wd (allN L id k) = p := ⟨_, rfl⟩
      have HP := Lib.hid hp
      rw [hp] at a0 a1 a2 a3 HZ
      clear hp
      go_wp2
      obtain ⟨y0, y1, y2, y3⟩ := HZ.out
      refine bodyPost_ret (v := .agg #[.int .u64 (p 0), .int .u64 (p 1), .int .u64 (p 2), .int .u64 (p 3)]) ?_ rfl ⟨by rw [← HP.out], ?_⟩
      · simp [results, Try.results57, go_sem, y0, y1, y2, y3]
      · exact below_set4 HA.out.low (Nat.le_refl _) (p 0) (p 1) (p 2) (p 3)
end Go.Proofs.Ytlglncnhhgofoaa

/-
  What a preemption costs a task: plain numbers, no program in this text.
-/
namespace Go.Proofs.Ytlglncnhhgofoaa
open Go.RowKit

/-- The numbers below one. -/
def lowP (k x : Nat) : Bool := decide (x < k)
theorem lowP_zero : lowP 0 = noneP := by funext x; unfold lowP noneP; exact decide_eq_false (Nat.not_lt_zero x)
theorem lowP_next (k : Nat) : orP (lowP k) (oneP (k : Int)) = lowP (k + 1) := by
  funext x
  apply bool_ext
  unfold orP oneP lowP
  rw [Bool.or_eq_true, decide_eq_true_eq, decide_eq_true_eq, decide_eq_true_eq]
  omega

/-- A task's three charges: all that is useful, all that others use, both. -/
structure Cg where
  u : Int
  v : Int
  b : Int
def cgOf (r : Int) (L : List TV) (t : Tk) : Cg := ⟨r * ((mostOf t.us t.c.toNat (lowP 256)).1 : Nat), r * (cntN (allN L t.id L.length) 256 : Nat), r * ((mostOf t.us t.c.toNat (allN L t.id L.length)).1 : Nat)⟩
theorem cg_least {r : Int} (h0 : 0 ≤ r) (L : List TV) (t : Tk) : (cgOf r L t).b ≤ (cgOf r L t).u ∧ (cgOf r L t).b ≤ (cgOf r L t).v := by
  constructor
  · refine Int.mul_le_mul_of_nonneg_left ?_ h0
    have := most_mono t.us t.c.toNat (O := allN L t.id L.length) (O' := lowP 256) (fun x hx _ => decide_eq_true hx)
    omega
  · refine Int.mul_le_mul_of_nonneg_left ?_ h0
    have := most_used t.us t.c.toNat (allN L t.id L.length)
    omega
theorem mul_small {r : Int} {n : Nat} (h0 : 0 ≤ r) (h1 : r ≤ 1000) (hn : n ≤ 256) : 0 ≤ r * (n : Int) ∧ r * (n : Int) ≤ 256000 := by
  refine ⟨Int.mul_nonneg h0 (by omega), ?_⟩
  have h2 : r * (n : Int) ≤ 1000 * (n : Int) := Int.mul_le_mul_of_nonneg_right h1 (by omega)
  omega
theorem mul_wrap {r : Int} {n : Nat} (h0 : 0 ≤ r) (h1 : r ≤ 1000) (hn : n ≤ 256) : IntKind.i64.wrap (r * (n : Int)) = r * (n : Int) := by
  have := mul_small h0 h1 hn
  exact IntWalk.i64_in _ (by omega)
theorem cg_small {r : Int} (h0 : 0 ≤ r) (h1 : r ≤ 1000) (L : List TV) (t : Tk) : (0 ≤ (cgOf r L t).u ∧ (cgOf r L t).u ≤ 256000) ∧ (0 ≤ (cgOf r L t).v ∧ (cgOf r L t).v ≤ 256000) ∧ (0 ≤ (cgOf r L t).b ∧ (cgOf r L t).b ≤ 256000) :=
  ⟨mul_small h0 h1 (most_le _ _ _), mul_small h0 h1 (cntN_le _ _), mul_small h0 h1 (most_le _ _ _)⟩

/-- The charges of the task of a number, if the system is right and has it. -/
def cgAt (s r : Int) (L : List TV) (id : Int) : Option Cg := if checkOf s r L = 0 then (findTk (L.map TV.tk) id).map (cgOf r L) else none
def cgU (o : Option Cg) : Int := match o with | some c => c.u | none => 0
def cgV (o : Option Cg) : Int := match o with | some c => c.v | none => 0
def cgB (o : Option Cg) : Int := match o with | some c => c.b | none => 0
theorem cgAt_bad {s r : Int} {L : List TV} (h : ¬ checkOf s r L = 0) (id : Int) : cgAt s r L id = none := if_neg h
theorem cgAt_none {s r : Int} {L : List TV} {id : Int} (h : findTk (L.map TV.tk) id = none) : cgAt s r L id = none := by
  unfold cgAt; rw [h]; split <;> rfl
theorem cgAt_some {s r : Int} {L : List TV} {id : Int} {t : Tk} (h : checkOf s r L = 0) (hf : findTk (L.map TV.tk) id = some t) : cgAt s r L id = some (cgOf r L t) := by
  unfold cgAt; rw [if_pos h, hf]; rfl

/-- What a right system's tasks are. -/
theorem right_told {x : TV} {s : Int} (hs : s ≤ 256) (h : rightOf x s = 0) : l_Told x ∧ x.ch.length ≤ 64 := by
  unfold rightOf at h
  by_cases g1 : idBad x
  · rw [if_pos g1] at h; omega
  rw [if_neg g1] at h
  by_cases g2 : cdBad x
  · rw [if_pos g2] at h; omega
  rw [if_neg g2] at h
  by_cases g3 : chBad x
  · rw [if_pos g3] at h; omega
  rw [if_neg g3] at h
  by_cases g4 : usBad x s
  · rw [if_pos g4] at h; omega
  unfold cdBad at g2
  unfold chBad at g3
  unfold usBad at g4
  refine ⟨⟨by omega, by omega, ?_, ?_⟩, ?_⟩
  · have := g4; simp at this; omega
  · intro u hu
    have := g4; simp [badB] at this
    have := this.2 u hu
    omega
  · have := g3; simp at this; omega
theorem first_right {s : Int} : ∀ (L : List TV) (last : Int) (seen : List Int), firstOf s last seen L = 0 → ∀ x ∈ L, rightOf x s = 0
  | [], _, _, _, x, hx => by cases hx
  | y :: L, last, seen, h, x, hx => by
    rw [firstOf] at h
    by_cases h1 : rightOf y s = 0
    · rw [if_neg (fun z => z h1)] at h
      by_cases h2 : y.id ≤ last
      · rw [if_pos h2] at h; omega
      · rw [if_neg h2] at h
        by_cases h3 : y.p ∈ seen
        · rw [if_pos h3] at h; omega
        · rw [if_neg h3] at h
          rcases List.mem_cons.1 hx with e | e
          · rw [e]; exact h1
          · exact first_right L _ _ h x e
    · rw [if_pos h1] at h; exact absurd h h1
theorem check_ok {s r : Int} {L : List TV} (h : checkOf s r L = 0) : (0 ≤ s ∧ s ≤ 256) ∧ (0 ≤ r ∧ r ≤ 1000) ∧ (0 < L.length ∧ L.length ≤ 64) ∧ ∀ x ∈ L, l_Told x ∧ x.ch.length ≤ 64 := by
  unfold checkOf at h
  by_cases g : sysBad s r L
  · rw [if_pos g] at h; omega
  rw [if_neg g] at h
  by_cases g2 : 64 < L.length
  · rw [if_pos g2] at h; omega
  rw [if_neg g2] at h
  unfold sysBad at g
  have hs : s ≤ 256 := by omega
  exact ⟨by omega, by omega, by omega, fun x hx => right_told hs (first_right L _ _ h x hx)⟩
/-- Its tasks have numbers of their own. -/
theorem first_rise {s : Int} : ∀ (L : List TV) (last : Int) (seen : List Int), firstOf s last seen L = 0 → ∀ x ∈ L, last < x.id
  | [], _, _, _, x, hx => by cases hx
  | y :: L, last, seen, h, x, hx => by
    rw [firstOf] at h
    by_cases h1 : rightOf y s = 0
    · rw [if_neg (fun z => z h1)] at h
      by_cases h2 : y.id ≤ last
      · rw [if_pos h2] at h; omega
      · rw [if_neg h2] at h
        by_cases h3 : y.p ∈ seen
        · rw [if_pos h3] at h; omega
        · rw [if_neg h3] at h
          rcases List.mem_cons.1 hx with e | e
          · rw [e]; omega
          · have := first_rise L _ _ h x e; omega
    · rw [if_pos h1] at h; exact absurd h h1
theorem first_find {s : Int} : ∀ (L : List TV) (last : Int) (seen : List Int), firstOf s last seen L = 0 → ∀ x ∈ L, findTk (L.map TV.tk) x.id = some x.tk
  | [], _, _, _, x, hx => by cases hx
  | y :: L, last, seen, h, x, hx => by
    have hr := first_rise (y :: L) last seen h
    rw [firstOf] at h
    by_cases h1 : rightOf y s = 0
    · rw [if_neg (fun z => z h1)] at h
      by_cases h2 : y.id ≤ last
      · rw [if_pos h2] at h; omega
      · rw [if_neg h2] at h
        by_cases h3 : y.p ∈ seen
        · rw [if_pos h3] at h; omega
        · rw [if_neg h3] at h
          unfold findTk
          rw [List.map_cons, List.find?_cons]
          rcases List.mem_cons.1 hx with e | e
          · subst e
            have : decide (x.tk.id = x.id) = true := decide_eq_true rfl
            rw [this]
          · have h9 := first_rise L _ _ h x e
            have : decide (y.tk.id = x.id) = false := decide_eq_false (by show ¬ y.id = x.id; omega)
            rw [this]
            exact first_find L _ _ h x e
    · rw [if_pos h1] at h; exact absurd h h1
theorem check_find {s r : Int} {L : List TV} (h : checkOf s r L = 0) {x : TV} (hx : x ∈ L) : cgAt s r L x.id = some (cgOf r L x.tk) := by
  refine cgAt_some h ?_
  unfold checkOf at h
  by_cases g : sysBad s r L
  · rw [if_pos g] at h; omega
  rw [if_neg g] at h
  by_cases g2 : 64 < L.length
  · rw [if_pos g2] at h; omega
  rw [if_neg g2] at h
  exact first_find L _ _ h x hx
end Go.Proofs.Ytlglncnhhgofoaa

/-
  The walks over the least of a row, over the set of all, and over what tells the charges of a system.
-/
namespace Go.Proofs.Ytlglncnhhgofoaa
open Go.RowKit Go.Maps

set_option maxRecDepth 100000 in
set_option maxHeartbeats 4000000 in
/-- The least one of a row, of which there is one. -/
theorem least_any (l : List Int) (m : Int) (j : Nat) (hj : l[j]? = some m) (hm : ∀ x ∈ l, m ≤ x) (hf : ∀ i x, i < j → l[i]? = some x → m < x) (hn : l.length ≤ 100) (a : Option Addr) (c : Nat) (w : World) (hi : Ints w a l) :
    Calls Try.prog 60 #[.slice a l.length c] w fun e w' => e = .returned (.int .i64 m) ∧ w = w' := by
  obtain ⟨n, hN⟩ : ∃ n, l.length = n := ⟨_, rfl⟩
  have hjn : j < n := by have := (List.getElem?_eq_some_iff.1 hj).1; omega
  have HL := Lib.hid hN
  rw [hN] at hn ⊢
  have HI := Lib.hid hi
  have HM := Lib.hid hm
  have HF := Lib.hid hf
  have HJ := Lib.hid hj
  clear hN hi hm hf hj
  go_enter Try.func60, Try.ntmps60
  go_wp2
  go_step3
  go_wp2
  go_step3
  go_wp2
  go_loop [9] (fun u => ∃ k : Nat, k ≤ j ∧ u = .int .i64 k) (fun u => (n - intOf u).toNat)
  case atStart => exact ⟨0, Nat.zero_le _, rfl⟩
  case round =>
    obtain ⟨k, hk, rfl⟩ := hrel
    obtain ⟨x, hx⟩ := nth_of HL.out (show k < n by omega)
    obtain ⟨b, o, rfl, c0⟩ := HI.out.at_ hx
    have hk1 : (k : Int) < (n : Int) := by omega
    have hk0 : (0 : Int) ≤ (k : Int) := by omega
    by_cases hkj : k = j
    · subst hkj
      have hxm : x = m := by rw [HJ.out] at hx; exact (Option.some.inj hx).symm
      subst hxm
      go_wp2
      go_loop [15] (fun u => ∃ i : Nat, i ≤ n ∧ u = .int .i64 i) (fun u => (n - intOf u).toNat)
      case atStart => exact ⟨0, Nat.zero_le _, rfl⟩
      case round =>
        obtain ⟨i, hi, rfl⟩ := hrel
        by_cases hin : i < n
        · obtain ⟨y, hy⟩ := nth_of HL.out hin
          obtain ⟨b2, o2, e2, d0⟩ := HI.out.at_ hy
          cases e2
          have hi1 : (i : Int) < (n : Int) := by omega
          have hi0 : (0 : Int) ≤ (i : Int) := by omega
          have hq : ¬ y < x := by have := HM.out y (List.mem_of_getElem? hy); omega
          clear hx hy
          go_wp2
          go_round
          case rel => exact ⟨i + 1, by omega, by go_num⟩
          case measure => simp [intOf]; omega
        · obtain rfl : i = n := by omega
          clear hx
          go_wp2
          go_ret
          exact ⟨rfl, rfl⟩
    · have hmx : m < x := HF.out k x (by omega) hx
      go_wp2
      go_loop [15] (fun u => ∃ i : Nat, i ≤ j ∧ u = .int .i64 i) (fun u => (n - intOf u).toNat)
      case atStart => exact ⟨0, Nat.zero_le _, rfl⟩
      case round =>
        obtain ⟨i, hi, rfl⟩ := hrel
        obtain ⟨y, hy⟩ := nth_of HL.out (show i < n by omega)
        obtain ⟨b2, o2, e2, d0⟩ := HI.out.at_ hy
        cases e2
        have hi1 : (i : Int) < (n : Int) := by omega
        have hi0 : (0 : Int) ≤ (i : Int) := by omega
        have hkj2 : k + 1 ≤ j := by omega
        by_cases hq : y < x
        · clear hkj hx hy
          go_wp2
          go_round
          case rel => exact ⟨k + 1, hkj2, by go_num⟩
          case measure => simp [intOf]; omega
        · have hij : i + 1 ≤ j := by
            rcases Nat.lt_or_ge i j with h | h
            · exact h
            · obtain rfl : i = j := by omega
              rw [HJ.out] at hy
              obtain rfl := Option.some.inj hy
              omega
          clear hkj hx hy
          go_wp2
          go_round
          case rel => exact ⟨i + 1, hij, by go_num⟩
          case measure => simp [intOf]; omega

set_option maxRecDepth 100000 in
set_option maxHeartbeats 4000000 in
/-- All sets that there may be. -/
theorem every_any (w : World) : Calls Try.prog 54 #[] w (SetBack (lowP 256) w) := by
  go_enter Try.func54, Try.ntmps54
  go_upto_region 2 with fail
  refine gen_world (AllAt w (wd (lowP 0))) ⟨(by repeat (first | exact Below.refl _ _ | (with_reducible assumption) | refine bw_alloc ?_ _ | refine bw_drew ?_)), (two_boxes w rfl _ _).1, by rw [lowP_zero]; show _ = some (Obj.cells #[.int .u64 (wd noneP 0), .int .u64 (wd noneP 1), .int .u64 (wd noneP 2), .int .u64 (wd noneP 3)] ST4 (0, 0)); rw [wd_none, wd_none, wd_none, wd_none]; exact (two_boxes w rfl _ _).2⟩ ?_
  intro V hv
  have HV := Lib.hid hv
  clear hv
  go_wp2
  go_loopw [3] (fun u wr => ∃ k : Nat, k ≤ 256 ∧ u = .int .i64 k ∧ Hid (AllAt w (wd (lowP k)) wr)) (fun u _ => (256 - intOf u).toNat)
  case atStart => exact ⟨0, Nat.zero_le _, rfl, HV⟩
  case round =>
    obtain ⟨k, hk, rfl, HA⟩ := hrel
    clear HV
    have a0 : wr.cell? ⟨w.heap.size + 1, 0, none⟩ = some (.int .u64 (wd (lowP k) 0)) := by rw [blk_cell HA.out.all]; rfl
    have a1 : wr.cell? ⟨w.heap.size + 1, 1, none⟩ = some (.int .u64 (wd (lowP k) 1)) := by rw [blk_cell HA.out.all]; rfl
    have a2 : wr.cell? ⟨w.heap.size + 1, 2, none⟩ = some (.int .u64 (wd (lowP k) 2)) := by rw [blk_cell HA.out.all]; rfl
    have a3 : wr.cell? ⟨w.heap.size + 1, 3, none⟩ = some (.int .u64 (wd (lowP k) 3)) := by rw [blk_cell HA.out.all]; rfl
    by_cases hlt : k < 256
    · have OC := Lib.hid (fun w => with_any (lowP k) k (by omega) w)
      rw [lowP_next] at OC
      have hk2 : (k : Int) < 256 := by omega
      have hk3 : ¬ k = 256 := by omega
      obtain ⟨p2, hp2⟩ : ∃ p2, wd (lowP (k + 1)) = p2 := ⟨_, rfl⟩
      have HP2 := Lib.hid hp2
      rw [hp2] at OC
      clear hp2
      generalize wd (lowP k) = p at *
      go_wp2_with (go_at_call 50; (with_reducible refine (OC.out _).mono ?_); rintro e w2 ⟨rfl, b2⟩; have HA4 := Lib.hid (HA.out.below b2); clear b2; have a0 : w2.cell? ⟨w.heap.size + 1, 0, none⟩ = some (.int .u64 (p 0)) := (by rw [blk_cell HA4.out.all]; rfl); have a1 : w2.cell? ⟨w.heap.size + 1, 1, none⟩ = some (.int .u64 (p 1)) := (by rw [blk_cell HA4.out.all]; rfl); have a2 : w2.cell? ⟨w.heap.size + 1, 2, none⟩ = some (.int .u64 (p 2)) := (by rw [blk_cell HA4.out.all]; rfl); have a3 : w2.cell? ⟨w.heap.size + 1, 3, none⟩ = some (.int .u64 (p 3)) := (by rw [blk_cell HA4.out.all]; rfl); have f0 := blk_free HA4.out.all 0; have f1 := blk_free HA4.out.all 1; have f2 := blk_free HA4.out.all 2; have f3 := blk_free HA4.out.all 3)
      go_roundw
      case rel => exact ⟨k + 1, by omega, by go_num, by rw [HP2.out]; exact HA4.out.put p2⟩
      case measure => simp [intOf]; omega
    · obtain rfl : k = 256 := by omega
      have hres := HA.out.res
      have z0 : wr.cell? ⟨w.heap.size, 0, none⟩ = some (.int .u64 0) := by rw [blk_cell hres]; rfl
      have z1 : wr.cell? ⟨w.heap.size, 1, none⟩ = some (.int .u64 0) := by rw [blk_cell hres]; rfl
      have z2 : wr.cell? ⟨w.heap.size, 2, none⟩ = some (.int .u64 0) := by rw [blk_cell hres]; rfl
      have z3 : wr.cell? ⟨w.heap.size, 3, none⟩ = some (.int .u64 0) := by rw [blk_cell hres]; rfl
      have f0 := blk_free hres 0
      have f1 := blk_free hres 1
      have f2 := blk_free hres 2
      have f3 := blk_free hres 3
      have hz := Blk4.set (show Blk4 wr w.heap.size 0 0 0 0 from hres) (wd (lowP 256) 0) (wd (lowP 256) 1) (wd (lowP 256) 2) (wd (lowP 256) 3)
      have HZ := Lib.hid hz.cells
      clear hres hz
      obtain ⟨p, hp⟩ : ∃ p, wd (lowP 256) = p := ⟨_, rfl⟩
      have HP := Lib.hid hp
      rw [hp] at a0 a1 a2 a3 HZ
      clear hp
      go_wp2
      obtain ⟨y0, y1, y2, y3⟩ := HZ.out
      refine bodyPost_ret (v := .agg #[.int .u64 (p 0), .int .u64 (p 1), .int .u64 (p 2), .int .u64 (p 3)]) ?_ rfl ⟨by rw [← HP.out], ?_⟩
      · simp [results, Try.results54, go_sem, y0, y1, y2, y3]
      · exact below_set4 HA.out.low (Nat.le_refl _) (p 0) (p 1) (p 2) (p 3)

/-- What tells the charges of a system: its boxes. -/
structure ChgAt (w : World) (s r : Int) (a : Option Addr) (n cap G E C : Nat) : Prop where
  sys : w.heap[G]? = some (.cells #[.int .i64 s, .int .i64 r, .slice a n cap] 27 (0, 0))
  evr : w.heap[E]? = some (.cells #[.int .u64 (wd (lowP 256) 0), .int .u64 (wd (lowP 256) 1), .int .u64 (wd (lowP 256) 2), .int .u64 (wd (lowP 256) 3)] ST4 (0, 0))
  cst : w.heap[C]? = some (.cells #[.func (.func 55) #[] #[.pointer (some ⟨G, 0, none⟩)]] 98 (0, 0))
theorem ChgAt.below {w w' : World} {s r : Int} {a : Option Addr} {n cap G E C : Nat} (h : ChgAt w s r a n cap G E C) (hb : Below w.heap.size w w') : ChgAt w' s r a n cap G E C :=
  ⟨kept_obj hb h.sys, kept_obj hb h.evr, kept_obj hb h.cst⟩
def ChgBack (w : World) (s r : Int) (a : Option Addr) (n cap : Nat) (e : Ending) (w' : World) : Prop :=
  ∃ G E C, e = .returned (.func (.func 56) #[] #[.pointer (some ⟨G, 0, none⟩), .pointer (some ⟨E, 0, none⟩), .pointer (some ⟨C, 0, none⟩)]) ∧ ChgAt w' s r a n cap G E C ∧ Below w.heap.size w w'

set_option maxRecDepth 100000 in
set_option maxHeartbeats 2000000 in
theorem cost_any {w : World} {s r : Int} {a : Option Addr} {n cap G : Nat} (hG : w.heap[G]? = some (.cells #[.int .i64 s, .int .i64 r, .slice a n cap] 27 (0, 0))) (m : Nat) (h0 : 0 ≤ r) (h1 : r ≤ 1000) (hm : m ≤ 256) :
    Calls Try.prog 55 #[.int .i64 (m : Int), .pointer (some ⟨G, 0, none⟩)] w fun e w' => e = .returned (.int .i64 (r * (m : Int))) ∧ Below w.heap.size w w' := by
  have e1 : w.cell? ⟨G, 1, none⟩ = some (.int .i64 r) := by rw [blk_cell hG]; rfl
  have q := mul_wrap h0 h1 hm
  clear hG h0 h1 hm
  obtain ⟨z, hz⟩ : ∃ z, r * (m : Int) = z := ⟨_, rfl⟩
  rw [hz] at q ⊢
  go_enter Try.func55, Try.ntmps55
  go_wp2_with fail
  go_ret
  exact ⟨rfl, (by repeat (first | exact Below.refl _ _ | (with_reducible assumption) | refine bw_alloc ?_ _ | refine bw_drew ?_))⟩

set_option maxRecDepth 100000 in
set_option maxHeartbeats 4000000 in
theorem charges_any (s r : Int) (a : Option Addr) (n cap : Nat) (w : World) : Calls Try.prog 34 #[.agg #[.int .i64 s, .int .i64 r, .slice a n cap]] w (ChgBack w s r a n cap) := by
  have EC := Lib.hid (fun w => every_any w)
  unfold SetBack at EC
  go_enter Try.func34, Try.ntmps34
  go_wp2_with (go_at_call 54; (with_reducible refine (EC.out _).mono ?_); rintro e w1 ⟨rfl, b1⟩; have B1 := Lib.hid b1; clear b1)
  go_ret
  have hs := B1.out.size
  have hs1 : w.heap.size < w1.heap.size := by rw [World.size_alloc] at hs; omega
  have hsys := kept_obj B1.out (heap_alloc_new w (.cells #[.int .i64 s, .int .i64 r, .slice a n cap] 27))
  obtain ⟨q1, q2⟩ := two_boxes w1 rfl (.cells #[.int .u64 (wd (lowP 256) 0), .int .u64 (wd (lowP 256) 1), .int .u64 (wd (lowP 256) 2), .int .u64 (wd (lowP 256) 3)] ST4) (.cells #[.func (.func 55) #[] #[.pointer (some ⟨w.heap.size, 0, none⟩)]] 98)
  exact ⟨w.heap.size, w1.heap.size, w1.heap.size + 1, rfl, ⟨kept_obj (by repeat (first | exact Below.refl _ _ | (with_reducible assumption) | refine bw_alloc ?_ _ | refine bw_drew ?_)) hsys, q1, q2⟩, below_up (below_up (bw_alloc (Below.refl _ _) _) B1.out) (by repeat (first | exact Below.refl _ _ | (with_reducible assumption) | refine bw_alloc ?_ _ | refine bw_drew ?_))⟩

end Go.Proofs.Ytlglncnhhgofoaa

/-
  The walk over what tells the charges of a task.
-/
namespace Go.Proofs.Ytlglncnhhgofoaa
open Go.RowKit Go.Maps

/-- A charge in memory, or told. -/
def cgVal (id : Int) (c : Cg) : Value := .agg #[.int .i64 id, .int .i64 c.u, .int .i64 c.v, .int .i64 c.b, .int .i64 c.b]
/-- The boxes of a teller: a task, what comes back. -/
structure TellAt (w : World) (T : TV) (W : World) : Prop where
  low : Below w.heap.size w W
  tb : W.heap[w.heap.size]? = some (.cells #[.int .i64 T.id, .int .i64 T.c, .int .i64 T.d, .int .i64 T.t, .int .i64 T.p, .slice T.a1 T.ch.length T.c1, .slice T.a2 T.us.length T.c2] TT (0, 0))
  res : W.heap[w.heap.size + 1]? = some (.cells #[.int .i64 0, .int .i64 0, .int .i64 0, .int .i64 0, .int .i64 0] 60 (0, 0))
theorem TellAt.below {w : World} {T : TV} {W W' : World} (h : TellAt w T W) (hb : Below W.heap.size W W') : TellAt w T W' := ⟨below_up h.low hb, kept_obj hb h.tb, kept_obj hb h.res⟩
def Blk5 (w : World) (b : Nat) (x0 x1 x2 x3 x4 : Int) : Prop := w.heap[b]? = some (.cells #[.int .i64 x0, .int .i64 x1, .int .i64 x2, .int .i64 x3, .int .i64 x4] 60 (0, 0))
theorem ints_three (w : World) (x y z : Int) (T : TypeId) : Ints (w.alloc (.cells #[.int .i64 x, .int .i64 y, .int .i64 z] T)) (some ⟨w.heap.size, 0, none⟩) [x, y, z] :=
  .inr ⟨_, 0, rfl, fun j u hj => by
    match j, hj with
    | 0, hj => simp at hj; subst hj; rw [World.cell?_alloc_new]; rfl
    | 1, hj => simp at hj; subst hj; rw [World.cell?_alloc_new]; rfl
    | 2, hj => simp at hj; subst hj; rw [World.cell?_alloc_new]; rfl
    | j + 3, hj => simp at hj⟩
theorem Blk5.set {w : World} {b : Nat} {x0 x1 x2 x3 x4 : Int} (h : Blk5 w b x0 x1 x2 x3 x4) (y0 y1 y2 y3 y4 : Int) : Blk5 (((((w.setCell ⟨b, 0, none⟩ (.int .i64 y0)).setCell ⟨b, 1, none⟩ (.int .i64 y1)).setCell ⟨b, 2, none⟩ (.int .i64 y2)).setCell ⟨b, 3, none⟩ (.int .i64 y3)).setCell ⟨b, 4, none⟩ (.int .i64 y4)) b y0 y1 y2 y3 y4 := by
  unfold Blk5 at *
  have h1 := blk_set (o := 0) h (.int .i64 y0)
  have h2 := blk_set (o := 1) h1 (.int .i64 y1)
  have h3 := blk_set (o := 2) h2 (.int .i64 y2)
  have h4 := blk_set (o := 3) h3 (.int .i64 y3)
  have h5 := blk_set (o := 4) h4 (.int .i64 y4)
  exact h5

theorem blk5_of {w : World} {b : Nat} {x0 x1 x2 x3 x4 : Int} (h : w.heap[b]? = some (.cells #[.int .i64 x0, .int .i64 x1, .int .i64 x2, .int .i64 x3, .int .i64 x4] 60 (0, 0))) : Blk5 w b x0 x1 x2 x3 x4 := h
theorem blk5_new (w : World) (x0 x1 x2 x3 x4 : Int) : Blk5 (w.alloc (.cells #[.int .i64 x0, .int .i64 x1, .int .i64 x2, .int .i64 x3, .int .i64 x4] 60)) w.heap.size x0 x1 x2 x3 x4 := heap_alloc_new w _
set_option maxRecDepth 100000 in
set_option maxHeartbeats 8000000 in
theorem tell_any {w : World} {s r : Int} {a : Option Addr} {n cap : Nat} {L : List TV} {G E C : Nat} (hc : ChgAt w s r a n cap G E C) (ht : Tasks w a n cap L) (hL : ∀ T ∈ L, l_Told T) (hn : n ≤ 100) (h0 : 0 ≤ r) (h1 : r ≤ 1000) (T : TV) (hT : l_Told T) (hok : T.ok w) :
    Calls Try.prog 56 #[.agg #[.int .i64 T.id, .int .i64 T.c, .int .i64 T.d, .int .i64 T.t, .int .i64 T.p, .slice T.a1 T.ch.length T.c1, .slice T.a2 T.us.length T.c2], .pointer (some ⟨G, 0, none⟩), .pointer (some ⟨E, 0, none⟩), .pointer (some ⟨C, 0, none⟩)] w fun e w' => e = .returned (cgVal T.id (cgOf r L T.tk)) ∧ Below w.heap.size w w' := by
  obtain ⟨K, hK⟩ : ∃ K : Nat, T.c = (K : Int) := ⟨T.c.toNat, by have := hT.c1; omega⟩
  have hlen := ht.len
  have AC := Lib.hid (fun v (hb : Below w.heap.size w v) => all_any L hL T.id v a n cap hn (ht.below hb))
  have HC := Lib.hid hc
  have M1 := Lib.hid (fun v (hb : Below w.heap.size w v) => most_any T hT K hK v (hok.below hb) (lowP 256))
  obtain ⟨O, hO⟩ : ∃ O, allN L T.id n = O := ⟨_, rfl⟩
  rw [hO] at AC
  have M2 := Lib.hid (fun v (hb : Below w.heap.size w v) => most_any T hT K hK v (hok.below hb) O)
  have LC := Lib.hid (fun v => len_any O v)
  have HCG : Hid (cgOf r L T.tk = ⟨r * ((mostOf T.us K (lowP 256)).1 : Nat), r * (cntN O 256 : Nat), r * ((mostOf T.us K O).1 : Nat)⟩) := by
    show _ = _
    unfold cgOf
    rw [hlen, show T.tk.us = T.us from rfl, show T.tk.id = T.id from rfl, show T.tk.c = T.c from rfl, hK, hO]; rfl
  obtain ⟨mu, hmu⟩ : ∃ mu, mostOf T.us K (lowP 256) = mu := ⟨_, rfl⟩
  obtain ⟨mb, hmb⟩ : ∃ mb, mostOf T.us K O = mb := ⟨_, rfl⟩
  obtain ⟨cv, hcv⟩ : ∃ cv, cntN O 256 = cv := ⟨_, rfl⟩
  have k1 : mu.1 ≤ 256 := by rw [← hmu]; exact most_le _ _ _
  have k2 : mb.1 ≤ 256 := by rw [← hmb]; exact most_le _ _ _
  have k3 : cv ≤ 256 := by rw [← hcv]; exact cntN_le _ _
  have hle := cg_least h0 L T.tk
  rw [HCG.out, hmu, hmb, hcv] at hle
  rw [hmu, hmb, hcv] at HCG
  rw [hmu] at M1
  rw [hmb] at M2
  rw [hcv] at LC
  have C1 := Lib.hid (fun v (hb : Below w.heap.size w v) => cost_any (hc.below hb).sys mu.1 h0 h1 k1)
  have C2 := Lib.hid (fun v (hb : Below w.heap.size w v) => cost_any (hc.below hb).sys cv h0 h1 k3)
  have C3 := Lib.hid (fun v (hb : Below w.heap.size w v) => cost_any (hc.below hb).sys mb.1 h0 h1 k2)
  rw [HCG.out]
  unfold SetBack at AC
  clear hmu hmb hcv HCG hc ht hL hT hok hK hO hlen
  obtain ⟨U, hU⟩ : ∃ U, r * (mu.1 : Int) = U := ⟨_, rfl⟩
  obtain ⟨V, hV⟩ : ∃ V, r * (cv : Int) = V := ⟨_, rfl⟩
  obtain ⟨B, hB⟩ : ∃ B, r * (mb.1 : Int) = B := ⟨_, rfl⟩
  simp only [hU, hV, hB] at hle C1 C2 C3 ⊢
  obtain ⟨g1, g2⟩ := hle
  unfold cgVal
  have LE : Hid (∃ j : Nat, [U, V, B][j]? = some B ∧ ∀ (i : Nat) (x : Int), i < j → [U, V, B][i]? = some x → B < x) := by
    by_cases q1 : U = B
    · exact ⟨0, by rw [q1]; rfl, fun i x hi => by omega⟩
    · by_cases q2 : V = B
      · refine ⟨1, by rw [q2]; rfl, fun i x hi hx => ?_⟩
        obtain rfl : i = 0 := by omega
        obtain rfl : U = x := by simpa using hx
        omega
      · refine ⟨2, rfl, fun i x hi hx => ?_⟩
        rcases (show i = 0 ∨ i = 1 by omega) with rfl | rfl
        · obtain rfl : U = x := by simpa using hx
          omega
        · obtain rfl : V = x := by simpa using hx
          omega
  have LL : Hid (∀ (b c : Nat) (v : World), Ints v (some ⟨b, 0, none⟩) [U, V, B] → Calls Try.prog 60 #[.slice (some ⟨b, 0, none⟩) 3 c] v fun e w' => e = .returned (.int .i64 B) ∧ v = w') := by
    intro b c v hi
    obtain ⟨j, h1, h2⟩ := LE.out
    exact least_any [U, V, B] B j h1 (fun x hx => by
      rcases (show x = U ∨ x = V ∨ x = B by simpa using hx) with rfl | rfl | rfl <;> omega) h2 (by show 3 ≤ 100; omega) _ c v hi
  clear LE hU hV hB g1 g2 h0 h1 k1 k2 k3
  go_enter Try.func56, Try.ntmps56
  go_upto_region 1 with fail
  obtain ⟨B0, hB0⟩ : ∃ B0, w.heap.size + 1 = B0 := ⟨_, rfl⟩
  refine gen_world (TellAt w T) ⟨(by repeat (first | exact Below.refl _ _ | (with_reducible assumption) | refine bw_alloc ?_ _ | refine bw_drew ?_)), (two_boxes w rfl _ _).1, (two_boxes w rfl _ _).2⟩ ?_
  intro W1 hw1
  have H1 := Lib.hid hw1
  clear hw1
  have t0 : W1.cell? ⟨w.heap.size, 0, none⟩ = some (.int .i64 T.id) := by rw [blk_cell H1.out.tb]; rfl
  have s2 : W1.cell? ⟨G, 2, none⟩ = some (.slice a n cap) := by rw [blk_cell (HC.out.below H1.out.low).sys]; rfl
  go_upto_region 2 with (go_at_call 57; (with_reducible refine (AC.out _ H1.out.low).mono ?_); rintro e w2 ⟨rfl, b2⟩; have B2 := Lib.hid b2; clear b2)
  obtain ⟨D, hD⟩ : ∃ D, w2.heap.size = D := ⟨_, rfl⟩
  have hq2 := heap_alloc_new w2 (.cells #[.int .u64 (wd O 0), .int .u64 (wd O 1), .int .u64 (wd O 2), .int .u64 (wd O 3)] ST4)
  rw [hD] at hq2 ⊢
  refine gen_world (fun v => TellAt w T v ∧ v.heap[D]? = some (.cells #[.int .u64 (wd O 0), .int .u64 (wd O 1), .int .u64 (wd O 2), .int .u64 (wd O 3)] ST4 (0, 0))) ⟨(H1.out.below B2.out).below (by repeat (first | exact Below.refl _ _ | (with_reducible assumption) | refine bw_alloc ?_ _ | refine bw_drew ?_)), hq2⟩ ?_
  intro W2 ⟨hw2, hd2⟩
  have H2 := Lib.hid hw2
  have D2 := Lib.hid hd2
  clear hq2 hD t0 s2
  have ht := H2.out.tb
  have hE := (HC.out.below H2.out.low).evr
  have e0 : W2.cell? ⟨E, 0, none⟩ = some (.int .u64 (wd (lowP 256) 0)) := by rw [blk_cell hE]; rfl
  have e1 : W2.cell? ⟨E, 1, none⟩ = some (.int .u64 (wd (lowP 256) 1)) := by rw [blk_cell hE]; rfl
  have e2 : W2.cell? ⟨E, 2, none⟩ = some (.int .u64 (wd (lowP 256) 2)) := by rw [blk_cell hE]; rfl
  have e3 : W2.cell? ⟨E, 3, none⟩ = some (.int .u64 (wd (lowP 256) 3)) := by rw [blk_cell hE]; rfl
  have t0 : W2.cell? ⟨w.heap.size, 0, none⟩ = some (.int .i64 T.id) := by rw [blk_cell ht]; rfl
  have t1 : W2.cell? ⟨w.heap.size, 1, none⟩ = some (.int .i64 T.c) := by rw [blk_cell ht]; rfl
  have t2 : W2.cell? ⟨w.heap.size, 2, none⟩ = some (.int .i64 T.d) := by rw [blk_cell ht]; rfl
  have t3 : W2.cell? ⟨w.heap.size, 3, none⟩ = some (.int .i64 T.t) := by rw [blk_cell ht]; rfl
  have t4 : W2.cell? ⟨w.heap.size, 4, none⟩ = some (.int .i64 T.p) := by rw [blk_cell ht]; rfl
  have t5 : W2.cell? ⟨w.heap.size, 5, none⟩ = some (.slice T.a1 T.ch.length T.c1) := by rw [blk_cell ht]; rfl
  have t6 : W2.cell? ⟨w.heap.size, 6, none⟩ = some (.slice T.a2 T.us.length T.c2) := by rw [blk_cell ht]; rfl
  clear hw2 hd2 ht hE
  go_upto_region 3 with (go_at_call 58; (with_reducible refine (M1.out _ H2.out.low).mono ?_); rintro e w3 ⟨rfl, b3⟩; have B3 := Lib.hid b3; clear b3)
  have ht := kept_obj B3.out H2.out.tb
  have hd := kept_obj B3.out D2.out
  have t0 : w3.cell? ⟨w.heap.size, 0, none⟩ = some (.int .i64 T.id) := by rw [blk_cell ht]; rfl
  have t1 : w3.cell? ⟨w.heap.size, 1, none⟩ = some (.int .i64 T.c) := by rw [blk_cell ht]; rfl
  have t2 : w3.cell? ⟨w.heap.size, 2, none⟩ = some (.int .i64 T.d) := by rw [blk_cell ht]; rfl
  have t3 : w3.cell? ⟨w.heap.size, 3, none⟩ = some (.int .i64 T.t) := by rw [blk_cell ht]; rfl
  have t4 : w3.cell? ⟨w.heap.size, 4, none⟩ = some (.int .i64 T.p) := by rw [blk_cell ht]; rfl
  have t5 : w3.cell? ⟨w.heap.size, 5, none⟩ = some (.slice T.a1 T.ch.length T.c1) := by rw [blk_cell ht]; rfl
  have t6 : w3.cell? ⟨w.heap.size, 6, none⟩ = some (.slice T.a2 T.us.length T.c2) := by rw [blk_cell ht]; rfl
  have e0 : w3.cell? ⟨D, 0, none⟩ = some (.int .u64 (wd O 0)) := by rw [blk_cell hd]; rfl
  have e1 : w3.cell? ⟨D, 1, none⟩ = some (.int .u64 (wd O 1)) := by rw [blk_cell hd]; rfl
  have e2 : w3.cell? ⟨D, 2, none⟩ = some (.int .u64 (wd O 2)) := by rw [blk_cell hd]; rfl
  have e3 : w3.cell? ⟨D, 3, none⟩ = some (.int .u64 (wd O 3)) := by rw [blk_cell hd]; rfl
  clear ht hd
  go_upto_region 4 with (go_at_call 58; (with_reducible refine (M2.out _ (below_up H2.out.low B3.out)).mono ?_); rintro e w4 ⟨rfl, b4⟩; have B4 := Lib.hid b4; clear b4)
  refine gen_world (fun v => TellAt w T v ∧ v.heap[D]? = some (.cells #[.int .u64 (wd O 0), .int .u64 (wd O 1), .int .u64 (wd O 2), .int .u64 (wd O 3)] ST4 (0, 0))) ⟨(H2.out.below B3.out).below B4.out, kept_obj B4.out (kept_obj B3.out D2.out)⟩ ?_
  intro W3 ⟨hw3, hd3⟩
  have H3 := Lib.hid hw3
  have D3 := Lib.hid hd3
  have MK : Hid (∀ w', Below W3.heap.size W3 w' → (w'.cell? ⟨w.heap.size, 0, none⟩ = some (.int .i64 T.id) ∧ w'.cell? ⟨C, 0, none⟩ = some (.func (.func 55) #[] #[.pointer (some ⟨G, 0, none⟩)]) ∧ w'.cell? ⟨D, 0, none⟩ = some (.int .u64 (wd O 0)) ∧ w'.cell? ⟨D, 1, none⟩ = some (.int .u64 (wd O 1)) ∧ w'.cell? ⟨D, 2, none⟩ = some (.int .u64 (wd O 2)) ∧ w'.cell? ⟨D, 3, none⟩ = some (.int .u64 (wd O 3)))) := fun w' hb => by
    have x0 := kept_obj hb H3.out.tb
    have x1 := kept_obj hb D3.out
    have x2 := ((HC.out.below H3.out.low).below hb).cst
    exact ⟨by rw [blk_cell x0]; rfl, by rw [blk_cell x2]; rfl, by rw [blk_cell x1]; rfl, by rw [blk_cell x1]; rfl, by rw [blk_cell x1]; rfl, by rw [blk_cell x1]; rfl⟩
  clear hw3 hd3 e0 e1 e2 e3 t0 t1 t2 t3 t4 t5 t6
  obtain ⟨t0, c0, e0, e1, e2, e3⟩ := MK.out W3 (Below.refl _ _)
  go_cut [11] (fun u wx => ∃ gx : Nat, u = .pointer (some ⟨gx, 0, none⟩) ∧ Hid (Blk5 wx gx T.id U V B 0) ∧ Hid (Below W3.heap.size W3 wx) ∧ Hid (W3.heap.size ≤ gx))
  case first =>
    go_region_held3 (fun w' => w'.cell? ⟨w.heap.size, 0, none⟩ = some (.int .i64 T.id) ∧ w'.cell? ⟨C, 0, none⟩ = some (.func (.func 55) #[] #[.pointer (some ⟨G, 0, none⟩)]) ∧ w'.cell? ⟨D, 0, none⟩ = some (.int .u64 (wd O 0)) ∧ w'.cell? ⟨D, 1, none⟩ = some (.int .u64 (wd O 1)) ∧ w'.cell? ⟨D, 2, none⟩ = some (.int .u64 (wd O 2)) ∧ w'.cell? ⟨D, 3, none⟩ = some (.int .u64 (wd O 3))) (exact MK.out _ (by repeat (first | exact Below.refl _ _ | (with_reducible assumption) | refine bw_drew ?_ | refine bw_alloc ?_ _ | refine Below.setCell ?_ (by show _ ≤ _; first | exact Nat.le_refl _ | exact bx1.size | exact bx2.size | exact bx3.size | exact bx4.size) _))) (first
      | (go_at_call 55; (with_reducible refine (Calls.upV (V := W3) (by repeat (first | exact Below.refl _ _ | (with_reducible assumption) | refine bw_alloc ?_ _ | refine bw_drew ?_)) (C1.out _ (below_up H3.out.low (by repeat (first | exact Below.refl _ _ | (with_reducible assumption) | refine bw_alloc ?_ _ | refine bw_drew ?_))))).mono ?_); rintro e x1 ⟨rfl, bz, bx1⟩; (first | (have hq : x1.heap[W3.heap.size]? = some (.cells #[.int .i64 0, .int .i64 0, .int .i64 0, .int .i64 0, .int .i64 0] 60 (0, 0)) := kept_obj bz (heap_alloc_new W3.drew _); have HQ := Lib.hid hq; have z0 : x1.cell? ⟨W3.heap.size, 0, none⟩ = some (.int .i64 0) := (by rw [blk_cell hq]; rfl); have z1 : x1.cell? ⟨W3.heap.size, 1, none⟩ = some (.int .i64 0) := (by rw [blk_cell hq]; rfl); have z2 : x1.cell? ⟨W3.heap.size, 2, none⟩ = some (.int .i64 0) := (by rw [blk_cell hq]; rfl); have z3 : x1.cell? ⟨W3.heap.size, 3, none⟩ = some (.int .i64 0) := (by rw [blk_cell hq]; rfl); have z4 : x1.cell? ⟨W3.heap.size, 4, none⟩ = some (.int .i64 0) := (by rw [blk_cell hq]; rfl); have f0 : x1.frozen? ⟨W3.heap.size, 0, none⟩ = false := blk_free hq 0; have f1 : x1.frozen? ⟨W3.heap.size, 1, none⟩ = false := blk_free hq 1; have f2 : x1.frozen? ⟨W3.heap.size, 2, none⟩ = false := blk_free hq 2; have f3 : x1.frozen? ⟨W3.heap.size, 3, none⟩ = false := blk_free hq 3; have f4 : x1.frozen? ⟨W3.heap.size, 4, none⟩ = false := blk_free hq 4; clear hq) | skip); clear bz)
      | (go_at_call 59; (with_reducible refine (Calls.upV (V := W3) (by repeat (first | exact Below.refl _ _ | (with_reducible assumption) | refine bw_alloc ?_ _ | refine bw_drew ?_)) (LC.out _)).mono ?_); rintro e x2 ⟨rfl, bz, bx2⟩; (first | (have hq : x2.heap[W3.heap.size]? = some (.cells #[.int .i64 0, .int .i64 0, .int .i64 0, .int .i64 0, .int .i64 0] 60 (0, 0)) := kept_obj bz HQ.out; have HQ := Lib.hid hq; have z0 : x2.cell? ⟨W3.heap.size, 0, none⟩ = some (.int .i64 0) := (by rw [blk_cell hq]; rfl); have z1 : x2.cell? ⟨W3.heap.size, 1, none⟩ = some (.int .i64 0) := (by rw [blk_cell hq]; rfl); have z2 : x2.cell? ⟨W3.heap.size, 2, none⟩ = some (.int .i64 0) := (by rw [blk_cell hq]; rfl); have z3 : x2.cell? ⟨W3.heap.size, 3, none⟩ = some (.int .i64 0) := (by rw [blk_cell hq]; rfl); have z4 : x2.cell? ⟨W3.heap.size, 4, none⟩ = some (.int .i64 0) := (by rw [blk_cell hq]; rfl); have f0 : x2.frozen? ⟨W3.heap.size, 0, none⟩ = false := blk_free hq 0; have f1 : x2.frozen? ⟨W3.heap.size, 1, none⟩ = false := blk_free hq 1; have f2 : x2.frozen? ⟨W3.heap.size, 2, none⟩ = false := blk_free hq 2; have f3 : x2.frozen? ⟨W3.heap.size, 3, none⟩ = false := blk_free hq 3; have f4 : x2.frozen? ⟨W3.heap.size, 4, none⟩ = false := blk_free hq 4; clear hq) | (have hq : x2.heap[x1.heap.size]? = some (.cells #[.int .i64 0, .int .i64 0, .int .i64 0, .int .i64 0, .int .i64 0] 60 (0, 0)) := kept_obj bz (heap_alloc_new x1 _); have HQ := Lib.hid hq; have z0 : x2.cell? ⟨x1.heap.size, 0, none⟩ = some (.int .i64 0) := (by rw [blk_cell hq]; rfl); have z1 : x2.cell? ⟨x1.heap.size, 1, none⟩ = some (.int .i64 0) := (by rw [blk_cell hq]; rfl); have z2 : x2.cell? ⟨x1.heap.size, 2, none⟩ = some (.int .i64 0) := (by rw [blk_cell hq]; rfl); have z3 : x2.cell? ⟨x1.heap.size, 3, none⟩ = some (.int .i64 0) := (by rw [blk_cell hq]; rfl); have z4 : x2.cell? ⟨x1.heap.size, 4, none⟩ = some (.int .i64 0) := (by rw [blk_cell hq]; rfl); have f0 : x2.frozen? ⟨x1.heap.size, 0, none⟩ = false := blk_free hq 0; have f1 : x2.frozen? ⟨x1.heap.size, 1, none⟩ = false := blk_free hq 1; have f2 : x2.frozen? ⟨x1.heap.size, 2, none⟩ = false := blk_free hq 2; have f3 : x2.frozen? ⟨x1.heap.size, 3, none⟩ = false := blk_free hq 3; have f4 : x2.frozen? ⟨x1.heap.size, 4, none⟩ = false := blk_free hq 4; clear hq) | skip); clear bz)
      | (go_at_call 55; (with_reducible refine (Calls.upV (V := W3) (by repeat (first | exact Below.refl _ _ | (with_reducible assumption) | refine bw_alloc ?_ _ | refine bw_drew ?_)) (C2.out _ (below_up H3.out.low (by repeat (first | exact Below.refl _ _ | (with_reducible assumption) | refine bw_alloc ?_ _ | refine bw_drew ?_))))).mono ?_); rintro e x3 ⟨rfl, bz, bx3⟩; (first | (have hq : x3.heap[W3.heap.size]? = some (.cells #[.int .i64 0, .int .i64 0, .int .i64 0, .int .i64 0, .int .i64 0] 60 (0, 0)) := kept_obj bz HQ.out; have HQ := Lib.hid hq; have z0 : x3.cell? ⟨W3.heap.size, 0, none⟩ = some (.int .i64 0) := (by rw [blk_cell hq]; rfl); have z1 : x3.cell? ⟨W3.heap.size, 1, none⟩ = some (.int .i64 0) := (by rw [blk_cell hq]; rfl); have z2 : x3.cell? ⟨W3.heap.size, 2, none⟩ = some (.int .i64 0) := (by rw [blk_cell hq]; rfl); have z3 : x3.cell? ⟨W3.heap.size, 3, none⟩ = some (.int .i64 0) := (by rw [blk_cell hq]; rfl); have z4 : x3.cell? ⟨W3.heap.size, 4, none⟩ = some (.int .i64 0) := (by rw [blk_cell hq]; rfl); have f0 : x3.frozen? ⟨W3.heap.size, 0, none⟩ = false := blk_free hq 0; have f1 : x3.frozen? ⟨W3.heap.size, 1, none⟩ = false := blk_free hq 1; have f2 : x3.frozen? ⟨W3.heap.size, 2, none⟩ = false := blk_free hq 2; have f3 : x3.frozen? ⟨W3.heap.size, 3, none⟩ = false := blk_free hq 3; have f4 : x3.frozen? ⟨W3.heap.size, 4, none⟩ = false := blk_free hq 4; clear hq) | (have hq : x3.heap[x1.heap.size]? = some (.cells #[.int .i64 0, .int .i64 0, .int .i64 0, .int .i64 0, .int .i64 0] 60 (0, 0)) := kept_obj bz HQ.out; have HQ := Lib.hid hq; have z0 : x3.cell? ⟨x1.heap.size, 0, none⟩ = some (.int .i64 0) := (by rw [blk_cell hq]; rfl); have z1 : x3.cell? ⟨x1.heap.size, 1, none⟩ = some (.int .i64 0) := (by rw [blk_cell hq]; rfl); have z2 : x3.cell? ⟨x1.heap.size, 2, none⟩ = some (.int .i64 0) := (by rw [blk_cell hq]; rfl); have z3 : x3.cell? ⟨x1.heap.size, 3, none⟩ = some (.int .i64 0) := (by rw [blk_cell hq]; rfl); have z4 : x3.cell? ⟨x1.heap.size, 4, none⟩ = some (.int .i64 0) := (by rw [blk_cell hq]; rfl); have f0 : x3.frozen? ⟨x1.heap.size, 0, none⟩ = false := blk_free hq 0; have f1 : x3.frozen? ⟨x1.heap.size, 1, none⟩ = false := blk_free hq 1; have f2 : x3.frozen? ⟨x1.heap.size, 2, none⟩ = false := blk_free hq 2; have f3 : x3.frozen? ⟨x1.heap.size, 3, none⟩ = false := blk_free hq 3; have f4 : x3.frozen? ⟨x1.heap.size, 4, none⟩ = false := blk_free hq 4; clear hq) | (have hq : x3.heap[x2.heap.size]? = some (.cells #[.int .i64 0, .int .i64 0, .int .i64 0, .int .i64 0, .int .i64 0] 60 (0, 0)) := kept_obj bz (heap_alloc_new x2 _); have HQ := Lib.hid hq; have z0 : x3.cell? ⟨x2.heap.size, 0, none⟩ = some (.int .i64 0) := (by rw [blk_cell hq]; rfl); have z1 : x3.cell? ⟨x2.heap.size, 1, none⟩ = some (.int .i64 0) := (by rw [blk_cell hq]; rfl); have z2 : x3.cell? ⟨x2.heap.size, 2, none⟩ = some (.int .i64 0) := (by rw [blk_cell hq]; rfl); have z3 : x3.cell? ⟨x2.heap.size, 3, none⟩ = some (.int .i64 0) := (by rw [blk_cell hq]; rfl); have z4 : x3.cell? ⟨x2.heap.size, 4, none⟩ = some (.int .i64 0) := (by rw [blk_cell hq]; rfl); have f0 : x3.frozen? ⟨x2.heap.size, 0, none⟩ = false := blk_free hq 0; have f1 : x3.frozen? ⟨x2.heap.size, 1, none⟩ = false := blk_free hq 1; have f2 : x3.frozen? ⟨x2.heap.size, 2, none⟩ = false := blk_free hq 2; have f3 : x3.frozen? ⟨x2.heap.size, 3, none⟩ = false := blk_free hq 3; have f4 : x3.frozen? ⟨x2.heap.size, 4, none⟩ = false := blk_free hq 4; clear hq) | skip); clear bz)
      | (go_at_call 55; (with_reducible refine (Calls.upV (V := W3) (by repeat (first | exact Below.refl _ _ | (with_reducible assumption) | refine bw_alloc ?_ _ | refine bw_drew ?_)) (C3.out _ (below_up H3.out.low (by repeat (first | exact Below.refl _ _ | (with_reducible assumption) | refine bw_alloc ?_ _ | refine bw_drew ?_))))).mono ?_); rintro e x4 ⟨rfl, bz, bx4⟩; (first | (have hq : x4.heap[W3.heap.size]? = some (.cells #[.int .i64 0, .int .i64 0, .int .i64 0, .int .i64 0, .int .i64 0] 60 (0, 0)) := kept_obj bz HQ.out; have HQ := Lib.hid hq; have z0 : x4.cell? ⟨W3.heap.size, 0, none⟩ = some (.int .i64 0) := (by rw [blk_cell hq]; rfl); have z1 : x4.cell? ⟨W3.heap.size, 1, none⟩ = some (.int .i64 0) := (by rw [blk_cell hq]; rfl); have z2 : x4.cell? ⟨W3.heap.size, 2, none⟩ = some (.int .i64 0) := (by rw [blk_cell hq]; rfl); have z3 : x4.cell? ⟨W3.heap.size, 3, none⟩ = some (.int .i64 0) := (by rw [blk_cell hq]; rfl); have z4 : x4.cell? ⟨W3.heap.size, 4, none⟩ = some (.int .i64 0) := (by rw [blk_cell hq]; rfl); have f0 : x4.frozen? ⟨W3.heap.size, 0, none⟩ = false := blk_free hq 0; have f1 : x4.frozen? ⟨W3.heap.size, 1, none⟩ = false := blk_free hq 1; have f2 : x4.frozen? ⟨W3.heap.size, 2, none⟩ = false := blk_free hq 2; have f3 : x4.frozen? ⟨W3.heap.size, 3, none⟩ = false := blk_free hq 3; have f4 : x4.frozen? ⟨W3.heap.size, 4, none⟩ = false := blk_free hq 4; clear hq) | (have hq : x4.heap[x1.heap.size]? = some (.cells #[.int .i64 0, .int .i64 0, .int .i64 0, .int .i64 0, .int .i64 0] 60 (0, 0)) := kept_obj bz HQ.out; have HQ := Lib.hid hq; have z0 : x4.cell? ⟨x1.heap.size, 0, none⟩ = some (.int .i64 0) := (by rw [blk_cell hq]; rfl); have z1 : x4.cell? ⟨x1.heap.size, 1, none⟩ = some (.int .i64 0) := (by rw [blk_cell hq]; rfl); have z2 : x4.cell? ⟨x1.heap.size, 2, none⟩ = some (.int .i64 0) := (by rw [blk_cell hq]; rfl); have z3 : x4.cell? ⟨x1.heap.size, 3, none⟩ = some (.int .i64 0) := (by rw [blk_cell hq]; rfl); have z4 : x4.cell? ⟨x1.heap.size, 4, none⟩ = some (.int .i64 0) := (by rw [blk_cell hq]; rfl); have f0 : x4.frozen? ⟨x1.heap.size, 0, none⟩ = false := blk_free hq 0; have f1 : x4.frozen? ⟨x1.heap.size, 1, none⟩ = false := blk_free hq 1; have f2 : x4.frozen? ⟨x1.heap.size, 2, none⟩ = false := blk_free hq 2; have f3 : x4.frozen? ⟨x1.heap.size, 3, none⟩ = false := blk_free hq 3; have f4 : x4.frozen? ⟨x1.heap.size, 4, none⟩ = false := blk_free hq 4; clear hq) | (have hq : x4.heap[x2.heap.size]? = some (.cells #[.int .i64 0, .int .i64 0, .int .i64 0, .int .i64 0, .int .i64 0] 60 (0, 0)) := kept_obj bz HQ.out; have HQ := Lib.hid hq; have z0 : x4.cell? ⟨x2.heap.size, 0, none⟩ = some (.int .i64 0) := (by rw [blk_cell hq]; rfl); have z1 : x4.cell? ⟨x2.heap.size, 1, none⟩ = some (.int .i64 0) := (by rw [blk_cell hq]; rfl); have z2 : x4.cell? ⟨x2.heap.size, 2, none⟩ = some (.int .i64 0) := (by rw [blk_cell hq]; rfl); have z3 : x4.cell? ⟨x2.heap.size, 3, none⟩ = some (.int .i64 0) := (by rw [blk_cell hq]; rfl); have z4 : x4.cell? ⟨x2.heap.size, 4, none⟩ = some (.int .i64 0) := (by rw [blk_cell hq]; rfl); have f0 : x4.frozen? ⟨x2.heap.size, 0, none⟩ = false := blk_free hq 0; have f1 : x4.frozen? ⟨x2.heap.size, 1, none⟩ = false := blk_free hq 1; have f2 : x4.frozen? ⟨x2.heap.size, 2, none⟩ = false := blk_free hq 2; have f3 : x4.frozen? ⟨x2.heap.size, 3, none⟩ = false := blk_free hq 3; have f4 : x4.frozen? ⟨x2.heap.size, 4, none⟩ = false := blk_free hq 4; clear hq) | (have hq : x4.heap[x3.heap.size]? = some (.cells #[.int .i64 0, .int .i64 0, .int .i64 0, .int .i64 0, .int .i64 0] 60 (0, 0)) := kept_obj bz (heap_alloc_new x3 _); have HQ := Lib.hid hq; have z0 : x4.cell? ⟨x3.heap.size, 0, none⟩ = some (.int .i64 0) := (by rw [blk_cell hq]; rfl); have z1 : x4.cell? ⟨x3.heap.size, 1, none⟩ = some (.int .i64 0) := (by rw [blk_cell hq]; rfl); have z2 : x4.cell? ⟨x3.heap.size, 2, none⟩ = some (.int .i64 0) := (by rw [blk_cell hq]; rfl); have z3 : x4.cell? ⟨x3.heap.size, 3, none⟩ = some (.int .i64 0) := (by rw [blk_cell hq]; rfl); have z4 : x4.cell? ⟨x3.heap.size, 4, none⟩ = some (.int .i64 0) := (by rw [blk_cell hq]; rfl); have f0 : x4.frozen? ⟨x3.heap.size, 0, none⟩ = false := blk_free hq 0; have f1 : x4.frozen? ⟨x3.heap.size, 1, none⟩ = false := blk_free hq 1; have f2 : x4.frozen? ⟨x3.heap.size, 2, none⟩ = false := blk_free hq 2; have f3 : x4.frozen? ⟨x3.heap.size, 3, none⟩ = false := blk_free hq 3; have f4 : x4.frozen? ⟨x3.heap.size, 4, none⟩ = false := blk_free hq 4; clear hq) | skip); clear bz))
    all_goals
      go_wp2_with fail
      go_meet
      first
        | with_reducible exact ⟨W3.heap.size, rfl, Lib.hid (Blk5.set (blk5_of HQ.out) T.id U V B 0), Lib.hid (by repeat (first | (with_reducible assumption) | refine bw_alloc ?_ _ | refine Below.setCell ?_ (by show _ ≤ _; first | exact Nat.le_refl _ | exact bx1.size | exact bx2.size | exact bx3.size | exact bx4.size) _)), Lib.hid (Nat.le_refl _)⟩
        | with_reducible exact ⟨x1.heap.size, rfl, Lib.hid (Blk5.set (blk5_of HQ.out) T.id U V B 0), Lib.hid (by repeat (first | (with_reducible assumption) | refine bw_alloc ?_ _ | refine Below.setCell ?_ (by show _ ≤ _; first | exact Nat.le_refl _ | exact bx1.size | exact bx2.size | exact bx3.size | exact bx4.size) _)), Lib.hid bx1.size⟩
        | with_reducible exact ⟨x2.heap.size, rfl, Lib.hid (Blk5.set (blk5_of HQ.out) T.id U V B 0), Lib.hid (by repeat (first | (with_reducible assumption) | refine bw_alloc ?_ _ | refine Below.setCell ?_ (by show _ ≤ _; first | exact Nat.le_refl _ | exact bx1.size | exact bx2.size | exact bx3.size | exact bx4.size) _)), Lib.hid bx2.size⟩
        | with_reducible exact ⟨x3.heap.size, rfl, Lib.hid (Blk5.set (blk5_of HQ.out) T.id U V B 0), Lib.hid (by repeat (first | (with_reducible assumption) | refine bw_alloc ?_ _ | refine Below.setCell ?_ (by show _ ≤ _; first | exact Nat.le_refl _ | exact bx1.size | exact bx2.size | exact bx3.size | exact bx4.size) _)), Lib.hid bx3.size⟩
        | with_reducible exact ⟨x4.heap.size, rfl, Lib.hid (blk5_new x4 _ _ _ _ _), Lib.hid (by repeat (first | (with_reducible assumption) | refine bw_alloc ?_ _ | refine Below.setCell ?_ (by show _ ≤ _; first | exact Nat.le_refl _ | exact bx1.size | exact bx2.size | exact bx3.size | exact bx4.size) _)), Lib.hid bx4.size⟩
  case rest =>
    obtain ⟨gx, rfl, HX, HB, HG⟩ := hcut
    have x1 : wc.cell? ⟨gx, 1, none⟩ = some (.int .i64 U) := by rw [blk_cell HX.out]; rfl
    have x2 : wc.cell? ⟨gx, 2, none⟩ = some (.int .i64 V) := by rw [blk_cell HX.out]; rfl
    have x3 : wc.cell? ⟨gx, 3, none⟩ = some (.int .i64 B) := by rw [blk_cell HX.out]; rfl
    clear MK t0 c0 e0 e1 e2 e3
    have x4 : wc.cell? ⟨gx, 4, none⟩ = some (.int .i64 0) := by rw [blk_cell HX.out]; rfl
    have f4 := blk_free HX.out 4
    have hl := lt_of_block HX.out
    go_upto_region 6 with (go_at_call 60; (with_reducible refine (LL.out _ _ _ (ints_three _ _ _ _ _)).mono ?_); rintro e w5 ⟨rfl, rfl⟩)
    have hset := blk_set (o := 4) HX.out (.int .i64 B)
    refine gen_world (fun v => TellAt w T v ∧ Blk5 v gx T.id U V B B ∧ Hid (w.heap.size + 1 < gx)) ?_ ?_
    · refine ⟨H3.out.below ?_, ?_, Lib.hid (Nat.lt_of_lt_of_le (lt_of_block H3.out.res) HG.out)⟩
      · have hb := HB.out
        have hg := HG.out
        repeat (first | (with_reducible assumption) | refine bw_alloc ?_ _ | refine Below.setCell ?_ (by exact hg) _)
      · exact kept_obj (bw_alloc (Below.refl _ _) _) hset
    intro W5 ⟨h5, hx5, HGX⟩
    have H5 := Lib.hid h5
    have HX5 := Lib.hid hx5
    clear hset x1 x2 x3 x4 f4 hl
    have hres := h5.res
    have x0 : W5.cell? ⟨gx, 0, none⟩ = some (.int .i64 T.id) := by rw [blk_cell hx5]; rfl
    have x1 : W5.cell? ⟨gx, 1, none⟩ = some (.int .i64 U) := by rw [blk_cell hx5]; rfl
    have x2 : W5.cell? ⟨gx, 2, none⟩ = some (.int .i64 V) := by rw [blk_cell hx5]; rfl
    have x3 : W5.cell? ⟨gx, 3, none⟩ = some (.int .i64 B) := by rw [blk_cell hx5]; rfl
    have x4 : W5.cell? ⟨gx, 4, none⟩ = some (.int .i64 B) := by rw [blk_cell hx5]; rfl
    have z0 : W5.cell? ⟨w.heap.size + 1, 0, none⟩ = some (.int .i64 0) := by rw [blk_cell hres]; rfl
    have f0 := blk_free hres 0
    have z1 : W5.cell? ⟨w.heap.size + 1, 1, none⟩ = some (.int .i64 0) := by rw [blk_cell hres]; rfl
    have f1 := blk_free hres 1
    have z2 : W5.cell? ⟨w.heap.size + 1, 2, none⟩ = some (.int .i64 0) := by rw [blk_cell hres]; rfl
    have f2 := blk_free hres 2
    have z3 : W5.cell? ⟨w.heap.size + 1, 3, none⟩ = some (.int .i64 0) := by rw [blk_cell hres]; rfl
    have f3 := blk_free hres 3
    have z4 : W5.cell? ⟨w.heap.size + 1, 4, none⟩ = some (.int .i64 0) := by rw [blk_cell hres]; rfl
    have f4 := blk_free hres 4
    rw [hB0] at z0 z1 z2 z3 z4 f0 f1 f2 f3 f4
    have hy := Blk5.set (show Blk5 W5 B0 0 0 0 0 0 by rw [← hB0]; exact h5.res) T.id U V B B
    have HLOW : Hid (Below w.heap.size w (((((W5.setCell ⟨B0, 0, none⟩ (.int .i64 T.id)).setCell ⟨B0, 1, none⟩ (.int .i64 U)).setCell ⟨B0, 2, none⟩ (.int .i64 V)).setCell ⟨B0, 3, none⟩ (.int .i64 B)).setCell ⟨B0, 4, none⟩ (.int .i64 B))) := by
      have hb := h5.low
      have hg : w.heap.size ≤ B0 := by omega
      show Below _ _ _
      repeat (first | (with_reducible assumption) | refine Below.setCell ?_ (by exact hg) _)
    clear h5 hx5 hres
    go_wp2
    unfold Blk5 at hy
    have y0 := blk_cell (o := 0) hy
    have y1 := blk_cell (o := 1) hy
    have y2 := blk_cell (o := 2) hy
    have y3 := blk_cell (o := 3) hy
    have y4 := blk_cell (o := 4) hy
    refine bodyPost_ret (v := .agg #[.int .i64 T.id, .int .i64 U, .int .i64 V, .int .i64 B, .int .i64 B]) ?_ rfl ⟨rfl, HLOW.out⟩
    simp [results, Try.results56, go_sem, y0, y1, y2, y3, y4]
end Go.Proofs.Ytlglncnhhgofoaa

/-
  The walks over a charge of the task of a number.
-/
namespace Go.Proofs.Ytlglncnhhgofoaa
open Go.RowKit Go.Maps

theorem pick_U (id : Int) (c : Cg) (w : World) : Calls Try.prog 27 #[.agg #[.int .i64 id, .int .i64 c.u, .int .i64 c.v, .int .i64 c.b, .int .i64 c.b]] w fun e w' => e = .returned (.int .i64 c.u) ∧ Below w.heap.size w w' := by
  go_enter Try.func27, Try.ntmps27
  go_wp2_with fail
  go_ret
  exact ⟨rfl, (by repeat (first | exact Below.refl _ _ | (with_reducible assumption) | refine bw_alloc ?_ _ | refine bw_drew ?_))⟩
theorem pick_V (id : Int) (c : Cg) (w : World) : Calls Try.prog 28 #[.agg #[.int .i64 id, .int .i64 c.u, .int .i64 c.v, .int .i64 c.b, .int .i64 c.b]] w fun e w' => e = .returned (.int .i64 c.v) ∧ Below w.heap.size w w' := by
  go_enter Try.func28, Try.ntmps28
  go_wp2_with fail
  go_ret
  exact ⟨rfl, (by repeat (first | exact Below.refl _ _ | (with_reducible assumption) | refine bw_alloc ?_ _ | refine bw_drew ?_))⟩
theorem pick_B (id : Int) (c : Cg) (w : World) : Calls Try.prog 29 #[.agg #[.int .i64 id, .int .i64 c.u, .int .i64 c.v, .int .i64 c.b, .int .i64 c.b]] w fun e w' => e = .returned (.int .i64 c.b) ∧ Below w.heap.size w w' := by
  go_enter Try.func29, Try.ntmps29
  go_wp2_with fail
  go_ret
  exact ⟨rfl, (by repeat (first | exact Below.refl _ _ | (with_reducible assumption) | refine bw_alloc ?_ _ | refine bw_drew ?_))⟩
theorem pick_O (id : Int) (c : Cg) (w : World) : Calls Try.prog 30 #[.agg #[.int .i64 id, .int .i64 c.u, .int .i64 c.v, .int .i64 c.b, .int .i64 c.b]] w fun e w' => e = .returned (.int .i64 c.b) ∧ Below w.heap.size w w' := by
  go_enter Try.func30, Try.ntmps30
  go_wp2_with fail
  go_ret
  exact ⟨rfl, (by repeat (first | exact Below.refl _ _ | (with_reducible assumption) | refine bw_alloc ?_ _ | refine bw_drew ?_))⟩

/-- A charge, if there is one. -/
def OneBack (sel : Option Cg → Int) (o : Option Cg) (w : World) (e : Ending) (w' : World) : Prop := e = .returned (.tuple #[.int .i64 (sel o), .bool o.isSome]) ∧ Below w.heap.size w w'
/-- The boxes: a system, a task. -/
structure OneAt (w : World) (s r : Int) (a : Option Addr) (n cap : Nat) (g : Nat) (y : TV) (W : World) : Prop where
  low : Below w.heap.size w W
  sys : W.heap[w.heap.size]? = some (.cells #[.int .i64 s, .int .i64 r, .slice a n cap] 27 (0, 0))
  tb : W.heap[g]? = some (.cells #[.int .i64 y.id, .int .i64 y.c, .int .i64 y.d, .int .i64 y.t, .int .i64 y.p, .slice y.a1 y.ch.length y.c1, .slice y.a2 y.us.length y.c2] TT (0, 0))
  ok : y.ok W
theorem OneAt.below {w : World} {s r : Int} {a : Option Addr} {n cap g : Nat} {y : TV} {W W' : World} (h : OneAt w s r a n cap g y W) (hb : Below W.heap.size W W') : OneAt w s r a n cap g y W' :=
  ⟨below_up h.low hb, kept_obj hb h.sys, kept_obj hb h.tb, h.ok.below hb⟩
theorem told_tk {L : List TV} {id : Int} {y : TV} (h : findTk (L.map TV.tk) id = some y.tk) : ∃ x ∈ L, x.tk = y.tk := by
  unfold findTk at h
  have := List.mem_of_find?_eq_some h
  obtain ⟨x, hx, e⟩ := List.mem_map.1 this
  exact ⟨x, hx, e⟩
theorem told_of_tk {x y : TV} (h : l_Told x) (e : x.tk = y.tk) : l_Told y := by
  have e1 : x.c = y.c := congrArg Tk.c e
  have e2 : x.us = y.us := congrArg Tk.us e
  exact ⟨e1 ▸ h.c1, e1 ▸ h.c30, e2 ▸ h.n64, e2 ▸ h.us⟩
theorem find_id {L : List TV} {id : Int} {y : TV} (h : findTk (L.map TV.tk) id = some y.tk) : y.id = id := by
  unfold findTk at h
  have := List.find?_some h
  exact of_decide_eq_true this
/-- What the calls of a right system are. -/
structure Hands (w : World) (s r : Int) (a : Option Addr) (n cap : Nat) (L : List TV) : Prop where
  chk : checkOf s r L = 0
  tk : Tasks w a n cap L
theorem Hands.below {w w' : World} {s r : Int} {a : Option Addr} {n cap : Nat} {L : List TV} (h : Hands w s r a n cap L) (hb : Below w.heap.size w w') : Hands w' s r a n cap L := ⟨h.chk, h.tk.below hb⟩
theorem Hands.tell {w : World} {s r : Int} {a : Option Addr} {n cap : Nat} {L : List TV} (h : Hands w s r a n cap L) {y : TV} (hy : l_Told y) (hok : y.ok w) {G E C : Nat} (hc : ChgAt w s r a n cap G E C) :
    Calls Try.prog 56 #[.agg #[.int .i64 y.id, .int .i64 y.c, .int .i64 y.d, .int .i64 y.t, .int .i64 y.p, .slice y.a1 y.ch.length y.c1, .slice y.a2 y.us.length y.c2], .pointer (some ⟨G, 0, none⟩), .pointer (some ⟨E, 0, none⟩), .pointer (some ⟨C, 0, none⟩)] w fun e w' => e = .returned (.agg #[.int .i64 y.id, .int .i64 (cgOf r L y.tk).u, .int .i64 (cgOf r L y.tk).v, .int .i64 (cgOf r L y.tk).b, .int .i64 (cgOf r L y.tk).b]) ∧ Below w.heap.size w w' := by
  obtain ⟨_, hr, hl, ht⟩ := check_ok h.chk
  exact tell_any hc h.tk (fun T hT => (ht T hT).1) (by rw [← h.tk.len]; omega) hr.1 hr.2 y hy hok

set_option maxRecDepth 100000 in
set_option maxHeartbeats 8000000 in
theorem oneO_any {w : World} {a : Option Addr} {n cap : Nat} {L : List TV} (s r id : Int) (ha : Tasks w a n cap L) (hw : ∀ x ∈ L, I64 x.p ∧ I64 x.id) :
    Calls Try.prog 26 #[.agg #[.int .i64 s, .int .i64 r, .slice a n cap], .int .i64 id, .func (.func 30) #[] #[]] w (OneBack cgB (cgAt s r L id) w) := by
  have CC := Lib.hid (fun v (hb : Below w.heap.size w v) => check_any s r (ha.below hb) hw)
  by_cases hc : checkOf s r L = 0
  rotate_left
  · rw [cgAt_bad hc]
    have d1 : (checkOf s r L == 0) = false := by rw [beq_eq_false_iff_ne]; exact hc
    have d2 : (checkOf s r L != 0) = true := by rw [bne, d1]; rfl
    generalize checkOf s r L = q at *
    clear hc
    go_enter Try.func26, Try.ntmps26
    go_wp2_with (go_at_call 33; (with_reducible refine (CC.out _ (by repeat (first | exact Below.refl _ _ | (with_reducible assumption) | refine bw_alloc ?_ _ | refine bw_drew ?_))).mono ?_); rintro e w1 ⟨rfl, b1⟩; have B1 := Lib.hid (below_up (W := w) (by repeat (first | exact Below.refl _ _ | (with_reducible assumption) | refine bw_alloc ?_ _ | refine bw_drew ?_)) b1); clear b1)
    go_ret2
    exact ⟨rfl, B1.out⟩
  have HH : Hid (Hands w s r a n cap L) := ⟨hc, ha⟩
  rw [hc] at CC
  obtain ⟨_, _, hl, ht⟩ := check_ok hc
  have FC := Lib.hid (fun v (hb : Below w.heap.size w v) => find_sys s r id (ha.below hb) (by rw [← ha.len]; omega) (fun x hx => by have := (ht x hx).1.n64; have := (ht x hx).2; omega))
  have HT := Lib.hid ht
  have CH := Lib.hid (fun v => charges_any s r a n cap v)
  clear ha hw ht hl hc
  go_enter Try.func26, Try.ntmps26
  go_upto_region 3 with (go_at_call 33; (with_reducible refine (CC.out _ (by repeat (first | exact Below.refl _ _ | (with_reducible assumption) | refine bw_alloc ?_ _ | refine bw_drew ?_))).mono ?_); rintro e w1 ⟨rfl, b1⟩; have S1 := Lib.hid (kept_obj b1 (heap_alloc_new w _)); have B1 := Lib.hid (below_up (W := w) (by repeat (first | exact Below.refl _ _ | (with_reducible assumption) | refine bw_alloc ?_ _ | refine bw_drew ?_)) b1); clear b1)
  have s0 : w1.cell? ⟨w.heap.size, 0, none⟩ = some (.int .i64 s) := by rw [blk_cell S1.out]; rfl
  have s1 : w1.cell? ⟨w.heap.size, 1, none⟩ = some (.int .i64 r) := by rw [blk_cell S1.out]; rfl
  have s2 : w1.cell? ⟨w.heap.size, 2, none⟩ = some (.slice a n cap) := by rw [blk_cell S1.out]; rfl
  go_upto_region 4 with (go_at_call 44; (with_reducible refine (FC.out _ B1.out).mono ?_); rintro e w2 ⟨y, b, rfl, hy, _, hto, b2⟩; have H2 := Lib.hid (And.intro hy (And.intro hto b2)); clear hy hto b2)
  obtain ⟨hok, hto, b2⟩ := H2.out
  have hto := Lib.hid hto
  obtain ⟨gt, hgt⟩ : ∃ gt, w2.heap.size = gt := ⟨_, rfl⟩
  have hq2 := heap_alloc_new w2 (.cells #[.int .i64 y.id, .int .i64 y.c, .int .i64 y.d, .int .i64 y.t, .int .i64 y.p, .slice y.a1 y.ch.length y.c1, .slice y.a2 y.us.length y.c2] TT)
  rw [hgt] at hq2 ⊢
  refine gen_world (OneAt w s r a n cap gt y) ⟨below_up B1.out (below_up b2 (by repeat (first | exact Below.refl _ _ | (with_reducible assumption) | refine bw_alloc ?_ _ | refine bw_drew ?_))), kept_obj (below_up b2 (by repeat (first | exact Below.refl _ _ | (with_reducible assumption) | refine bw_alloc ?_ _ | refine bw_drew ?_))) S1.out, hq2, hok.below (by repeat (first | exact Below.refl _ _ | (with_reducible assumption) | refine bw_alloc ?_ _ | refine bw_drew ?_))⟩ ?_
  intro W2 hw2
  have HW := Lib.hid hw2
  clear hok b2 hq2 hgt H2 s0 s1 s2
  cases b with
  | false =>
    have hn : findTk (L.map TV.tk) id = none := by
      rcases hto.out with ⟨q, _⟩ | ⟨_, q, _⟩
      · cases q
      · exact q
    have HN := Lib.hid (cgAt_none (s := s) (r := r) hn)
    clear hto hn
    go_wp2
    go_ret2
    exact ⟨by rw [HN.out]; rfl, HW.out.low⟩
  | true =>
    have hf : findTk (L.map TV.tk) id = some y.tk := by
      rcases hto.out with ⟨_, q⟩ | ⟨q, _⟩
      · exact q
      · cases q
    have HY : Hid (l_Told y) := by
      obtain ⟨x, hx, e⟩ := told_tk hf
      exact told_of_tk (HT.out x hx).1 e
    have HCG := Lib.hid (cgAt_some HH.out.chk hf)
    have MK : Hid (∀ w', Below W2.heap.size W2 w' → (w'.cell? ⟨w.heap.size, 0, none⟩ = some (.int .i64 s) ∧ w'.cell? ⟨w.heap.size, 1, none⟩ = some (.int .i64 r) ∧ w'.cell? ⟨w.heap.size, 2, none⟩ = some (.slice a n cap) ∧ w'.cell? ⟨gt, 0, none⟩ = some (.int .i64 y.id) ∧ w'.cell? ⟨gt, 1, none⟩ = some (.int .i64 y.c) ∧ w'.cell? ⟨gt, 2, none⟩ = some (.int .i64 y.d) ∧ w'.cell? ⟨gt, 3, none⟩ = some (.int .i64 y.t) ∧ w'.cell? ⟨gt, 4, none⟩ = some (.int .i64 y.p) ∧ w'.cell? ⟨gt, 5, none⟩ = some (.slice y.a1 y.ch.length y.c1) ∧ w'.cell? ⟨gt, 6, none⟩ = some (.slice y.a2 y.us.length y.c2))) := fun w' hb => by
      have x0 := kept_obj hb HW.out.sys
      have x1 := kept_obj hb HW.out.tb
      exact ⟨by rw [blk_cell x0]; rfl, by rw [blk_cell x0]; rfl, by rw [blk_cell x0]; rfl, by rw [blk_cell x1]; rfl, by rw [blk_cell x1]; rfl, by rw [blk_cell x1]; rfl, by rw [blk_cell x1]; rfl, by rw [blk_cell x1]; rfl, by rw [blk_cell x1]; rfl, by rw [blk_cell x1]; rfl⟩
    have TC := Lib.hid (fun v (hb : Below w.heap.size w v) (hb2 : Below W2.heap.size W2 v) G E C (hc : ChgAt v s r a n cap G E C) => (HH.out.below hb).tell HY.out (HW.out.ok.below hb2) hc)
    have PC := Lib.hid (fun v => pick_O y.id (cgOf r L y.tk) v)
    generalize cgOf r L y.tk = cg at *
    clear hto hf hw2
    obtain ⟨s0, s1, s2, t0, t1, t2, t3, t4, t5, t6⟩ := MK.out W2 (Below.refl _ _)
    go_upto_region 6 with fail
    go_region_held3 (fun w' => w'.cell? ⟨w.heap.size, 0, none⟩ = some (.int .i64 s) ∧ w'.cell? ⟨w.heap.size, 1, none⟩ = some (.int .i64 r) ∧ w'.cell? ⟨w.heap.size, 2, none⟩ = some (.slice a n cap) ∧ w'.cell? ⟨gt, 0, none⟩ = some (.int .i64 y.id) ∧ w'.cell? ⟨gt, 1, none⟩ = some (.int .i64 y.c) ∧ w'.cell? ⟨gt, 2, none⟩ = some (.int .i64 y.d) ∧ w'.cell? ⟨gt, 3, none⟩ = some (.int .i64 y.t) ∧ w'.cell? ⟨gt, 4, none⟩ = some (.int .i64 y.p) ∧ w'.cell? ⟨gt, 5, none⟩ = some (.slice y.a1 y.ch.length y.c1) ∧ w'.cell? ⟨gt, 6, none⟩ = some (.slice y.a2 y.us.length y.c2)) (exact MK.out _ (by repeat (first | exact B5.out | exact B4.out | exact B3.out | exact Below.refl _ _ | (with_reducible assumption) | refine bw_drew ?_ | refine bw_alloc ?_ _))) (first
      | (go_at_call 34; (with_reducible refine (CH.out _).mono ?_); rintro e w3 ⟨G, E, C, rfl, hc3, b3⟩; have B3 := Lib.hid (below_up (W := W2) (by repeat (first | exact Below.refl _ _ | (with_reducible assumption) | refine bw_alloc ?_ _ | refine bw_drew ?_)) b3); have HC3 := Lib.hid hc3; clear b3 hc3)
      | (go_at_call 56; (with_reducible refine (TC.out _ (below_up HW.out.low (by repeat (first | exact B3.out | refine bw_drew ?_))) (by repeat (first | exact B3.out | refine bw_drew ?_)) _ _ _ HC3.out).mono ?_); rintro e w4 ⟨rfl, b4⟩; have B4 := Lib.hid (below_up (W := W2) (by repeat (first | exact B3.out | refine bw_drew ?_)) b4); clear b4)
      | (go_at_call 30; (with_reducible refine (PC.out _).mono ?_); rintro e w5 ⟨rfl, b5⟩; have B5 := Lib.hid (below_up (W := W2) (by repeat (first | exact B4.out | refine bw_drew ?_)) b5); clear b5))
    all_goals
      go_wp2_with fail
      go_ret2
      exact ⟨by rw [HCG.out]; rfl, below_up HW.out.low B5.out⟩
end Go.Proofs.Ytlglncnhhgofoaa
