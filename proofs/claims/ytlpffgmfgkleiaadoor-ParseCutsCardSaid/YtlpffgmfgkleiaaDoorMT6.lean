/- Texts of this claim, put together: YTask, LBr, LLn1, LLines, YSysAt, YSys, YRead, YTry, YAttempt, YAwk, KW17, YLaw2. -/
import Derived.Test.YtlpffgmfgkleiaaDoorMT5
import Derived.Deep.RegionHeldLaw
import Derived.RegionDies
import Derived.Defers
set_option linter.unusedVariables false
set_option linter.unusedSimpArgs false

/-
  The walk over a row that says a task.
-/
namespace Go.Proofs.YtlpffgmfgkleiaaDoor
open Go.RowKit Go.Maps

theorem y_zeroTask (w : World) : (zeroValue TT).run Tryd.prog w = .ok (.agg #[.int .i64 0, .int .i64 0, .int .i64 0, .int .i64 0, .int .i64 0, .slice none 0 0, .slice none 0 0]) w := by kernel_rfl
/-- What a row that says a task does. -/
def TaskIs (W : List WV) (R : Nat) (w0 : World) (y : Ending) (w' : World) : Prop := match lineOf W with
  | .error p => Panics p 10 y ∧ Two R R w0 w'
  | .ok t => ∃ x : TV, y = .returned x.val ∧ x.tk = t ∧ x.ok w' ∧ (IsI w' x.a1 x.ch ∧ FreshI w0.heap.size x.a1 x.ch) ∧ (IsI w' x.a2 x.us ∧ FreshI w0.heap.size x.a2 x.us) ∧ Two R R w0 w' ∧ ∃ v, Box w' R RowT #[v, .int .i64 (endAt W W.length)]
theorem numK_lt {W : List WV} {k : Nat} {n : Nat} (h : numK W k = some n) : 2 + k < W.length := numAt_lt h
theorem lt4 {W : List WV} {k : Nat} (h : k < 4) (f : ∀ j, j < 4 → j < k → ∃ n, numK W j = some n) : ∀ j, j < k → ∃ n, numK W j = some n := fun j hj => f j (by omega) hj

set_option maxRecDepth 100000 in
set_option maxHeartbeats 4000000 in
theorem task_row {W : List WV} {R N : Nat} {w0 : World} (hf : Fix W R N w0) (h : Left w0 R N 0 W) : Calls Tryd.prog 41 #[.pointer (some ⟨R, 0, none⟩)] w0 (TaskIs W R w0) := by
  have hz := y_zeroTask
  go_enter Tryd.func41, Tryd.ntmps41
  go_upto_region 1 with fail
  refine gen_world (Stg W R N w0 TT 0 #[.int .i64 0, .int .i64 0, .int .i64 0, .int .i64 0, .int .i64 0, .slice none 0 0, .slice none 0 0]) ⟨Two.of_below (bw_alloc (Below.refl _ _) _), h.below (bw_alloc (Below.refl _ _) _) hf.hN, heap_alloc_new w0 _⟩ ?_
  intro u0 h0
  have H0 := Lib.hid h0
  clear h0 h
  by_cases e0 : wordAt W 0 = some bTask
  rotate_left
  · have HB : Hid (lineOf W = .error (placeAt W 0)) := line_first e0
    have M : Hid (∀ b v, Below u0.heap.size u0 v → v.cell? ⟨b, 0, none⟩ = some (.string bTask) → Calls Tryd.prog 58 #[.pointer (some ⟨R, 0, none⟩), .func (.func 79) #[] #[.pointer (some ⟨b, 0, none⟩)]] v (StepIs W R N w0 TT 0 none)) := fun b v hb hc => by have := step_text hf H0.out (Nat.zero_le _) hb hc; rwa [if_neg e0] at this
    clear e0
    go_wp2_with (first
      | (go_at_call 59; (with_reducible refine (text_any _ _).mono ?_); rintro e wt ⟨b, rfl, hc, bt⟩; have HC := Lib.hid hc; have BT := Lib.hid bt; clear hc bt)
      | (go_at_call 58; (with_reducible refine (M.out _ _ BT.out HC.out).mono ?_); rintro y ux ⟨rfl, tw⟩; have TW := Lib.hid tw; clear tw))
    all_goals
      refine ⟨rfl, ?_⟩
      unfold TaskIs
      rw [HB.out]
      exact ⟨rfl, TW.out⟩
  have M : Hid (∀ b v, Below u0.heap.size u0 v → v.cell? ⟨b, 0, none⟩ = some (.string bTask) → Calls Tryd.prog 58 #[.pointer (some ⟨R, 0, none⟩), .func (.func 79) #[] #[.pointer (some ⟨b, 0, none⟩)]] v (StepIs W R N w0 TT 0 (some (#[.int .i64 0, .int .i64 0, .int .i64 0, .int .i64 0, .int .i64 0, .slice none 0 0, .slice none 0 0])))) := fun b v hb hc => by have := step_text hf H0.out (Nat.zero_le _) hb hc; rwa [if_pos e0] at this
  go_upto_region 2 with (first
    | (go_at_call 59; (with_reducible refine (text_any _ _).mono ?_); rintro e wt ⟨b, rfl, hc, bt⟩; have HC := Lib.hid hc; have BT := Lib.hid bt; clear hc bt)
    | (go_at_call 58; (with_reducible refine (M.out _ _ BT.out HC.out).mono ?_); rintro y u1 ⟨rfl, st⟩; have H1 := Lib.hid st; clear st))
  clear M H0
  clear HC BT
  obtain e1 | ⟨n1, e1⟩ : idOf W = none ∨ ∃ n, idOf W = some n := by cases h : idOf W <;> simp
  · have HB : Hid (lineOf W = .error (placeAt W 1)) := line_id e0 e1
    have M : Hid (∀ v z, Below u1.heap.size u1 z → TakesAt 80 v z ⟨w0.heap.size, 0, none⟩ 99 → Calls Tryd.prog 58 #[.pointer (some ⟨R, 0, none⟩), v] z (StepIs W R N w0 TT 1 none)) := fun v z hb ht => by have := step_numI hf H1.out (word_lt e0) hb ht (by unfold I64; omega) (u := _) rfl; rw [show ((wordAt W 1).bind fun s => numOf s 99) = _ from e1] at this; exact this
    clear e1
    go_wp2_with (first
      | (go_at_call 60; (with_reducible refine (numI_any _ _ _).mono ?_); rintro e wn ⟨v, rfl, hv, bn⟩; have HV := Lib.hid hv; have BN := Lib.hid bn; have hfun : ∃ f a b, v = .func f a b := takes_func hv; clear hv bn)
      | (go_at_call 58; (with_reducible refine (M.out _ _ BN.out HV.out).mono ?_); rintro y ux ⟨rfl, tw⟩; have TW := Lib.hid tw; clear tw))
    all_goals
      refine ⟨rfl, ?_⟩
      unfold TaskIs
      rw [HB.out]
      exact ⟨rfl, TW.out⟩
  have M : Hid (∀ v z, Below u1.heap.size u1 z → TakesAt 80 v z ⟨w0.heap.size, 0, none⟩ 99 → Calls Tryd.prog 58 #[.pointer (some ⟨R, 0, none⟩), v] z (StepIs W R N w0 TT 1 (some (#[.int .i64 n1, .int .i64 0, .int .i64 0, .int .i64 0, .int .i64 0, .slice none 0 0, .slice none 0 0])))) := fun v z hb ht => by have := step_numI hf H1.out (word_lt e0) hb ht (by unfold I64; omega) (u := _) rfl; rw [show ((wordAt W 1).bind fun s => numOf s 99) = _ from e1] at this; exact this
  go_upto_region 3 with (first
    | (go_at_call 60; (with_reducible refine (numI_any _ _ _).mono ?_); rintro e wn ⟨v, rfl, hv, bn⟩; have HV := Lib.hid hv; have BN := Lib.hid bn; have hfun : ∃ f a b, v = .func f a b := takes_func hv; clear hv bn)
    | (go_at_call 58; (with_reducible refine (M.out _ _ BN.out HV.out).mono ?_); rintro y u2 ⟨rfl, st⟩; have H2 := Lib.hid st; clear st))
  clear M H1
  clear HV BN hfun
  obtain e2 | ⟨n2, e2⟩ : numK W 0 = none ∨ ∃ n, numK W 0 = some n := by cases h : numK W 0 <;> simp
  · have HB : Hid (lineOf W = .error (placeAt W 2)) := line_bad (k := 0) e0 e1 (by omega) (fun j hj => absurd hj (Nat.not_lt_zero _)) e2
    have M : Hid (∀ v nb sb z, Below u2.heap.size u2 z → z.cell? ⟨nb, 0, none⟩ = some (.string bC) → z.cell? ⟨sb, 0, none⟩ = some v → TakesAt 82 v z ⟨w0.heap.size, 1, none⟩ 1073741824 → Calls Tryd.prog 58 #[.pointer (some ⟨R, 0, none⟩), .func (.func 83) #[] #[.pointer (some ⟨nb, 0, none⟩), .pointer (some ⟨sb, 0, none⟩)]] z (StepIs W R N w0 TT 2 none)) := fun v nb sb z hb hn hs ht => by have := step_named_numQ hf H2.out (bind_lt e1) hb hn hs ht (by unfold I64; omega) (u := _) rfl; rw [show numAt W 2 bC 1073741824 = _ from e2] at this; exact this
    clear e2
    go_wp2_with (first
      | (go_at_call 61; (with_reducible refine (numQ_any _ _ _).mono ?_); rintro e wn ⟨v, rfl, hv, bn⟩; have HV := Lib.hid hv; have BN := Lib.hid bn; have hfun : ∃ f a b, v = .func f a b := takes_func hv; clear hv bn)
      | (go_at_call 63; (with_reducible refine (named_any _ _ _ hfun).mono ?_); rintro e wd ⟨nb, sb, rfl, hn, hs, bd⟩; have HN := Lib.hid hn; have HS := Lib.hid hs; have HV2 := Lib.hid (HV.out.below bd); have BB := Lib.hid (below_up BN.out bd); clear hn hs bd)
      | (go_at_call 58; (with_reducible refine (M.out _ _ _ _ BB.out HN.out HS.out HV2.out).mono ?_); rintro y ux ⟨rfl, tw⟩; have TW := Lib.hid tw; clear tw))
    all_goals
      refine ⟨rfl, ?_⟩
      unfold TaskIs
      rw [HB.out]
      exact ⟨rfl, TW.out⟩
  have M : Hid (∀ v nb sb z, Below u2.heap.size u2 z → z.cell? ⟨nb, 0, none⟩ = some (.string bC) → z.cell? ⟨sb, 0, none⟩ = some v → TakesAt 82 v z ⟨w0.heap.size, 1, none⟩ 1073741824 → Calls Tryd.prog 58 #[.pointer (some ⟨R, 0, none⟩), .func (.func 83) #[] #[.pointer (some ⟨nb, 0, none⟩), .pointer (some ⟨sb, 0, none⟩)]] z (StepIs W R N w0 TT 2 (some (#[.int .i64 n1, .int .i64 n2, .int .i64 0, .int .i64 0, .int .i64 0, .slice none 0 0, .slice none 0 0])))) := fun v nb sb z hb hn hs ht => by have := step_named_numQ hf H2.out (bind_lt e1) hb hn hs ht (by unfold I64; omega) (u := _) rfl; rw [show numAt W 2 bC 1073741824 = _ from e2] at this; exact this
  go_upto_region 4 with (first
    | (go_at_call 61; (with_reducible refine (numQ_any _ _ _).mono ?_); rintro e wn ⟨v, rfl, hv, bn⟩; have HV := Lib.hid hv; have BN := Lib.hid bn; have hfun : ∃ f a b, v = .func f a b := takes_func hv; clear hv bn)
    | (go_at_call 63; (with_reducible refine (named_any _ _ _ hfun).mono ?_); rintro e wd ⟨nb, sb, rfl, hn, hs, bd⟩; have HN := Lib.hid hn; have HS := Lib.hid hs; have HV2 := Lib.hid (HV.out.below bd); have BB := Lib.hid (below_up BN.out bd); clear hn hs bd)
    | (go_at_call 58; (with_reducible refine (M.out _ _ _ _ BB.out HN.out HS.out HV2.out).mono ?_); rintro y u3 ⟨rfl, st⟩; have H3 := Lib.hid st; clear st))
  clear M H2
  clear HV BN hfun HN HS HV2 BB
  obtain e3 | ⟨n3, e3⟩ : numK W 1 = none ∨ ∃ n, numK W 1 = some n := by cases h : numK W 1 <;> simp
  · have HB : Hid (lineOf W = .error (placeAt W 3)) := line_bad (k := 1) e0 e1 (by omega) (fun j hj => by match j, hj with | 0, _ => exact ⟨_, e2⟩) e3
    have M : Hid (∀ v nb sb z, Below u3.heap.size u3 z → z.cell? ⟨nb, 0, none⟩ = some (.string bD) → z.cell? ⟨sb, 0, none⟩ = some v → TakesAt 82 v z ⟨w0.heap.size, 2, none⟩ 1073741824 → Calls Tryd.prog 58 #[.pointer (some ⟨R, 0, none⟩), .func (.func 83) #[] #[.pointer (some ⟨nb, 0, none⟩), .pointer (some ⟨sb, 0, none⟩)]] z (StepIs W R N w0 TT 3 none)) := fun v nb sb z hb hn hs ht => by have := step_named_numQ hf H3.out (numK_lt e2) hb hn hs ht (by unfold I64; omega) (u := _) rfl; rw [show numAt W 3 bD 1073741824 = _ from e3] at this; exact this
    clear e3
    go_wp2_with (first
      | (go_at_call 61; (with_reducible refine (numQ_any _ _ _).mono ?_); rintro e wn ⟨v, rfl, hv, bn⟩; have HV := Lib.hid hv; have BN := Lib.hid bn; have hfun : ∃ f a b, v = .func f a b := takes_func hv; clear hv bn)
      | (go_at_call 63; (with_reducible refine (named_any _ _ _ hfun).mono ?_); rintro e wd ⟨nb, sb, rfl, hn, hs, bd⟩; have HN := Lib.hid hn; have HS := Lib.hid hs; have HV2 := Lib.hid (HV.out.below bd); have BB := Lib.hid (below_up BN.out bd); clear hn hs bd)
      | (go_at_call 58; (with_reducible refine (M.out _ _ _ _ BB.out HN.out HS.out HV2.out).mono ?_); rintro y ux ⟨rfl, tw⟩; have TW := Lib.hid tw; clear tw))
    all_goals
      refine ⟨rfl, ?_⟩
      unfold TaskIs
      rw [HB.out]
      exact ⟨rfl, TW.out⟩
  have M : Hid (∀ v nb sb z, Below u3.heap.size u3 z → z.cell? ⟨nb, 0, none⟩ = some (.string bD) → z.cell? ⟨sb, 0, none⟩ = some v → TakesAt 82 v z ⟨w0.heap.size, 2, none⟩ 1073741824 → Calls Tryd.prog 58 #[.pointer (some ⟨R, 0, none⟩), .func (.func 83) #[] #[.pointer (some ⟨nb, 0, none⟩), .pointer (some ⟨sb, 0, none⟩)]] z (StepIs W R N w0 TT 3 (some (#[.int .i64 n1, .int .i64 n2, .int .i64 n3, .int .i64 0, .int .i64 0, .slice none 0 0, .slice none 0 0])))) := fun v nb sb z hb hn hs ht => by have := step_named_numQ hf H3.out (numK_lt e2) hb hn hs ht (by unfold I64; omega) (u := _) rfl; rw [show numAt W 3 bD 1073741824 = _ from e3] at this; exact this
  go_upto_region 5 with (first
    | (go_at_call 61; (with_reducible refine (numQ_any _ _ _).mono ?_); rintro e wn ⟨v, rfl, hv, bn⟩; have HV := Lib.hid hv; have BN := Lib.hid bn; have hfun : ∃ f a b, v = .func f a b := takes_func hv; clear hv bn)
    | (go_at_call 63; (with_reducible refine (named_any _ _ _ hfun).mono ?_); rintro e wd ⟨nb, sb, rfl, hn, hs, bd⟩; have HN := Lib.hid hn; have HS := Lib.hid hs; have HV2 := Lib.hid (HV.out.below bd); have BB := Lib.hid (below_up BN.out bd); clear hn hs bd)
    | (go_at_call 58; (with_reducible refine (M.out _ _ _ _ BB.out HN.out HS.out HV2.out).mono ?_); rintro y u4 ⟨rfl, st⟩; have H4 := Lib.hid st; clear st))
  clear M H3
  clear HV BN hfun HN HS HV2 BB
  obtain e4 | ⟨n4, e4⟩ : numK W 2 = none ∨ ∃ n, numK W 2 = some n := by cases h : numK W 2 <;> simp
  · have HB : Hid (lineOf W = .error (placeAt W 4)) := line_bad (k := 2) e0 e1 (by omega) (fun j hj => by match j, hj with | 0, _ => exact ⟨_, e2⟩ | 1, _ => exact ⟨_, e3⟩) e4
    have M : Hid (∀ v nb sb z, Below u4.heap.size u4 z → z.cell? ⟨nb, 0, none⟩ = some (.string bT) → z.cell? ⟨sb, 0, none⟩ = some v → TakesAt 82 v z ⟨w0.heap.size, 3, none⟩ 1073741824 → Calls Tryd.prog 58 #[.pointer (some ⟨R, 0, none⟩), .func (.func 83) #[] #[.pointer (some ⟨nb, 0, none⟩), .pointer (some ⟨sb, 0, none⟩)]] z (StepIs W R N w0 TT 4 none)) := fun v nb sb z hb hn hs ht => by have := step_named_numQ hf H4.out (numK_lt e3) hb hn hs ht (by unfold I64; omega) (u := _) rfl; rw [show numAt W 4 bT 1073741824 = _ from e4] at this; exact this
    clear e4
    go_wp2_with (first
      | (go_at_call 61; (with_reducible refine (numQ_any _ _ _).mono ?_); rintro e wn ⟨v, rfl, hv, bn⟩; have HV := Lib.hid hv; have BN := Lib.hid bn; have hfun : ∃ f a b, v = .func f a b := takes_func hv; clear hv bn)
      | (go_at_call 63; (with_reducible refine (named_any _ _ _ hfun).mono ?_); rintro e wd ⟨nb, sb, rfl, hn, hs, bd⟩; have HN := Lib.hid hn; have HS := Lib.hid hs; have HV2 := Lib.hid (HV.out.below bd); have BB := Lib.hid (below_up BN.out bd); clear hn hs bd)
      | (go_at_call 58; (with_reducible refine (M.out _ _ _ _ BB.out HN.out HS.out HV2.out).mono ?_); rintro y ux ⟨rfl, tw⟩; have TW := Lib.hid tw; clear tw))
    all_goals
      refine ⟨rfl, ?_⟩
      unfold TaskIs
      rw [HB.out]
      exact ⟨rfl, TW.out⟩
  have M : Hid (∀ v nb sb z, Below u4.heap.size u4 z → z.cell? ⟨nb, 0, none⟩ = some (.string bT) → z.cell? ⟨sb, 0, none⟩ = some v → TakesAt 82 v z ⟨w0.heap.size, 3, none⟩ 1073741824 → Calls Tryd.prog 58 #[.pointer (some ⟨R, 0, none⟩), .func (.func 83) #[] #[.pointer (some ⟨nb, 0, none⟩), .pointer (some ⟨sb, 0, none⟩)]] z (StepIs W R N w0 TT 4 (some (#[.int .i64 n1, .int .i64 n2, .int .i64 n3, .int .i64 n4, .int .i64 0, .slice none 0 0, .slice none 0 0])))) := fun v nb sb z hb hn hs ht => by have := step_named_numQ hf H4.out (numK_lt e3) hb hn hs ht (by unfold I64; omega) (u := _) rfl; rw [show numAt W 4 bT 1073741824 = _ from e4] at this; exact this
  go_upto_region 6 with (first
    | (go_at_call 61; (with_reducible refine (numQ_any _ _ _).mono ?_); rintro e wn ⟨v, rfl, hv, bn⟩; have HV := Lib.hid hv; have BN := Lib.hid bn; have hfun : ∃ f a b, v = .func f a b := takes_func hv; clear hv bn)
    | (go_at_call 63; (with_reducible refine (named_any _ _ _ hfun).mono ?_); rintro e wd ⟨nb, sb, rfl, hn, hs, bd⟩; have HN := Lib.hid hn; have HS := Lib.hid hs; have HV2 := Lib.hid (HV.out.below bd); have BB := Lib.hid (below_up BN.out bd); clear hn hs bd)
    | (go_at_call 58; (with_reducible refine (M.out _ _ _ _ BB.out HN.out HS.out HV2.out).mono ?_); rintro y u5 ⟨rfl, st⟩; have H5 := Lib.hid st; clear st))
  clear M H4
  clear HV BN hfun HN HS HV2 BB
  obtain e5 | ⟨n5, e5⟩ : numK W 3 = none ∨ ∃ n, numK W 3 = some n := by cases h : numK W 3 <;> simp
  · have HB : Hid (lineOf W = .error (placeAt W 5)) := line_bad (k := 3) e0 e1 (by omega) (fun j hj => by match j, hj with | 0, _ => exact ⟨_, e2⟩ | 1, _ => exact ⟨_, e3⟩ | 2, _ => exact ⟨_, e4⟩) e5
    have M : Hid (∀ v nb sb z, Below u5.heap.size u5 z → z.cell? ⟨nb, 0, none⟩ = some (.string bP) → z.cell? ⟨sb, 0, none⟩ = some v → TakesAt 80 v z ⟨w0.heap.size, 4, none⟩ 99 → Calls Tryd.prog 58 #[.pointer (some ⟨R, 0, none⟩), .func (.func 83) #[] #[.pointer (some ⟨nb, 0, none⟩), .pointer (some ⟨sb, 0, none⟩)]] z (StepIs W R N w0 TT 5 none)) := fun v nb sb z hb hn hs ht => by have := step_named_numI hf H5.out (numK_lt e4) hb hn hs ht (by unfold I64; omega) (u := _) rfl; rw [show numAt W 5 bP 99 = _ from e5] at this; exact this
    clear e5
    go_wp2_with (first
      | (go_at_call 60; (with_reducible refine (numI_any _ _ _).mono ?_); rintro e wn ⟨v, rfl, hv, bn⟩; have HV := Lib.hid hv; have BN := Lib.hid bn; have hfun : ∃ f a b, v = .func f a b := takes_func hv; clear hv bn)
      | (go_at_call 63; (with_reducible refine (named_any _ _ _ hfun).mono ?_); rintro e wd ⟨nb, sb, rfl, hn, hs, bd⟩; have HN := Lib.hid hn; have HS := Lib.hid hs; have HV2 := Lib.hid (HV.out.below bd); have BB := Lib.hid (below_up BN.out bd); clear hn hs bd)
      | (go_at_call 58; (with_reducible refine (M.out _ _ _ _ BB.out HN.out HS.out HV2.out).mono ?_); rintro y ux ⟨rfl, tw⟩; have TW := Lib.hid tw; clear tw))
    all_goals
      refine ⟨rfl, ?_⟩
      unfold TaskIs
      rw [HB.out]
      exact ⟨rfl, TW.out⟩
  have M : Hid (∀ v nb sb z, Below u5.heap.size u5 z → z.cell? ⟨nb, 0, none⟩ = some (.string bP) → z.cell? ⟨sb, 0, none⟩ = some v → TakesAt 80 v z ⟨w0.heap.size, 4, none⟩ 99 → Calls Tryd.prog 58 #[.pointer (some ⟨R, 0, none⟩), .func (.func 83) #[] #[.pointer (some ⟨nb, 0, none⟩), .pointer (some ⟨sb, 0, none⟩)]] z (StepIs W R N w0 TT 5 (some (#[.int .i64 n1, .int .i64 n2, .int .i64 n3, .int .i64 n4, .int .i64 n5, .slice none 0 0, .slice none 0 0])))) := fun v nb sb z hb hn hs ht => by have := step_named_numI hf H5.out (numK_lt e4) hb hn hs ht (by unfold I64; omega) (u := _) rfl; rw [show numAt W 5 bP 99 = _ from e5] at this; exact this
  go_upto_region 7 with (first
    | (go_at_call 60; (with_reducible refine (numI_any _ _ _).mono ?_); rintro e wn ⟨v, rfl, hv, bn⟩; have HV := Lib.hid hv; have BN := Lib.hid bn; have hfun : ∃ f a b, v = .func f a b := takes_func hv; clear hv bn)
    | (go_at_call 63; (with_reducible refine (named_any _ _ _ hfun).mono ?_); rintro e wd ⟨nb, sb, rfl, hn, hs, bd⟩; have HN := Lib.hid hn; have HS := Lib.hid hs; have HV2 := Lib.hid (HV.out.below bd); have BB := Lib.hid (below_up BN.out bd); clear hn hs bd)
    | (go_at_call 58; (with_reducible refine (M.out _ _ _ _ BB.out HN.out HS.out HV2.out).mono ?_); rintro y u6 ⟨rfl, st⟩; have H6 := Lib.hid st; clear st))
  clear M H5
  clear HV BN hfun HN HS HV2 BB
  have hl6 : 6 ≤ W.length := numK_lt e5
  obtain ⟨o6, e6⟩ : ∃ o, chAt W = o := ⟨_, rfl⟩
  obtain ⟨j6, hj6⟩ : ∃ j, plus1 W = j := ⟨_, rfl⟩
  have hj6' : (if o6.isSome = true then 6 + 1 else 6) = j6 := by rw [← e6]; exact hj6
  have M6 : Hid (∀ v nb sb z, Below u6.heap.size u6 z → z.cell? ⟨nb, 0, none⟩ = some (.string bChunks) → z.cell? ⟨sb, 0, none⟩ = some v → TakesAt 85 v z ⟨w0.heap.size, 5, none⟩ 1073741824 → Calls Tryd.prog 64 #[.pointer (some ⟨R, 0, none⟩), .func (.func 83) #[] #[.pointer (some ⟨nb, 0, none⟩), .pointer (some ⟨sb, 0, none⟩)]] z (fun y w2 => y = .returned (.bool o6.isSome) ∧ Two R w0.heap.size u6 w2 ∧ Two R R w0 w2 ∧ Left w2 R N (endAt W j6) (W.drop j6) ∧ LaidL w2 w0.heap.size w0.heap.size TT #[.int .i64 n1, .int .i64 n2, .int .i64 n3, .int .i64 n4, .int .i64 n5, .slice none 0 0, .slice none 0 0] 5 (o6.getD []))) :=
    fun v nb sb z hb hn hs ht => step_numsQ hf H6.out hb hn hs ht (by unfold I64; omega) rfl rfl (by decide) o6 e6 j6 hj6'
  go_upto_region 8 with (first
    | (go_at_call 65; (with_reducible refine (numsQ_any _ _ _).mono ?_); rintro e wn ⟨v, rfl, hv, bn⟩; have HV := Lib.hid hv; have BN := Lib.hid bn; have hfun : ∃ f a b, v = .func f a b := takes_func hv; clear hv bn)
    | (go_at_call 63; (with_reducible refine (named_any _ _ _ hfun).mono ?_); rintro e wd ⟨nb, sb, rfl, hn, hs, bd⟩; have HN := Lib.hid hn; have HS := Lib.hid hs; have HV2 := Lib.hid (HV.out.below bd); have BB := Lib.hid (below_up BN.out bd); clear hn hs bd)
    | (go_at_call 64; (with_reducible refine (M6.out _ _ _ _ BB.out HN.out HS.out HV2.out).mono ?_); rintro y u7 ⟨rfl, -, t7, l7, d7⟩; have T7 := Lib.hid t7; have L7 := Lib.hid l7; have D7 := Lib.hid d7; clear t7 l7 d7))
  clear M6 H6 HV BN hfun HN HS HV2 BB
  obtain ⟨ch, hch⟩ : ∃ l, o6.getD [] = l := ⟨_, rfl⟩
  rw [hch] at D7
  obtain ⟨a1, c1, bx7, ⟨i7, n7⟩, v7, l7, m7⟩ := D7.out
  have H7 : Hid (Stg W R N w0 TT j6 (#[.int .i64 n1, .int .i64 n2, .int .i64 n3, .int .i64 n4, .int .i64 n5, .slice a1 ch.length c1, .slice none 0 0]) u7) := ⟨T7.out, L7.out, bx7⟩
  have I7 := Lib.hid i7
  have V7 := Lib.hid v7
  clear T7 L7 D7 bx7 i7 v7
  obtain ⟨o7, e7⟩ : ∃ o, usAt W = o := ⟨_, rfl⟩
  obtain ⟨j7, hj7⟩ : ∃ j, plus2 W = j := ⟨_, rfl⟩
  have hj7' : (if o7.isSome = true then j6 + 1 else j6) = j7 := by rw [← e7, ← hj6]; exact hj7
  have e7' : numsAt W j6 bUse 255 = o7 := by rw [← hj6]; exact e7
  have M7 : Hid (∀ v nb sb z, Below u7.heap.size u7 z → z.cell? ⟨nb, 0, none⟩ = some (.string bUse) → z.cell? ⟨sb, 0, none⟩ = some v → TakesAt 88 v z ⟨w0.heap.size, 6, none⟩ 255 → Calls Tryd.prog 64 #[.pointer (some ⟨R, 0, none⟩), .func (.func 83) #[] #[.pointer (some ⟨nb, 0, none⟩), .pointer (some ⟨sb, 0, none⟩)]] z (fun y w2 => y = .returned (.bool o7.isSome) ∧ Two R w0.heap.size u7 w2 ∧ Two R R w0 w2 ∧ Left w2 R N (endAt W j7) (W.drop j7) ∧ LaidL w2 w0.heap.size w0.heap.size TT (#[.int .i64 n1, .int .i64 n2, .int .i64 n3, .int .i64 n4, .int .i64 n5, .slice a1 ch.length c1, .slice none 0 0]) 6 (o7.getD []))) :=
    fun v nb sb z hb hn hs ht => step_numsI hf H7.out hb hn hs ht (by unfold I64; omega) rfl rfl (by decide) o7 e7' j7 hj7'
  go_upto_region 9 with (first
    | (go_at_call 66; (with_reducible refine (numsI_any _ _ _).mono ?_); rintro e wn ⟨v, rfl, hv, bn⟩; have HV := Lib.hid hv; have BN := Lib.hid bn; have hfun : ∃ f a b, v = .func f a b := takes_func hv; clear hv bn)
    | (go_at_call 63; (with_reducible refine (named_any _ _ _ hfun).mono ?_); rintro e wd ⟨nb, sb, rfl, hn, hs, bd⟩; have HN := Lib.hid hn; have HS := Lib.hid hs; have HV2 := Lib.hid (HV.out.below bd); have BB := Lib.hid (below_up BN.out bd); clear hn hs bd)
    | (go_at_call 64; (with_reducible refine (M7.out _ _ _ _ BB.out HN.out HS.out HV2.out).mono ?_); rintro y u8 ⟨rfl, tw, t8, l8, d8⟩; have TW := Lib.hid tw; have T8 := Lib.hid t8; have L8 := Lib.hid l8; have D8 := Lib.hid d8; clear tw t8 l8 d8))
  clear M7 HV BN hfun HN HS HV2 BB
  obtain ⟨us, hus⟩ : ∃ l, o7.getD [] = l := ⟨_, rfl⟩
  rw [hus] at D8
  obtain ⟨a2, c2, bx8, ⟨i8, n8⟩, v8, l8, m8⟩ := D8.out
  obtain ⟨cR, hcR⟩ := H7.out.left.box
  obtain ⟨k1, k2⟩ := ints_two TW.out hcR H7.out.box (by decide) (by decide) I7.out V7.out
  have hb : Box u8 w0.heap.size TT #[.int .i64 n1, .int .i64 n2, .int .i64 n3, .int .i64 n4, .int .i64 n5, .slice a1 ch.length c1, .slice a2 us.length c2] := bx8
  have hle : j7 ≤ W.length := by rw [← hj7]; exact plus2_le hl6
  by_cases ho : j7 < W.length
  · have HB : Hid (lineOf W = .error (placeAt W j7)) := by show _ = _; rw [← hj7]; exact line_over e0 e1 e2 e3 e4 e5 (by rw [hj7]; exact ho)
    have hx : W[j7]? = some W[j7] := by simp [ho]
    have hl := L8.out
    rw [drop_some hx] at hl
    have M := Lib.hid (over_word hl)
    rw [← placeAt_some hx] at M
    clear hl hx
    go_wp2_with (go_at_call 62; (with_reducible refine M.out.mono ?_); rintro y ux ⟨rfl, rfl⟩)
    all_goals
      refine ⟨rfl, ?_⟩
      unfold TaskIs
      rw [HB.out]
      exact ⟨rfl, T8.out⟩
  · have HB : Hid (lineOf W = .ok ⟨n1, n2, n3, n4, n5, ch, us⟩) := by show _ = _; rw [line_ok e0 e1 e2 e3 e4 e5 (by rw [hj7]; exact ho), e6, e7, hch, hus]
    have hl := L8.out
    have hjl : j7 = W.length := by omega
    rw [List.drop_of_length_le (by omega), hjl] at hl
    have M := Lib.hid (over_nil hl)
    obtain ⟨aR, cR2, bR, -⟩ := hl
    have BR := Lib.hid bR
    have I8 := Lib.hid i8
    have V8 := Lib.hid v8
    have K1 := Lib.hid k1
    have K2 := Lib.hid k2
    have HBX := Lib.hid hb
    clear i8 v8 k1 k2 bR hcR H7 I7 V7 TW L8 D8 bx8 hle hjl ho hj7 hj7' hj6 hj6' e7' e0 e1 e2 e3 e4 e5 e6 e7 hch hus
    go_upto_region 10 with (go_at_call 62; (with_reducible refine M.out.mono ?_); rintro y ux ⟨rfl, rfl⟩)
    have r0 : ux.cell? ⟨w0.heap.size, 0, none⟩ = some (.int .i64 n1) := blk_cell hb 0
    have r1 : ux.cell? ⟨w0.heap.size, 1, none⟩ = some (.int .i64 n2) := blk_cell hb 1
    have r2 : ux.cell? ⟨w0.heap.size, 2, none⟩ = some (.int .i64 n3) := blk_cell hb 2
    have r3 : ux.cell? ⟨w0.heap.size, 3, none⟩ = some (.int .i64 n4) := blk_cell hb 3
    have r4 : ux.cell? ⟨w0.heap.size, 4, none⟩ = some (.int .i64 n5) := blk_cell hb 4
    have r5 : ux.cell? ⟨w0.heap.size, 5, none⟩ = some (.slice a1 ch.length c1) := blk_cell hb 5
    have r6 : ux.cell? ⟨w0.heap.size, 6, none⟩ = some (.slice a2 us.length c2) := blk_cell hb 6
    have f0 := blk_free hb 0
    have f1 := blk_free hb 1
    have f2 := blk_free hb 2
    have f3 := blk_free hb 3
    have f4 := blk_free hb 4
    have f5 := blk_free hb 5
    have f6 := blk_free hb 6
    have hr := lt_of_block hb
    have HF : Hid (∀ y0 y1 y2 y3 y4 y5 y6 : Value, TaskIs W R w0 (.returned (TV.mk n1 n2 n3 n4 n5 a1 ch c1 a2 us c2).val) (((((((ux.setCell ⟨w0.heap.size, 0, none⟩ y0).setCell ⟨w0.heap.size, 1, none⟩ y1).setCell ⟨w0.heap.size, 2, none⟩ y2).setCell ⟨w0.heap.size, 3, none⟩ y3).setCell ⟨w0.heap.size, 4, none⟩ y4).setCell ⟨w0.heap.size, 5, none⟩ y5).setCell ⟨w0.heap.size, 6, none⟩ y6)) := by
      intro y0 y1 y2 y3 y4 y5 y6
      have q : Two w0.heap.size w0.heap.size ux (((((((ux.setCell ⟨w0.heap.size, 0, none⟩ y0).setCell ⟨w0.heap.size, 1, none⟩ y1).setCell ⟨w0.heap.size, 2, none⟩ y2).setCell ⟨w0.heap.size, 3, none⟩ y3).setCell ⟨w0.heap.size, 4, none⟩ y4).setCell ⟨w0.heap.size, 5, none⟩ y5).setCell ⟨w0.heap.size, 6, none⟩ y6) := ((((((((Two.refl _ _ _).setT _).setT _).setT _).setT _).setT _).setT _).setT _)
      have q1 := ints_two q HBX.out HBX.out (by decide) (by decide) K1.out K2.out
      have q2 := ints_two q HBX.out HBX.out (by decide) (by decide) I8.out V8.out
      unfold TaskIs
      rw [HB.out]
      exact ⟨_, rfl, rfl, ⟨q1.2, q2.2, l7, m7, l8, m8⟩, ⟨q1.1, n7⟩, ⟨q2.1, n8⟩, ((((((((T8.out.setNew (Nat.le_refl _) _).setNew (Nat.le_refl _) _).setNew (Nat.le_refl _) _).setNew (Nat.le_refl _) _).setNew (Nat.le_refl _) _).setNew (Nat.le_refl _) _).setNew (Nat.le_refl _) _)), _, q.box BR.out hf.ne hf.ne⟩
    clear hb M HBX K1 K2 I8 V8 HB BR T8
    go_wp2_with fail
    exact bodyPost_ret (v := .agg #[.int .i64 n1, .int .i64 n2, .int .i64 n3, .int .i64 n4, .int .i64 n5, .slice a1 ch.length c1, .slice a2 us.length c2]) (by simp [results, Tryd.results41, go_sem, r0, r1, r2, r3, r4, r5, r6, hr]) rfl (HF.out _ _ _ _ _ _ _)
end Go.Proofs.YtlpffgmfgkleiaaDoor

/-
  A region that draws its order, in a round of a range over a function.
-/
namespace Go.Proofs.YtlpffgmfgkleiaaDoor
open Go.RowKit Go.Maps

section
variable {P : Program} {ops : Array Oper} {Q : Exit → Act → World → Prop} {l n : Nat}
theorem rows_round {row : String} {args : Array Value} {w : World} {R R' : Value → World → Prop} (h : _root_.Go.Rows P row args w R) (hr : ∀ v w, R v w → R' v w) : RowsIn (Fence.wide.inRound l) n P row args w R' := fun c cs _ => by
  obtain ⟨v, w', h1, h2⟩ := h c cs
  exact ⟨v, w', hr _ _ h1, stepsIn_wide.2 h2⟩
theorem oper_round {o : Oper} {a : Act} {w : World} {K K' : Act → World → Prop} (hd : ∀ c, o.op ≠ .defer c) (hK : ∀ a w, K a w → K' a w) (hlo : ¬ LetsOut Q) (h : o.wp P a w K Q) : o.wpIn (Fence.wide.inRound l) n P a w K' Q := by
  refine ⟨fun _ _ => trivial, ?_⟩
  unfold Oper.wp at h
  rw [show (o.semAt (Fence.wide.inRound l).round a.eval) = execOp a.eval o from Oper.semAt_eq _ _ _ hd]
  generalize (execOp a.eval o).run P w = r at h ⊢
  cases r with
  | ok x w' =>
    cases x with
    | value v => exact hK _ _ h
    | skip => exact hK _ _ h
    | defer d => exact hK _ _ h
    | enter f args =>
      refine ⟨(fun z => by cases z), CallsIn.inRound l (callsIn_wide.2 (Calls.mono h fun e w'' he => ?_))⟩
      cases e with
      | returned v => exact hK _ _ he
      | panicked c => exact he
      | outgrown => exact absurd he hlo
    | row name args => exact ⟨(fun z => by cases z), rows_round h (fun _ _ => hK _ _)⟩
    | _ => exact h.elim
  | halt x w' =>
    cases x with
    | panic v => exact h
    | _ => exact h.elim
theorem any_round {md : Region.Mode} (hd : ∀ (i : Nat) (o : Oper), ops[i]? = some o → ∀ c, o.op ≠ .defer c) (hlo : ¬ LetsOut Q) : ∀ (fuel : Nat) (listed : Array Bool) (a : Act) (w : World), wpAny P md ops Q fuel listed a w → wpAnyIn (Fence.wide.inRound l) n P md ops Q fuel listed a w
  | 0, _, _, _, h => h
  | fuel + 1, listed, a, w, h => by
    refine ⟨h.1, fun i hi => ?_⟩
    have hs := h.2 i hi
    unfold wpOp at hs
    unfold wpOpIn
    cases ho : ops[i]? with
    | none =>
      rw [ho] at hs
      exact any_round hd hlo fuel _ a w hs
    | some o =>
      rw [ho] at hs
      simp only [] at hs ⊢
      split
      · rename_i hw
        rw [if_pos hw] at hs
        rcases hs with hs | ⟨_, hs⟩
        · exact oper_round (hd i o ho) (fun a w => any_round hd hlo fuel _ a w) hlo hs
        · exact absurd hs hlo
      · rename_i hw
        rw [if_neg hw] at hs
        exact ⟨fun _ _ => trivial, any_round hd hlo fuel _ _ w hs⟩
def noDefer (ops : Array Oper) : Bool := ops.all fun o => match o.op with
  | .defer _ => false
  | _ => true
theorem noDefer_spec (h : noDefer ops = true) : ∀ (i : Nat) (o : Oper), ops[i]? = some o → ∀ c, o.op ≠ .defer c := fun i o ho c e => by
  have h1 := Array.all_eq_true_iff_forall_mem.1 h o (Array.mem_of_getElem? ho)
  rw [e] at h1
  cases h1
theorem region_round {id : Nat} {a : Act} {w : World} (S : World → Prop) (hm : P.follows .mixedOrders = true) (hd : noDefer ops = true) (hlo : ¬ LetsOut Q)
    (h : wpAnyH P .any ops Q S ops.size (Array.replicate ops.size false) a w.drew) : (Code.region id ops true).wpIn (Fence.wide.inRound l) n P Q a w :=
  wpIn_region_any hm (any_round (noDefer_spec hd) hlo _ _ _ _ (wpAny_of_held _ _ _ _ h))
end
end Go.Proofs.YtlpffgmfgkleiaaDoor

/-
  Lines of words, as they grow word by word.
-/
namespace Go.Proofs.YtlpffgmfgkleiaaDoor
open Go.RowKit Go.Maps Go.Shelf

theorem lnAt_app (L t : List WV) {i : Nat} (h : i < L.length) : lnAt (L ++ t) i = lnAt L i := by unfold lnAt; rw [List.getElem?_append_left h]
theorem lrun_app (L t : List WV) : ∀ i, i ≤ L.length → lrun (L ++ t) i = lrun L i
  | 0, _ => rfl
  | i + 1, h => by
    rw [lrun, lrun, lrun_app L t i (by omega), List.getElem?_append_left (by omega), lnAt_app L t (show i < L.length by omega), lnAt_app L t (show i - 1 < L.length by omega)]
/-- The lines of the words that have come, and the last one's line. -/
def LG (L : List WV) : List (List WV) := lrun L L.length
def lineNo (L : List WV) : Int := (L.getLast?.map WV.ln).getD 0
theorem lg_step (L : List WV) (x : WV) (hx : 1 ≤ x.ln) {N : Bool} (hN : decide (¬ x.ln = lineNo L) = N) : ∃ G0 y, LG (L ++ [x]) = G0 ++ [y ++ [x]] ∧ if N = true then G0 = LG L ∧ y = [] else LG L = G0 ++ [y] := by
  have hg : (L ++ [x])[L.length]? = some x := by simp
  have hl : lnAt (L ++ [x]) L.length = x.ln := lnAt_of hg
  have hN2 : decide (L.length = 0 ∨ lnAt (L ++ [x]) L.length ≠ lnAt (L ++ [x]) (L.length - 1)) = N := by
    rw [← hN, hl]
    rcases List.eq_nil_or_concat L with rfl | ⟨L0, z, rfl⟩
    · have : ¬ x.ln = lineNo [] := by unfold lineNo; simp; omega
      simp [this]
    · rw [List.concat_eq_append] at hg ⊢
      have e : lnAt (L0 ++ [z] ++ [x]) ((L0 ++ [z]).length - 1) = z.ln := lnAt_of (by simp)
      have e2 : lineNo (L0 ++ [z]) = z.ln := by unfold lineNo; simp
      rw [e, e2]
      simp
  obtain ⟨G0, y, h1, h2⟩ := next_row (L ++ [x]) L.length x hg N hN2
  refine ⟨G0, y, ?_, ?_⟩
  · unfold LG; rw [List.length_append, List.length_singleton]; exact h1
  · have e : lrun (L ++ [x]) L.length = LG L := lrun_app L [x] L.length (Nat.le_refl _)
    cases N with
    | true => rw [if_pos rfl] at h2 ⊢; rw [← e]; exact h2
    | false => rw [if_neg (by simp)] at h2 ⊢; rw [← e]; exact h2.2.2
theorem lineNo_snoc (L : List WV) (x : WV) : lineNo (L ++ [x]) = x.ln := by unfold lineNo; simp

/-! ### rows of rows through others' steps -/
theorem Rows.keep {X Y : World} {B : Nat} {v : Value} {cs : List Value} {G : List (List WV)} {row : Option Nat} (h : Rows X B v cs G) (hg : X.grownBy Y row) (hr2 : ∀ r, row = some r → ∀ c T fr, X.heap[r]? = some (.cells c T fr) → T ≠ RTy ∧ T ≠ WT) : Rows Y B v cs G := by
  refine ⟨h.own.grown hg (fun k hk e => ?_), h.len, fun j x hx => ?_, h.apart⟩
  · obtain ⟨c, hc⟩ := h.own.blk hk
    exact (hr2 k e _ _ _ hc).1 rfl
  · obtain ⟨a, c, h1, h2⟩ := h.each j x hx
    refine ⟨a, c, h1, h2.grown hg (fun k hk e => ?_)⟩
    obtain ⟨c', hc⟩ := h2.blk hk
    exact (hr2 k e _ _ _ hc).2 rfl
theorem Rows.aside {X Y : World} {B : Nat} {v : Value} {cs : List Value} {G : List (List WV)} {row : Option Nat} (h : Rows X B v cs G) (hg : X.grownBy Y row) (hr : ∀ r, row = some r → ∃ o : Obj, X.heap[r]? = some o ∧ o.isCells = false) : Rows Y B v cs G :=
  h.keep hg (fun r e c T fr hc => by
    obtain ⟨o, ho, hn⟩ := hr r e
    rw [ho] at hc; cases hc; cases hn)
theorem Rows.box {X : World} {B b : Nat} {T : TypeId} {u u' : Value} {v : Value} {cs : List Value} {G : List (List WV)} (h : Rows X B v cs G) (hb : Go.Boxed X b T u) (h1 : T ≠ RTy) (h2 : T ≠ WT) : Rows (X.setCell ⟨b, 0, none⟩ u') B v cs G :=
  h.keep (grownBy_setCell' X b u') (fun r e c T' fr hc => by cases e; rw [show X.heap[b]? = _ from hb] at hc; cases hc; exact ⟨h1, h2⟩)
theorem ownR_same {w : World} {B B' : Nat} {v : Value} {cs cs' : List Value} (h : OwnR w B v cs) (h' : OwnR w B' v cs') : cs = cs' := by
  obtain ⟨a, c, e, _, _, hj⟩ := h.slice
  obtain ⟨a', c', e', _, _, hj'⟩ := h'.slice
  rw [e] at e'
  simp only [Value.slice.injEq] at e'
  obtain ⟨rfl, hl, _⟩ := e'
  apply List.ext_getElem?
  intro j
  rcases Nat.lt_or_ge j cs.length with q | q
  · obtain ⟨g, e1, h1, _⟩ := hj j cs[j] (List.getElem?_eq_getElem q)
    obtain ⟨g', e2, h2, _⟩ := hj' j (cs'[j]'(by omega)) (List.getElem?_eq_getElem (by omega))
    rw [e1] at e2
    simp only [Option.some.injEq, Addr.mk.injEq] at e2
    obtain ⟨rfl, _⟩ := e2
    rw [h1] at h2
    rw [List.getElem?_eq_getElem q, List.getElem?_eq_getElem (show j < cs'.length by omega)]
    exact h2
  · rw [List.getElem?_eq_none q, List.getElem?_eq_none (by omega)]
end Go.Proofs.YtlpffgmfgkleiaaDoor

/-
  The walk over a text's lines, as the program tells them.
-/
namespace Go.Proofs.YtlpffgmfgkleiaaDoor
open Go.RowKit Go.Maps Go.Shelf
attribute [local go_sem] Oper.semAt_some

abbrev WX := { x : WV // 1 ≤ x.ln }
theorem words_stopsX (n : Nat) (hn : 1 ≤ n) (Bn : Nat) (s : ByteArray) (hs : s.size ≤ 900000) (w : World) (hB : Go.Boxed w Bn 9 (.string s)) :
    SeqStopsK Fence.wide n Tryd.prog 76 #[.pointer (some ⟨Bn, 0, none⟩)] (fun x : WX => #[x.1.val]) (KpW Bn s) (fun ys => ys.map (·.1) = wordsOf s) (fun _ => True) (s.size + 1) w :=
  fun l J Jx W hW hJ _ hY h0 =>
    (words_in n hn l Bn s hs (fun q W => ∃ q' : List WX, q'.map (·.1) = q ∧ J q' W) (fun q W => ∃ q' : List WX, q'.map (·.1) = q ∧ Jx q' W) W
      (fun q X Y row ⟨q', e, h⟩ hg hr => ⟨q', e, hJ _ _ _ _ h hg hr⟩)
      (fun pre x W1 hx ⟨q', e, h⟩ hlen => by
        subst e
        obtain ⟨fn, tmps, assign, body, hy, hR⟩ := hY q' ⟨x, hx⟩ W1 h (by simpa using hlen)
        refine ⟨fn, tmps, assign, body, hy, hR.mono ?_⟩
        rintro e W' (⟨rfl, hj, hk⟩ | ⟨rfl, hj⟩)
        · exact .inl ⟨rfl, ⟨_, by simp, hj⟩, hk⟩
        · exact .inr ⟨rfl, _, by simp, hj⟩)
      (kept_obj hW hB) ⟨[], rfl, h0⟩).mono fun e W' ⟨hv, h⟩ => ⟨hv, by
        rcases h with ⟨ys, rfl, q', e, hj⟩ | ⟨pre, _, q', e, hj⟩
        · exact .inl ⟨q', e, hj⟩
        · exact .inr ⟨q', trivial, hj⟩⟩

/-- What the lines hold between two words. -/
structure LI (w W : World) (pre : List WV) : Prop where
  row : ∃ v cs, Go.Boxed W w.heap.size 64 v ∧ Rows W w.heap.size v cs (LG pre)
  line : Go.Boxed W (w.heap.size + 1) 3 (.int .i64 (lineNo pre))
  low : Below w.heap.size w W
theorem boxed_aside {X Y : World} {B : Nat} {T : TypeId} {v : Value} {row : Option Nat} (h : Go.Boxed X B T v) (hg : X.grownBy Y row) (hr : ∀ r, row = some r → ∃ o : Obj, X.heap[r]? = some o ∧ o.isCells = false) : Go.Boxed Y B T v :=
  boxed_own (β := Unit) B T (fun _ => v) () X Y row h hg hr
theorem LI.own (w : World) {β : Type} (f : β → List WV) {B : Nat} (hB : w.heap.size ≤ B) : OwnFrom B (fun s W => LI w W (f s)) := fun s X Y row hs hg hr => by
  have hc : ∀ r, row = some r → ∃ o : Obj, X.heap[r]? = some o ∧ o.isCells = false := fun r e => (hr r e).2
  obtain ⟨⟨v, cs, h1, h2⟩, h3, h4⟩ := hs
  exact ⟨⟨v, cs, boxed_aside h1 hg hc, h2.aside hg hc⟩, boxed_aside h3 hg hc, ownFrom_below (β := Unit) (Nat.le_refl _) hB () X Y row h4 hg hr⟩
theorem LI.alloc {w W : World} {pre : List WV} (h : LI w W pre) (o : Obj) : LI w (W.alloc o) pre :=
  LI.own w (fun _ : Unit => pre) (B := w.heap.size) (Nat.le_refl _) () W _ none h (World.grownBy_alloc W o none) (fun r e => by cases e)

theorem BoxW.kept {X Y : World} {B B' : Nat} {x : WV} {v : Value} {cs : List Value} (h : BoxW X B x) (r : OwnR X B' v cs) (hg : X.grownBy Y v.ownBlock) : BoxW Y B x := by
  refine (hg.block B (lt_of_block h) (fun e => ?_)).trans h
  obtain ⟨c, hc⟩ := r.blk e.symm
  rw [show X.heap[B]? = _ from h] at hc
  simp only [Option.some.injEq, Obj.cells.injEq] at hc
  exact absurd hc.2.1 (by decide)
theorem BoxW.alloc {X : World} {B : Nat} {x : WV} (h : BoxW X B x) (o : Obj) : BoxW (X.alloc o) B x := (Below.heap_alloc X o B (lt_of_block h)).trans h
theorem BoxW.set {X : World} {B b : Nat} {x : WV} (h : BoxW X B x) (hb : B ≠ b) (u : Value) : BoxW (X.setCell ⟨b, 0, none⟩ u) B x := (blk_far hb u).trans h
theorem boxw_ne {X : World} {B b : Nat} {x : WV} {T : TypeId} {v : Value} (h : BoxW X B x) (k : Go.Boxed X b T v) (hT : T ≠ WT) : B ≠ b := fun e => by
  subst e
  unfold Go.Boxed at k
  rw [show X.heap[B]? = _ from h] at k
  simp only [Option.some.injEq, Obj.cells.injEq] at k
  exact hT k.2.1.symm

theorem box_ne_row {X : World} {b g n c B : Nat} {T : TypeId} {v : Value} {cs : List Value} (h : Go.Boxed X b T v) (r : OwnR X B (.slice (some ⟨g, 0, none⟩) n c) cs) (hT : T ≠ RTy) : b ≠ g := fun e => by
  subst e
  obtain ⟨cs', hc⟩ := r.blk (k := b) rfl
  rw [show X.heap[b]? = _ from h] at hc
  simp only [Option.some.injEq, Obj.cells.injEq] at hc
  exact hT hc.2.1
theorem keepsOthers_below {X Y : World} (hb : Below X.heap.size X Y) : KeepsOthers X Y := ⟨hb.size, fun k o hk _ => kept_obj hb hk⟩
theorem keepsOthers_grown {X Y : World} {B : Nat} {u : Value} {l : List WV} (h : OwnW X B u l) (hg : X.grownBy Y u.ownBlock) : KeepsOthers X Y :=
  KeepsOthers.of_grownBy hg fun j o ej hj => by
    obtain ⟨c, hc⟩ := h.blk ej
    rw [hj] at hc
    cases hc
    rfl
theorem boxed_grown {X Y : World} {b B : Nat} {T : TypeId} {v u : Value} {l : List WV} (h : Go.Boxed X b T v) (hu : OwnW X B u l) (hg : X.grownBy Y u.ownBlock) (hT : T ≠ WT) : Go.Boxed Y b T v :=
  h.kept hg (h.not_row hT hu)
/-- Where the last line is about to grow. -/
structure Mid (w W V : World) (s : ByteArray) (B0 : Nat) (x : WV) (g c p : Nat) (cs1 : List Value) (u : Value) (G0 : List (List WV)) (y : List WV) : Prop where
  hv : Go.Boxed V w.heap.size 64 (.slice (some ⟨g, 0, none⟩) (p + 1) c)
  rows : Rows V w.heap.size (.slice (some ⟨g, 0, none⟩) (p + 1) c) (cs1 ++ [u]) (G0 ++ [y])
  len : G0.length = p
  line : Go.Boxed V (w.heap.size + 1) 3 (.int .i64 x.ln)
  low : Below w.heap.size w V
  kf : KeepsFrom B0 W V
  kw : KpW (w.heap.size + 2) s W V
theorem Mid.last {w W V : World} {s : ByteArray} {B0 : Nat} {x : WV} {g c p : Nat} {cs1 : List Value} {u : Value} {G0 : List (List WV)} {y : List WV} (m : Mid w W V s B0 x g c p cs1 u G0 y) :
    ∃ a d, u = .slice a y.length d ∧ OwnW V w.heap.size u y ∧ V.cell? ⟨g, p, none⟩ = some u := by
  have hcl : cs1.length = p := by have := m.rows.len; simp at this; rw [this, m.len]
  obtain ⟨au, du, e5, ou⟩ := m.rows.each p y (by rw [← m.len]; simp)
  rw [← hcl] at e5
  simp only [List.getElem?_concat_length, Option.some.injEq] at e5
  subst e5
  obtain ⟨g5, c5, e6, f1, f2⟩ := rows_at m.rows
  simp only [Value.slice.injEq, Option.some.injEq, Addr.mk.injEq] at e6
  obtain ⟨⟨rfl, -⟩, -⟩ := e6
  rw [hcl] at f1
  exact ⟨_, _, rfl, ou, f1⟩
theorem Mid.grow {w W V X w3 : World} {s : ByteArray} {B0 : Nat} {x : WV} {g c p n : Nat} {cs1 : List Value} {u : Value} {G0 : List (List WV)} {y L : List WV} (m : Mid w W V s B0 x g c p cs1 u G0 y) (hX : Below V.heap.size V X) {a3 : Option Addr} {k3 : Nat}
    (o3 : OwnW w3 w.heap.size (.slice a3 n k3) (y ++ [x])) (g3 : X.grownBy w3 u.ownBlock) (l3 : ∀ k, (Value.slice a3 n k3).ownBlock = some k → u.ownBlock = some k ∨ X.heap.size ≤ k) (hL : LG L = G0 ++ [y ++ [x]]) (hl : lineNo L = x.ln) :
    w3.cell? ⟨w.heap.size, 0, none⟩ = some (.slice (some ⟨g, 0, none⟩) (p + 1) c) ∧ w3.cell? ⟨g, p, none⟩ = some u ∧ w3.frozen? ⟨g, p, none⟩ = false ∧
      (w3.setCell ⟨g, p, none⟩ (.slice a3 n k3)).cell? ⟨w.heap.size, 0, none⟩ = some (.slice (some ⟨g, 0, none⟩) (p + 1) c) ∧
      KeepsFrom B0 W (w3.setCell ⟨g, p, none⟩ (.slice a3 n k3)) ∧ KpW (w.heap.size + 2) s W (w3.setCell ⟨g, p, none⟩ (.slice a3 n k3)) ∧ LI w (w3.setCell ⟨g, p, none⟩ (.slice a3 n k3)) L := by
  obtain ⟨au, du, eu, ou, _⟩ := m.last
  have hR := m.rows.below hX
  have hu := ou.below hX
  have hvX : Go.Boxed X w.heap.size 64 (.slice (some ⟨g, 0, none⟩) (p + 1) c) := kept_obj hX m.hv
  have hlX : Go.Boxed X (w.heap.size + 1) 3 (.int .i64 x.ln) := kept_obj hX m.line
  obtain ⟨q1, q2, q3, q4⟩ := row_grow (below_up m.low hX) hR m.len (by simp) o3 g3 l3
  have b1 := boxed_grown hvX hu g3 (by decide)
  have b2 := boxed_grown hlX hu g3 (by decide)
  have n1 := box_ne_row m.hv m.rows.own (by decide)
  have n2 := box_ne_row m.line m.rows.own (by decide)
  have ko : KeepsOthers V (w3.setCell ⟨g, p, none⟩ (.slice a3 n k3)) := ((keepsOthers_below hX).trans (keepsOthers_grown hu g3)).trans (KeepsOthers.setCell _ _ _)
  have c1 : Go.Boxed (w3.setCell ⟨g, p, none⟩ (.slice a3 n k3)) w.heap.size 64 (.slice (some ⟨g, 0, none⟩) (p + 1) c) := (blk_far n1 _).trans b1
  have c2 : Go.Boxed (w3.setCell ⟨g, p, none⟩ (.slice a3 n k3)) (w.heap.size + 1) 3 (.int .i64 x.ln) := (blk_far n2 _).trans b2
  refine ⟨b1.cell, q1, q2, c1.cell, m.kf.trans (ko.from _), kpW_t m.kw ⟨keepsWalks_of ko, fun z => ?_⟩, ⟨⟨_, _, c1, by rw [hL]; exact q3⟩, by rw [hl]; exact c2, q4⟩⟩
  exact (blk_far (box_ne_row z m.rows.own (by decide)) _).trans (boxed_grown (kept_obj hX z) hu g3 (by decide))

set_option maxRecDepth 100000 in
set_option maxHeartbeats 4000000 in
theorem lines_any (s : ByteArray) (hs : s.size ≤ 900000) (w : World) : Calls Tryd.prog 39 #[.string s] w (LinesBack (linesOf s) w) := by
  have NU := Lib.hid (fun n w => words_val s n w)
  have IT := Lib.hid (fun n hn Bn w => words_stopsX n hn Bn s hs w)
  obtain ⟨i0, hi, hz0, hz1, hz2⟩ := rinfoParts
  have hz := fun w : World => zeroWord w
  refine (callsIn_wide (n := 3)).1 ?_
  refine callsIn_of_wp_marks Tryd.func39 rfl trivial ?_ rfl
  simp only [Tryd.ntmps39, List.size_toArray, List.length_cons, List.length_nil, Nat.reduceAdd, Nat.reduceSub, Array.replicate_succ, Array.replicate_zero, List.push_toArray, List.append_toArray, List.nil_append, List.cons_append]
  gi_wp2_with (refine ⟨trivial, ?_⟩; gi_at_call 57; (refine (NU.out _ _).mono ?_); rintro e w' ⟨rfl, rfl⟩)
  obtain ⟨W0, hW0⟩ : ∃ W0, ((w.alloc (.cells #[.slice none 0 0] 64)).alloc (.cells #[.int .i64 0] 3)).alloc (.cells #[.string s] 9) = W0 := ⟨_, rfl⟩
  have hsz : W0.heap.size = w.heap.size + 3 := by rw [← hW0]; simp
  have c0 : Go.Boxed W0 w.heap.size 64 (.slice none 0 0) := by rw [← hW0]; exact (((Go.Boxed.new w _ _).alloc _).alloc _)
  have c1 : Go.Boxed W0 (w.heap.size + 1) 3 (.int .i64 0) := by
    rw [← hW0]
    have := Go.Boxed.new (w.alloc (.cells #[.slice none 0 0] 64)) 3 (.int .i64 0)
    rw [World.size_alloc] at this
    exact this.alloc _
  have c2 : Go.Boxed W0 (w.heap.size + 2) 9 (.string s) := by
    rw [← hW0]
    have := Go.Boxed.new ((w.alloc (.cells #[.slice none 0 0] 64)).alloc (.cells #[.int .i64 0] 3)) 9 (.string s)
    rw [World.size_alloc, World.size_alloc] at this
    exact this
  have cb : Below w.heap.size w W0 := by rw [← hW0]; exact bw_alloc (bw_alloc (bw_alloc (Below.refl _ _) _) _) _
  rw [hW0]
  clear NU hW0
  refine wpIn_rangeFunc_ownH rfl (by omega) (gf := 76) (lb := #[.pointer (some ⟨w.heap.size + 2, 0, none⟩)]) rfl trivial (enters_of Tryd.func76 (by kernel_rfl) rfl)
    (IT.out _ (by omega) (w.heap.size + 2) _ c2) kpW_t (kpW_b (s := s) (Bn := w.heap.size + 2)) (Below.refl _ _) (fun _ => rfl)
    (fun pre W => LI w W (pre.map (·.1)))
    (fun _ _ _ => False)
    (LI.own w (fun pre : List WX => pre.map (·.1)) (by omega))
    (fun _ _ _ _ _ hs _ _ => hs)
    ⟨⟨_, _, c0, Rows.nil _ _⟩, c1, cb⟩
    (fun x a' W => ∃ Bx, BoxW W Bx x.1 ∧ a' = { tmps := #[.string s, undef, .slice none 0 0, .pointer (some ⟨w.heap.size, 0, none⟩), .pointer (some ⟨w.heap.size + 1, 0, none⟩), .pointer (some ⟨Bx, 0, none⟩), undef, .string s, .func (.func 76) #[] #[.pointer (some ⟨w.heap.size + 2, 0, none⟩)], x.1.val, undef, undef, undef, undef, undef, undef, undef, undef, undef, undef, undef, undef, undef, undef, undef, undef, undef, undef, undef, undef, undef, undef, undef], defers := [] })
    ?_ ?assign ?body ?done ?stop
  · rintro x a' u X Y row ⟨Bx, hb, ha⟩ hg hrow
    exact ⟨Bx, BoxW.own () X Y row hb hg (fun r e => (hrow r e).2), ha⟩
  case assign =>
    rintro l pre x W K hI hK
    dsimp only [WV.val]
    clear IT
    gi_wp2
    exact hK _ _ ((KeepsOthers.alloc _ _).from _) ⟨keepsWalks_of (KeepsOthers.alloc _ _), fun z => z.alloc _⟩ (hI.alloc _) ⟨W.heap.size, World.alloc_heap_new W _, rfl⟩
  case body =>
    rintro l pre x a' W hl hr ⟨⟨v, cs, hv, hR⟩, hline, hB⟩ ⟨Bx, bX, rfl⟩ hlt
    obtain ⟨N, hN⟩ : ∃ N, decide (¬ x.1.ln = lineNo (pre.map (·.1))) = N := ⟨_, rfl⟩
    obtain ⟨G0, y, hG, hG2⟩ := lg_step (pre.map (·.1)) x.1 x.2 hN
    have HG : Hid (LG ((pre ++ [x]).map (·.1)) = G0 ++ [y ++ [x.1]]) := by show _ = _; rw [List.map_append, List.map_singleton]; exact hG
    have HLN : Hid (lineNo ((pre ++ [x]).map (·.1)) = x.1.ln) := by show _ = _; rw [List.map_append, List.map_singleton]; exact lineNo_snoc _ _
    clear hG
    have hcl : cs.length ≤ 900001 := by
      have h1 := lrun_len (pre.map (·.1)) (pre.map (·.1)).length
      have h2 := hR.len
      unfold LG at h2
      rw [List.length_map] at h1 h2
      omega
    obtain ⟨ln, hln⟩ : ∃ z, lineNo (pre.map (·.1)) = z := ⟨_, rfl⟩
    rw [hln] at hline hN
    have hc := hv.cell
    have hn := hline.cell
    have hfn := hline.frozen
    obtain ⟨x0, x1, x2⟩ := bX.wat
    have hrow : W.ownsRow w.heap.size RTy 1 v cs.length cs := hR.own
    have hw9 : IntKind.i64.wrap (cs.length : Int) = (cs.length : Int) := IntWalk.i64_in _ (by omega)
    clear IT c0 c1 c2 cb
    cases N with
    | true =>
      have d1 : (x.1.ln != ln) = true := by rw [bne_iff_ne]; exact of_decide_eq_true hN
      rw [if_pos rfl] at hG2
      obtain ⟨hG0, hy0⟩ := hG2
      gi_wp2_with (gi_at_builtin; refine wpListIn_append_own _ rfl _ _ 64 rfl w.heap.size RTy i0 _ 1 24 Tryd.underlying64 hi hz0 hz1 hz2 rfl (by decide) _ _ _ rfl (hrow.alloc _) ⟨W.heap.size, 0, none⟩ 1 1 [.slice none 0 0] rfl rfl (cell_one_new _ _ _) (by simp [Value.oneCell']) (by unfold maxLen; omega) (by omega) (by have := hB.size; simp; omega) ?_; intro v' w3 hown' hgrow _; obtain ⟨g, c, rfl⟩ := ownsRow_succ hown'; obtain ⟨hv1, hv2, hr2, hk2, hb2⟩ := hv.appended (by decide) hrow hB.size (by omega) hown' hgrow; have hc1 := hv1.cell; have hf1 := hv1.frozen; have bX1 := (bX.alloc (.cells #[.slice none 0 0] RTy)).kept (OwnR.below hR.own (bw_alloc (Below.refl _ _) _)) hgrow; have bL1 := (hline.alloc (.cells #[.slice none 0 0] RTy)).kept hgrow (hline.not_row (by decide) hrow); have x1' := bX1.wat.c1; have hn1 := bL1.cell; have hfn1 := bL1.frozen)
      have hne := boxw_ne bX1 hv1 (by decide)
      have hne2 := boxw_ne bX1 bL1 (by decide)
      have hcs : (cs ++ [Value.slice none 0 0]).length = cs.length + 1 := by simp
      have hRm : Rows w3 w.heap.size (.slice (some ⟨g, 0, none⟩) (cs.length + 1) c) (cs ++ [.slice none 0 0]) (LG (pre.map (·.1)) ++ [[]]) :=
        (Rows.below hR (bw_alloc (Below.refl _ _) (.cells #[.slice none 0 0] RTy))).more (by unfold OwnR; rw [hcs]; exact hown') hgrow
      obtain ⟨u, hu⟩ : ∃ u : Value, u = .slice none 0 0 := ⟨_, rfl⟩
      have bL2 := bL1.other (show w.heap.size + 1 ≠ w.heap.size by omega) (.slice (some ⟨g, 0, none⟩) (cs.length + 1) c)
      have HM := Lib.hid (show Mid w W ((w3.setCell ⟨w.heap.size, 0, none⟩ (.slice (some ⟨g, 0, none⟩) (cs.length + 1) c)).setCell ⟨w.heap.size + 1, 0, none⟩ (.int .i64 x.1.ln)) s W0.heap.size x.1 g c cs.length cs u G0 y from
        ⟨hv2.other (by omega) _, (by rw [hG0, hy0, hu]; exact (hRm.box hv1 (by decide) (by decide)).box bL2 (by decide) (by decide)), (by rw [hG0]; exact hR.len.symm), bL2.set _, (hB.trans hb2).setCell (p := ⟨w.heap.size + 1, 0, none⟩) (by simp) _, (hk2.trans (KeepsOthers.setCell _ _ _)).from _,
          keepsWalks_of (hk2.trans (KeepsOthers.setCell _ _ _)), fun z => (((z.alloc _).kept hgrow (z.not_row (by decide) hrow)).other (by omega) _).other (by omega) _⟩)
      have HX : Hid (BoxW ((w3.setCell ⟨w.heap.size, 0, none⟩ (.slice (some ⟨g, 0, none⟩) (cs.length + 1) c)).setCell ⟨w.heap.size + 1, 0, none⟩ (.int .i64 x.1.ln)) Bx x.1) := (bX1.set hne _).set hne2 _
      generalize ((w3.setCell ⟨w.heap.size, 0, none⟩ (.slice (some ⟨g, 0, none⟩) (cs.length + 1) c)).setCell ⟨w.heap.size + 1, 0, none⟩ (.int .i64 x.1.ln)) = V at HM HX ⊢
      generalize cs.length = p at *
      clear hown' hgrow hv1 hv2 hr2 hk2 hb2 hc1 hf1 bX1 bL1 bL2 x1' hn1 hfn1 hRm hcs hne hne2 hc hn hfn x0 x1 x2 hrow hw9 d1 hv hR hline hB bX hG0 hy0 hu
      obtain ⟨a5, d5, rfl, ou, hgc⟩ := HM.out.last
      obtain ⟨n5, hn5⟩ : ∃ n5, y.length = n5 := ⟨_, rfl⟩
      rw [hn5] at hgc ou HM
      have HU := Lib.hid ou
      have HYL : Hid (y.length + 1 ≤ 1000000) := by
        show _ ≤ _
        have := lrun_each ((pre ++ [x]).map (·.1)) ((pre ++ [x]).map (·.1)).length (y ++ [x.1]) (by have h := HG.out; unfold LG at h; rw [h]; simp)
        rw [List.length_append, List.length_map, List.length_append, List.length_singleton] at this
        simp at this
        omega
      have HN5 : Hid (y.length + 1 = n5 + 1) := by show _ = _; rw [hn5]
      have hSV := HM.out.hv.cell
      have hS : (fun w' : World => w'.cell? ⟨w.heap.size, 0, none⟩ = some (Value.slice (some ⟨g, 0, none⟩) (p + 1) c)) V.drew := hSV
      obtain ⟨x0, x1, x2⟩ := HX.out.wat
      have hgl := block_of_cell hgc
      have hxl := block_of_cell x0
      have hp1 : (p : Int) < (p : Int) + 1 := by omega
      have hp0 : (0 : Int) ≤ (p : Int) := by omega
      clear ou hn5
      refine region_round (fun w' : World => w'.cell? ⟨w.heap.size, 0, none⟩ = some (Value.slice (some ⟨g, 0, none⟩) (p + 1) c)) (by kernel_rfl) (by kernel_rfl) (by rintro ⟨_, _, h⟩; exact h) ?_
      refine wpAnyH_take (i := 0) (oi := { dst := some 22, op := .load 64 (.tmp 3), type := 64, pos := _, after := _, guard := none }) (v := Value.slice (some ⟨g, 0, none⟩) (p + 1) c) rfl (by kernel_rfl) (by kernel_rfl) (by kernel_rfl) (fun _ _ _ h => h) (Or.inl ⟨by rfl, ?_⟩) hS ?_
      · intro w' hw'
        have hw'' : w'.cell? ⟨w.heap.size, 0, none⟩ = some (Value.slice (some ⟨g, 0, none⟩) (p + 1) c) := hw'
        clear hw'
        go_simp
      simp only [Act.put, List.setIfInBounds_toArray, List.set_cons_zero, List.set_cons_succ]
      refine wpAnyH_take (i := 1) (oi := { dst := some 23, op := .move (.tmp 6), type := 3, pos := _, after := _, guard := none }) (v := .int .i64 p) rfl (by kernel_rfl) (by kernel_rfl) (by kernel_rfl) (fun _ _ _ h => h) (Or.inl ⟨by rfl, ?_⟩) hS ?_
      · intro w' hw'
        have hw'' : w'.cell? ⟨w.heap.size, 0, none⟩ = some (Value.slice (some ⟨g, 0, none⟩) (p + 1) c) := hw'
        clear hw'
        go_simp
      simp only [Act.put, List.setIfInBounds_toArray, List.set_cons_zero, List.set_cons_succ]
      refine wpAnyH_take (i := 2) (oi := { dst := some 24, op := .load 64 (.tmp 3), type := 64, pos := _, after := _, guard := none }) (v := Value.slice (some ⟨g, 0, none⟩) (p + 1) c) rfl (by kernel_rfl) (by kernel_rfl) (by kernel_rfl) (fun _ _ _ h => h) (Or.inl ⟨by rfl, ?_⟩) hS ?_
      · intro w' hw'
        have hw'' : w'.cell? ⟨w.heap.size, 0, none⟩ = some (Value.slice (some ⟨g, 0, none⟩) (p + 1) c) := hw'
        clear hw'
        go_simp
      simp only [Act.put, List.setIfInBounds_toArray, List.set_cons_zero, List.set_cons_succ]
      refine wpAnyH_take (i := 3) (oi := { dst := some 25, op := .move (.tmp 6), type := 3, pos := _, after := _, guard := none }) (v := .int .i64 p) rfl (by kernel_rfl) (by kernel_rfl) (by kernel_rfl) (fun _ _ _ h => h) (Or.inl ⟨by rfl, ?_⟩) hS ?_
      · intro w' hw'
        have hw'' : w'.cell? ⟨w.heap.size, 0, none⟩ = some (Value.slice (some ⟨g, 0, none⟩) (p + 1) c) := hw'
        clear hw'
        go_simp
      simp only [Act.put, List.setIfInBounds_toArray, List.set_cons_zero, List.set_cons_succ]
      refine wpAnyH_take (i := 4) (oi := { dst := some 26, op := .indexAddr 64 (.tmp 24) (.tmp 25), type := 0, pos := _, after := _, guard := none }) (v := .pointer (some ⟨g, p, none⟩)) rfl (by kernel_rfl) (by kernel_rfl) (by kernel_rfl) (fun _ _ _ h => h) (Or.inl ⟨by rfl, ?_⟩) hS ?_
      · intro w' hw'
        have hw'' : w'.cell? ⟨w.heap.size, 0, none⟩ = some (Value.slice (some ⟨g, 0, none⟩) (p + 1) c) := hw'
        clear hw'
        go_simp
      simp only [Act.put, List.setIfInBounds_toArray, List.set_cons_zero, List.set_cons_succ]
      refine wpAnyH_ready (rs := [5, 6]) (by kernel_rfl) (by simp) ?_
      refine AllReadyH.cons (o := { dst := some 27, op := .load 66 (.tmp 26), type := 66, pos := _, after := _, guard := none }) rfl (fun K hK => ?_) (AllReadyH.cons (o := { dst := some 28, op := .load WT (.tmp 5), type := WT, pos := _, after := _, guard := none }) rfl (fun K hK => ?_) AllReadyH.nil)
      · go_simp
        refine hK.out _ _ (by first | exact hS | exact (kept_cell ((by repeat (first | exact Below.refl _ _ | (with_reducible assumption) | refine bw_alloc ?_ _ | refine bw_drew ?_)) : Below V.heap.size V _) hSV)) (fun _ => ?_)
        clear hK K
        try simp only [Act.put, List.setIfInBounds_toArray, List.set_cons_zero, List.set_cons_succ]
        refine wpAnyH_ready (rs := [6]) (by kernel_rfl) (by simp) ?_
        refine AllReadyH.cons (o := { dst := some 28, op := .load WT (.tmp 5), type := WT, pos := _, after := _, guard := none }) rfl (fun K hK => ?_) AllReadyH.nil
        go_simp
        refine hK.out _ _ (by first | exact hS | exact (kept_cell ((by repeat (first | exact Below.refl _ _ | (with_reducible assumption) | refine bw_alloc ?_ _ | refine bw_drew ?_)) : Below V.heap.size V _) hSV)) (fun _ => ?_)
        clear hK K
        try simp only [Act.put, List.setIfInBounds_toArray, List.set_cons_zero, List.set_cons_succ]
        refine wpAnyH_ready (rs := [7]) (by kernel_rfl) (by simp) ?_
        refine AllReadyH.cons (o := { dst := some 29, op := .buildSlice 66 1 #[(0, .tmp 28)], type := 66, pos := _, after := _, guard := none }) rfl (fun K hK => ?_) AllReadyH.nil
        go_simp
        refine hK.out _ _ (by first | exact hS | exact (kept_cell ((by repeat (first | exact Below.refl _ _ | (with_reducible assumption) | refine bw_alloc ?_ _ | refine bw_drew ?_)) : Below V.heap.size V _) hSV)) (fun _ => ?_)
        clear hK K
        try simp only [Act.put, List.setIfInBounds_toArray, List.set_cons_zero, List.set_cons_succ]
        refine wpAnyH_ready (rs := [8]) (by kernel_rfl) (by simp) ?_
        refine AllReadyH.cons (o := { dst := some 30, op := .call { callee := .builtin .append, args := #[.tmp 27, .tmp 29], argTypes := #[66, 66] }, type := 66, pos := _, after := _, guard := none }) rfl (fun K hK => ?_) AllReadyH.nil
        refine step_wappend (m := 1) (l := [x.1]) rfl (.tmp 27) (.tmp 29) rfl (by rfl) (by rfl) (HU.out.below (by repeat (first | exact Below.refl _ _ | (with_reducible assumption) | refine bw_alloc ?_ _ | refine bw_drew ?_))) (Nat.le_trans HM.out.low.size ((by repeat (first | exact Below.refl _ _ | (with_reducible assumption) | refine bw_alloc ?_ _ | refine bw_drew ?_)) : Below V.heap.size V _).size) (by first | exact WView.of_at (wat_new _ x.1 _) | exact (WView.of_at (wat_new _ x.1 _)).below (by repeat (first | exact Below.refl _ _ | (with_reducible assumption) | refine bw_alloc ?_ _ | refine bw_drew ?_))) rfl HYL.out (fun z => by cases z) (n5 + 1) HN5.out ?_
        intro a3 k3 w3 o3 g3 l3
        obtain ⟨s1, q1, q2, s2, f1, f2, f3⟩ := HM.out.grow ((by repeat (first | exact Below.refl _ _ | (with_reducible assumption) | refine bw_alloc ?_ _ | refine bw_drew ?_)) : Below V.heap.size V _) o3 g3 l3 HG.out HLN.out
        refine hK.out _ _ s1 (fun _ => ?_)
        clear hK K
        try simp only [Act.put, List.setIfInBounds_toArray, List.set_cons_zero, List.set_cons_succ]
        have F1 := Lib.hid f1
        have F2 := Lib.hid f2
        have F3 := Lib.hid f3
        clear f1 f2 f3 o3 g3 l3
        refine wpAnyH_ready (rs := [9]) (by kernel_rfl) (by simp) ?_
        refine AllReadyH.cons (o := { dst := some 31, op := .indexAddr 64 (.tmp 22) (.tmp 23), type := 0, pos := _, after := _, guard := none }) rfl (fun K hK => ?_) AllReadyH.nil
        go_simp
        refine hK.out _ _ (s1) (fun _ => ?_)
        clear hK K
        try simp only [Act.put, List.setIfInBounds_toArray, List.set_cons_zero, List.set_cons_succ]
        refine wpAnyH_ready (rs := [10]) (by kernel_rfl) (by simp) ?_
        refine AllReadyH.cons (o := { dst := none, op := .store 66 (.tmp 31) (.tmp 30), type := 0, pos := _, after := _, guard := none }) rfl (fun K hK => ?_) AllReadyH.nil
        go_simp
        refine hK.out _ _ (s2) (fun _ => ?_)
        clear hK K
        try simp only [Act.put, List.setIfInBounds_toArray, List.set_cons_zero, List.set_cons_succ]
        refine wpAnyH_done (by kernel_rfl) ?_ _
        gi_wp2
        exact ⟨by first | exact F1.out | (rw [← hsz]; exact F1.out), F2.out, F3.out⟩
      · go_simp
        refine hK.out _ _ (by first | exact hS | exact (kept_cell ((by repeat (first | exact Below.refl _ _ | (with_reducible assumption) | refine bw_alloc ?_ _ | refine bw_drew ?_)) : Below V.heap.size V _) hSV)) (fun _ => ?_)
        clear hK K
        try simp only [Act.put, List.setIfInBounds_toArray, List.set_cons_zero, List.set_cons_succ]
        refine wpAnyH_ready (rs := [5, 7]) (by kernel_rfl) (by simp) ?_
        refine AllReadyH.cons (o := { dst := some 27, op := .load 66 (.tmp 26), type := 66, pos := _, after := _, guard := none }) rfl (fun K hK => ?_) (AllReadyH.cons (o := { dst := some 29, op := .buildSlice 66 1 #[(0, .tmp 28)], type := 66, pos := _, after := _, guard := none }) rfl (fun K hK => ?_) AllReadyH.nil)
        · go_simp
          refine hK.out _ _ (by first | exact hS | exact (kept_cell ((by repeat (first | exact Below.refl _ _ | (with_reducible assumption) | refine bw_alloc ?_ _ | refine bw_drew ?_)) : Below V.heap.size V _) hSV)) (fun _ => ?_)
          clear hK K
          try simp only [Act.put, List.setIfInBounds_toArray, List.set_cons_zero, List.set_cons_succ]
          refine wpAnyH_ready (rs := [7]) (by kernel_rfl) (by simp) ?_
          refine AllReadyH.cons (o := { dst := some 29, op := .buildSlice 66 1 #[(0, .tmp 28)], type := 66, pos := _, after := _, guard := none }) rfl (fun K hK => ?_) AllReadyH.nil
          go_simp
          refine hK.out _ _ (by first | exact hS | exact (kept_cell ((by repeat (first | exact Below.refl _ _ | (with_reducible assumption) | refine bw_alloc ?_ _ | refine bw_drew ?_)) : Below V.heap.size V _) hSV)) (fun _ => ?_)
          clear hK K
          try simp only [Act.put, List.setIfInBounds_toArray, List.set_cons_zero, List.set_cons_succ]
          refine wpAnyH_ready (rs := [8]) (by kernel_rfl) (by simp) ?_
          refine AllReadyH.cons (o := { dst := some 30, op := .call { callee := .builtin .append, args := #[.tmp 27, .tmp 29], argTypes := #[66, 66] }, type := 66, pos := _, after := _, guard := none }) rfl (fun K hK => ?_) AllReadyH.nil
          refine step_wappend (m := 1) (l := [x.1]) rfl (.tmp 27) (.tmp 29) rfl (by rfl) (by rfl) (HU.out.below (by repeat (first | exact Below.refl _ _ | (with_reducible assumption) | refine bw_alloc ?_ _ | refine bw_drew ?_))) (Nat.le_trans HM.out.low.size ((by repeat (first | exact Below.refl _ _ | (with_reducible assumption) | refine bw_alloc ?_ _ | refine bw_drew ?_)) : Below V.heap.size V _).size) (by first | exact WView.of_at (wat_new _ x.1 _) | exact (WView.of_at (wat_new _ x.1 _)).below (by repeat (first | exact Below.refl _ _ | (with_reducible assumption) | refine bw_alloc ?_ _ | refine bw_drew ?_))) rfl HYL.out (fun z => by cases z) (n5 + 1) HN5.out ?_
          intro a3 k3 w3 o3 g3 l3
          obtain ⟨s1, q1, q2, s2, f1, f2, f3⟩ := HM.out.grow ((by repeat (first | exact Below.refl _ _ | (with_reducible assumption) | refine bw_alloc ?_ _ | refine bw_drew ?_)) : Below V.heap.size V _) o3 g3 l3 HG.out HLN.out
          refine hK.out _ _ s1 (fun _ => ?_)
          clear hK K
          try simp only [Act.put, List.setIfInBounds_toArray, List.set_cons_zero, List.set_cons_succ]
          have F1 := Lib.hid f1
          have F2 := Lib.hid f2
          have F3 := Lib.hid f3
          clear f1 f2 f3 o3 g3 l3
          refine wpAnyH_ready (rs := [9]) (by kernel_rfl) (by simp) ?_
          refine AllReadyH.cons (o := { dst := some 31, op := .indexAddr 64 (.tmp 22) (.tmp 23), type := 0, pos := _, after := _, guard := none }) rfl (fun K hK => ?_) AllReadyH.nil
          go_simp
          refine hK.out _ _ (s1) (fun _ => ?_)
          clear hK K
          try simp only [Act.put, List.setIfInBounds_toArray, List.set_cons_zero, List.set_cons_succ]
          refine wpAnyH_ready (rs := [10]) (by kernel_rfl) (by simp) ?_
          refine AllReadyH.cons (o := { dst := none, op := .store 66 (.tmp 31) (.tmp 30), type := 0, pos := _, after := _, guard := none }) rfl (fun K hK => ?_) AllReadyH.nil
          go_simp
          refine hK.out _ _ (s2) (fun _ => ?_)
          clear hK K
          try simp only [Act.put, List.setIfInBounds_toArray, List.set_cons_zero, List.set_cons_succ]
          refine wpAnyH_done (by kernel_rfl) ?_ _
          gi_wp2
          exact ⟨by first | exact F1.out | (rw [← hsz]; exact F1.out), F2.out, F3.out⟩
        · go_simp
          refine hK.out _ _ (by first | exact hS | exact (kept_cell ((by repeat (first | exact Below.refl _ _ | (with_reducible assumption) | refine bw_alloc ?_ _ | refine bw_drew ?_)) : Below V.heap.size V _) hSV)) (fun _ => ?_)
          clear hK K
          try simp only [Act.put, List.setIfInBounds_toArray, List.set_cons_zero, List.set_cons_succ]
          refine wpAnyH_ready (rs := [5]) (by kernel_rfl) (by simp) ?_
          refine AllReadyH.cons (o := { dst := some 27, op := .load 66 (.tmp 26), type := 66, pos := _, after := _, guard := none }) rfl (fun K hK => ?_) AllReadyH.nil
          go_simp
          refine hK.out _ _ (by first | exact hS | exact (kept_cell ((by repeat (first | exact Below.refl _ _ | (with_reducible assumption) | refine bw_alloc ?_ _ | refine bw_drew ?_)) : Below V.heap.size V _) hSV)) (fun _ => ?_)
          clear hK K
          try simp only [Act.put, List.setIfInBounds_toArray, List.set_cons_zero, List.set_cons_succ]
          refine wpAnyH_ready (rs := [8]) (by kernel_rfl) (by simp) ?_
          refine AllReadyH.cons (o := { dst := some 30, op := .call { callee := .builtin .append, args := #[.tmp 27, .tmp 29], argTypes := #[66, 66] }, type := 66, pos := _, after := _, guard := none }) rfl (fun K hK => ?_) AllReadyH.nil
          refine step_wappend (m := 1) (l := [x.1]) rfl (.tmp 27) (.tmp 29) rfl (by rfl) (by rfl) (HU.out.below (by repeat (first | exact Below.refl _ _ | (with_reducible assumption) | refine bw_alloc ?_ _ | refine bw_drew ?_))) (Nat.le_trans HM.out.low.size ((by repeat (first | exact Below.refl _ _ | (with_reducible assumption) | refine bw_alloc ?_ _ | refine bw_drew ?_)) : Below V.heap.size V _).size) (by first | exact WView.of_at (wat_new _ x.1 _) | exact (WView.of_at (wat_new _ x.1 _)).below (by repeat (first | exact Below.refl _ _ | (with_reducible assumption) | refine bw_alloc ?_ _ | refine bw_drew ?_))) rfl HYL.out (fun z => by cases z) (n5 + 1) HN5.out ?_
          intro a3 k3 w3 o3 g3 l3
          obtain ⟨s1, q1, q2, s2, f1, f2, f3⟩ := HM.out.grow ((by repeat (first | exact Below.refl _ _ | (with_reducible assumption) | refine bw_alloc ?_ _ | refine bw_drew ?_)) : Below V.heap.size V _) o3 g3 l3 HG.out HLN.out
          refine hK.out _ _ s1 (fun _ => ?_)
          clear hK K
          try simp only [Act.put, List.setIfInBounds_toArray, List.set_cons_zero, List.set_cons_succ]
          have F1 := Lib.hid f1
          have F2 := Lib.hid f2
          have F3 := Lib.hid f3
          clear f1 f2 f3 o3 g3 l3
          refine wpAnyH_ready (rs := [9]) (by kernel_rfl) (by simp) ?_
          refine AllReadyH.cons (o := { dst := some 31, op := .indexAddr 64 (.tmp 22) (.tmp 23), type := 0, pos := _, after := _, guard := none }) rfl (fun K hK => ?_) AllReadyH.nil
          go_simp
          refine hK.out _ _ (s1) (fun _ => ?_)
          clear hK K
          try simp only [Act.put, List.setIfInBounds_toArray, List.set_cons_zero, List.set_cons_succ]
          refine wpAnyH_ready (rs := [10]) (by kernel_rfl) (by simp) ?_
          refine AllReadyH.cons (o := { dst := none, op := .store 66 (.tmp 31) (.tmp 30), type := 0, pos := _, after := _, guard := none }) rfl (fun K hK => ?_) AllReadyH.nil
          go_simp
          refine hK.out _ _ (s2) (fun _ => ?_)
          clear hK K
          try simp only [Act.put, List.setIfInBounds_toArray, List.set_cons_zero, List.set_cons_succ]
          refine wpAnyH_done (by kernel_rfl) ?_ _
          gi_wp2
          exact ⟨by first | exact F1.out | (rw [← hsz]; exact F1.out), F2.out, F3.out⟩
    | false =>
      have d1 : (x.1.ln != ln) = false := by rw [bne_eq_false_iff_eq]; have := of_decide_eq_false hN; omega
      rw [if_neg (by simp)] at hG2
      have hxl9 : x.1.ln = ln := Decidable.byContradiction fun z => absurd hN (by rw [decide_eq_true z]; simp)
      rw [hG2] at hR
      obtain ⟨cs0, u, rfl, hc0⟩ := rows_split hR
      obtain ⟨g, c, e6, _, _⟩ := rows_at hR
      obtain ⟨p, hp⟩ : ∃ p, G0.length = p := ⟨_, rfl⟩
      rw [List.length_append, List.length_singleton, hp] at e6
      subst e6
      have hw9 : IntKind.i64.wrap (p : Int) = (p : Int) := by
        rw [List.length_append, List.length_singleton, hc0, hp] at hcl
        exact IntWalk.i64_in _ (by omega)
      have HM := Lib.hid (show Mid w W W s W0.heap.size x.1 g c p cs0 u G0 y from ⟨hv, hR, hp, by rw [hxl9]; exact hline, hB, KeepsFrom.refl _ _, KeepsWalks.refl _, fun z => z⟩)
      have HX : Hid (BoxW W Bx x.1) := bX
      clear hR hrow hp hcl hc0 hG2 hxl9 hN
      gi_wp2
      clear hc hn hfn x0 x1 x2 hw9 d1 hv hline hB bX
      obtain ⟨a5, d5, rfl, ou, hgc⟩ := HM.out.last
      obtain ⟨n5, hn5⟩ : ∃ n5, y.length = n5 := ⟨_, rfl⟩
      rw [hn5] at hgc ou HM
      have HU := Lib.hid ou
      have HYL : Hid (y.length + 1 ≤ 1000000) := by
        show _ ≤ _
        have := lrun_each ((pre ++ [x]).map (·.1)) ((pre ++ [x]).map (·.1)).length (y ++ [x.1]) (by have h := HG.out; unfold LG at h; rw [h]; simp)
        rw [List.length_append, List.length_map, List.length_append, List.length_singleton] at this
        simp at this
        omega
      have HN5 : Hid (y.length + 1 = n5 + 1) := by show _ = _; rw [hn5]
      have hSV := HM.out.hv.cell
      have hS : (fun w' : World => w'.cell? ⟨w.heap.size, 0, none⟩ = some (Value.slice (some ⟨g, 0, none⟩) (p + 1) c)) W.drew := hSV
      obtain ⟨x0, x1, x2⟩ := HX.out.wat
      have hgl := block_of_cell hgc
      have hxl := block_of_cell x0
      have hp1 : (p : Int) < (p : Int) + 1 := by omega
      have hp0 : (0 : Int) ≤ (p : Int) := by omega
      clear ou hn5
      refine region_round (fun w' : World => w'.cell? ⟨w.heap.size, 0, none⟩ = some (Value.slice (some ⟨g, 0, none⟩) (p + 1) c)) (by kernel_rfl) (by kernel_rfl) (by rintro ⟨_, _, h⟩; exact h) ?_
      refine wpAnyH_take (i := 0) (oi := { dst := some 22, op := .load 64 (.tmp 3), type := 64, pos := _, after := _, guard := none }) (v := Value.slice (some ⟨g, 0, none⟩) (p + 1) c) rfl (by kernel_rfl) (by kernel_rfl) (by kernel_rfl) (fun _ _ _ h => h) (Or.inl ⟨by rfl, ?_⟩) hS ?_
      · intro w' hw'
        have hw'' : w'.cell? ⟨w.heap.size, 0, none⟩ = some (Value.slice (some ⟨g, 0, none⟩) (p + 1) c) := hw'
        clear hw'
        go_simp
      simp only [Act.put, List.setIfInBounds_toArray, List.set_cons_zero, List.set_cons_succ]
      refine wpAnyH_take (i := 1) (oi := { dst := some 23, op := .move (.tmp 6), type := 3, pos := _, after := _, guard := none }) (v := .int .i64 p) rfl (by kernel_rfl) (by kernel_rfl) (by kernel_rfl) (fun _ _ _ h => h) (Or.inl ⟨by rfl, ?_⟩) hS ?_
      · intro w' hw'
        have hw'' : w'.cell? ⟨w.heap.size, 0, none⟩ = some (Value.slice (some ⟨g, 0, none⟩) (p + 1) c) := hw'
        clear hw'
        go_simp
      simp only [Act.put, List.setIfInBounds_toArray, List.set_cons_zero, List.set_cons_succ]
      refine wpAnyH_take (i := 2) (oi := { dst := some 24, op := .load 64 (.tmp 3), type := 64, pos := _, after := _, guard := none }) (v := Value.slice (some ⟨g, 0, none⟩) (p + 1) c) rfl (by kernel_rfl) (by kernel_rfl) (by kernel_rfl) (fun _ _ _ h => h) (Or.inl ⟨by rfl, ?_⟩) hS ?_
      · intro w' hw'
        have hw'' : w'.cell? ⟨w.heap.size, 0, none⟩ = some (Value.slice (some ⟨g, 0, none⟩) (p + 1) c) := hw'
        clear hw'
        go_simp
      simp only [Act.put, List.setIfInBounds_toArray, List.set_cons_zero, List.set_cons_succ]
      refine wpAnyH_take (i := 3) (oi := { dst := some 25, op := .move (.tmp 6), type := 3, pos := _, after := _, guard := none }) (v := .int .i64 p) rfl (by kernel_rfl) (by kernel_rfl) (by kernel_rfl) (fun _ _ _ h => h) (Or.inl ⟨by rfl, ?_⟩) hS ?_
      · intro w' hw'
        have hw'' : w'.cell? ⟨w.heap.size, 0, none⟩ = some (Value.slice (some ⟨g, 0, none⟩) (p + 1) c) := hw'
        clear hw'
        go_simp
      simp only [Act.put, List.setIfInBounds_toArray, List.set_cons_zero, List.set_cons_succ]
      refine wpAnyH_take (i := 4) (oi := { dst := some 26, op := .indexAddr 64 (.tmp 24) (.tmp 25), type := 0, pos := _, after := _, guard := none }) (v := .pointer (some ⟨g, p, none⟩)) rfl (by kernel_rfl) (by kernel_rfl) (by kernel_rfl) (fun _ _ _ h => h) (Or.inl ⟨by rfl, ?_⟩) hS ?_
      · intro w' hw'
        have hw'' : w'.cell? ⟨w.heap.size, 0, none⟩ = some (Value.slice (some ⟨g, 0, none⟩) (p + 1) c) := hw'
        clear hw'
        go_simp
      simp only [Act.put, List.setIfInBounds_toArray, List.set_cons_zero, List.set_cons_succ]
      refine wpAnyH_ready (rs := [5, 6]) (by kernel_rfl) (by simp) ?_
      refine AllReadyH.cons (o := { dst := some 27, op := .load 66 (.tmp 26), type := 66, pos := _, after := _, guard := none }) rfl (fun K hK => ?_) (AllReadyH.cons (o := { dst := some 28, op := .load WT (.tmp 5), type := WT, pos := _, after := _, guard := none }) rfl (fun K hK => ?_) AllReadyH.nil)
      · go_simp
        refine hK.out _ _ (by first | exact hS | exact (kept_cell ((by repeat (first | exact Below.refl _ _ | (with_reducible assumption) | refine bw_alloc ?_ _ | refine bw_drew ?_)) : Below W.heap.size W _) hSV)) (fun _ => ?_)
        clear hK K
        try simp only [Act.put, List.setIfInBounds_toArray, List.set_cons_zero, List.set_cons_succ]
        refine wpAnyH_ready (rs := [6]) (by kernel_rfl) (by simp) ?_
        refine AllReadyH.cons (o := { dst := some 28, op := .load WT (.tmp 5), type := WT, pos := _, after := _, guard := none }) rfl (fun K hK => ?_) AllReadyH.nil
        go_simp
        refine hK.out _ _ (by first | exact hS | exact (kept_cell ((by repeat (first | exact Below.refl _ _ | (with_reducible assumption) | refine bw_alloc ?_ _ | refine bw_drew ?_)) : Below W.heap.size W _) hSV)) (fun _ => ?_)
        clear hK K
        try simp only [Act.put, List.setIfInBounds_toArray, List.set_cons_zero, List.set_cons_succ]
        refine wpAnyH_ready (rs := [7]) (by kernel_rfl) (by simp) ?_
        refine AllReadyH.cons (o := { dst := some 29, op := .buildSlice 66 1 #[(0, .tmp 28)], type := 66, pos := _, after := _, guard := none }) rfl (fun K hK => ?_) AllReadyH.nil
        go_simp
        refine hK.out _ _ (by first | exact hS | exact (kept_cell ((by repeat (first | exact Below.refl _ _ | (with_reducible assumption) | refine bw_alloc ?_ _ | refine bw_drew ?_)) : Below W.heap.size W _) hSV)) (fun _ => ?_)
        clear hK K
        try simp only [Act.put, List.setIfInBounds_toArray, List.set_cons_zero, List.set_cons_succ]
        refine wpAnyH_ready (rs := [8]) (by kernel_rfl) (by simp) ?_
        refine AllReadyH.cons (o := { dst := some 30, op := .call { callee := .builtin .append, args := #[.tmp 27, .tmp 29], argTypes := #[66, 66] }, type := 66, pos := _, after := _, guard := none }) rfl (fun K hK => ?_) AllReadyH.nil
        refine step_wappend (m := 1) (l := [x.1]) rfl (.tmp 27) (.tmp 29) rfl (by rfl) (by rfl) (HU.out.below (by repeat (first | exact Below.refl _ _ | (with_reducible assumption) | refine bw_alloc ?_ _ | refine bw_drew ?_))) (Nat.le_trans HM.out.low.size ((by repeat (first | exact Below.refl _ _ | (with_reducible assumption) | refine bw_alloc ?_ _ | refine bw_drew ?_)) : Below W.heap.size W _).size) (by first | exact WView.of_at (wat_new _ x.1 _) | exact (WView.of_at (wat_new _ x.1 _)).below (by repeat (first | exact Below.refl _ _ | (with_reducible assumption) | refine bw_alloc ?_ _ | refine bw_drew ?_))) rfl HYL.out (fun z => by cases z) (n5 + 1) HN5.out ?_
        intro a3 k3 w3 o3 g3 l3
        obtain ⟨s1, q1, q2, s2, f1, f2, f3⟩ := HM.out.grow ((by repeat (first | exact Below.refl _ _ | (with_reducible assumption) | refine bw_alloc ?_ _ | refine bw_drew ?_)) : Below W.heap.size W _) o3 g3 l3 HG.out HLN.out
        refine hK.out _ _ s1 (fun _ => ?_)
        clear hK K
        try simp only [Act.put, List.setIfInBounds_toArray, List.set_cons_zero, List.set_cons_succ]
        have F1 := Lib.hid f1
        have F2 := Lib.hid f2
        have F3 := Lib.hid f3
        clear f1 f2 f3 o3 g3 l3
        refine wpAnyH_ready (rs := [9]) (by kernel_rfl) (by simp) ?_
        refine AllReadyH.cons (o := { dst := some 31, op := .indexAddr 64 (.tmp 22) (.tmp 23), type := 0, pos := _, after := _, guard := none }) rfl (fun K hK => ?_) AllReadyH.nil
        go_simp
        refine hK.out _ _ (s1) (fun _ => ?_)
        clear hK K
        try simp only [Act.put, List.setIfInBounds_toArray, List.set_cons_zero, List.set_cons_succ]
        refine wpAnyH_ready (rs := [10]) (by kernel_rfl) (by simp) ?_
        refine AllReadyH.cons (o := { dst := none, op := .store 66 (.tmp 31) (.tmp 30), type := 0, pos := _, after := _, guard := none }) rfl (fun K hK => ?_) AllReadyH.nil
        go_simp
        refine hK.out _ _ (s2) (fun _ => ?_)
        clear hK K
        try simp only [Act.put, List.setIfInBounds_toArray, List.set_cons_zero, List.set_cons_succ]
        refine wpAnyH_done (by kernel_rfl) ?_ _
        gi_wp2
        exact ⟨by first | exact F1.out | (rw [← hsz]; exact F1.out), F2.out, F3.out⟩
      · go_simp
        refine hK.out _ _ (by first | exact hS | exact (kept_cell ((by repeat (first | exact Below.refl _ _ | (with_reducible assumption) | refine bw_alloc ?_ _ | refine bw_drew ?_)) : Below W.heap.size W _) hSV)) (fun _ => ?_)
        clear hK K
        try simp only [Act.put, List.setIfInBounds_toArray, List.set_cons_zero, List.set_cons_succ]
        refine wpAnyH_ready (rs := [5, 7]) (by kernel_rfl) (by simp) ?_
        refine AllReadyH.cons (o := { dst := some 27, op := .load 66 (.tmp 26), type := 66, pos := _, after := _, guard := none }) rfl (fun K hK => ?_) (AllReadyH.cons (o := { dst := some 29, op := .buildSlice 66 1 #[(0, .tmp 28)], type := 66, pos := _, after := _, guard := none }) rfl (fun K hK => ?_) AllReadyH.nil)
        · go_simp
          refine hK.out _ _ (by first | exact hS | exact (kept_cell ((by repeat (first | exact Below.refl _ _ | (with_reducible assumption) | refine bw_alloc ?_ _ | refine bw_drew ?_)) : Below W.heap.size W _) hSV)) (fun _ => ?_)
          clear hK K
          try simp only [Act.put, List.setIfInBounds_toArray, List.set_cons_zero, List.set_cons_succ]
          refine wpAnyH_ready (rs := [7]) (by kernel_rfl) (by simp) ?_
          refine AllReadyH.cons (o := { dst := some 29, op := .buildSlice 66 1 #[(0, .tmp 28)], type := 66, pos := _, after := _, guard := none }) rfl (fun K hK => ?_) AllReadyH.nil
          go_simp
          refine hK.out _ _ (by first | exact hS | exact (kept_cell ((by repeat (first | exact Below.refl _ _ | (with_reducible assumption) | refine bw_alloc ?_ _ | refine bw_drew ?_)) : Below W.heap.size W _) hSV)) (fun _ => ?_)
          clear hK K
          try simp only [Act.put, List.setIfInBounds_toArray, List.set_cons_zero, List.set_cons_succ]
          refine wpAnyH_ready (rs := [8]) (by kernel_rfl) (by simp) ?_
          refine AllReadyH.cons (o := { dst := some 30, op := .call { callee := .builtin .append, args := #[.tmp 27, .tmp 29], argTypes := #[66, 66] }, type := 66, pos := _, after := _, guard := none }) rfl (fun K hK => ?_) AllReadyH.nil
          refine step_wappend (m := 1) (l := [x.1]) rfl (.tmp 27) (.tmp 29) rfl (by rfl) (by rfl) (HU.out.below (by repeat (first | exact Below.refl _ _ | (with_reducible assumption) | refine bw_alloc ?_ _ | refine bw_drew ?_))) (Nat.le_trans HM.out.low.size ((by repeat (first | exact Below.refl _ _ | (with_reducible assumption) | refine bw_alloc ?_ _ | refine bw_drew ?_)) : Below W.heap.size W _).size) (by first | exact WView.of_at (wat_new _ x.1 _) | exact (WView.of_at (wat_new _ x.1 _)).below (by repeat (first | exact Below.refl _ _ | (with_reducible assumption) | refine bw_alloc ?_ _ | refine bw_drew ?_))) rfl HYL.out (fun z => by cases z) (n5 + 1) HN5.out ?_
          intro a3 k3 w3 o3 g3 l3
          obtain ⟨s1, q1, q2, s2, f1, f2, f3⟩ := HM.out.grow ((by repeat (first | exact Below.refl _ _ | (with_reducible assumption) | refine bw_alloc ?_ _ | refine bw_drew ?_)) : Below W.heap.size W _) o3 g3 l3 HG.out HLN.out
          refine hK.out _ _ s1 (fun _ => ?_)
          clear hK K
          try simp only [Act.put, List.setIfInBounds_toArray, List.set_cons_zero, List.set_cons_succ]
          have F1 := Lib.hid f1
          have F2 := Lib.hid f2
          have F3 := Lib.hid f3
          clear f1 f2 f3 o3 g3 l3
          refine wpAnyH_ready (rs := [9]) (by kernel_rfl) (by simp) ?_
          refine AllReadyH.cons (o := { dst := some 31, op := .indexAddr 64 (.tmp 22) (.tmp 23), type := 0, pos := _, after := _, guard := none }) rfl (fun K hK => ?_) AllReadyH.nil
          go_simp
          refine hK.out _ _ (s1) (fun _ => ?_)
          clear hK K
          try simp only [Act.put, List.setIfInBounds_toArray, List.set_cons_zero, List.set_cons_succ]
          refine wpAnyH_ready (rs := [10]) (by kernel_rfl) (by simp) ?_
          refine AllReadyH.cons (o := { dst := none, op := .store 66 (.tmp 31) (.tmp 30), type := 0, pos := _, after := _, guard := none }) rfl (fun K hK => ?_) AllReadyH.nil
          go_simp
          refine hK.out _ _ (s2) (fun _ => ?_)
          clear hK K
          try simp only [Act.put, List.setIfInBounds_toArray, List.set_cons_zero, List.set_cons_succ]
          refine wpAnyH_done (by kernel_rfl) ?_ _
          gi_wp2
          exact ⟨by first | exact F1.out | (rw [← hsz]; exact F1.out), F2.out, F3.out⟩
        · go_simp
          refine hK.out _ _ (by first | exact hS | exact (kept_cell ((by repeat (first | exact Below.refl _ _ | (with_reducible assumption) | refine bw_alloc ?_ _ | refine bw_drew ?_)) : Below W.heap.size W _) hSV)) (fun _ => ?_)
          clear hK K
          try simp only [Act.put, List.setIfInBounds_toArray, List.set_cons_zero, List.set_cons_succ]
          refine wpAnyH_ready (rs := [5]) (by kernel_rfl) (by simp) ?_
          refine AllReadyH.cons (o := { dst := some 27, op := .load 66 (.tmp 26), type := 66, pos := _, after := _, guard := none }) rfl (fun K hK => ?_) AllReadyH.nil
          go_simp
          refine hK.out _ _ (by first | exact hS | exact (kept_cell ((by repeat (first | exact Below.refl _ _ | (with_reducible assumption) | refine bw_alloc ?_ _ | refine bw_drew ?_)) : Below W.heap.size W _) hSV)) (fun _ => ?_)
          clear hK K
          try simp only [Act.put, List.setIfInBounds_toArray, List.set_cons_zero, List.set_cons_succ]
          refine wpAnyH_ready (rs := [8]) (by kernel_rfl) (by simp) ?_
          refine AllReadyH.cons (o := { dst := some 30, op := .call { callee := .builtin .append, args := #[.tmp 27, .tmp 29], argTypes := #[66, 66] }, type := 66, pos := _, after := _, guard := none }) rfl (fun K hK => ?_) AllReadyH.nil
          refine step_wappend (m := 1) (l := [x.1]) rfl (.tmp 27) (.tmp 29) rfl (by rfl) (by rfl) (HU.out.below (by repeat (first | exact Below.refl _ _ | (with_reducible assumption) | refine bw_alloc ?_ _ | refine bw_drew ?_))) (Nat.le_trans HM.out.low.size ((by repeat (first | exact Below.refl _ _ | (with_reducible assumption) | refine bw_alloc ?_ _ | refine bw_drew ?_)) : Below W.heap.size W _).size) (by first | exact WView.of_at (wat_new _ x.1 _) | exact (WView.of_at (wat_new _ x.1 _)).below (by repeat (first | exact Below.refl _ _ | (with_reducible assumption) | refine bw_alloc ?_ _ | refine bw_drew ?_))) rfl HYL.out (fun z => by cases z) (n5 + 1) HN5.out ?_
          intro a3 k3 w3 o3 g3 l3
          obtain ⟨s1, q1, q2, s2, f1, f2, f3⟩ := HM.out.grow ((by repeat (first | exact Below.refl _ _ | (with_reducible assumption) | refine bw_alloc ?_ _ | refine bw_drew ?_)) : Below W.heap.size W _) o3 g3 l3 HG.out HLN.out
          refine hK.out _ _ s1 (fun _ => ?_)
          clear hK K
          try simp only [Act.put, List.setIfInBounds_toArray, List.set_cons_zero, List.set_cons_succ]
          have F1 := Lib.hid f1
          have F2 := Lib.hid f2
          have F3 := Lib.hid f3
          clear f1 f2 f3 o3 g3 l3
          refine wpAnyH_ready (rs := [9]) (by kernel_rfl) (by simp) ?_
          refine AllReadyH.cons (o := { dst := some 31, op := .indexAddr 64 (.tmp 22) (.tmp 23), type := 0, pos := _, after := _, guard := none }) rfl (fun K hK => ?_) AllReadyH.nil
          go_simp
          refine hK.out _ _ (s1) (fun _ => ?_)
          clear hK K
          try simp only [Act.put, List.setIfInBounds_toArray, List.set_cons_zero, List.set_cons_succ]
          refine wpAnyH_ready (rs := [10]) (by kernel_rfl) (by simp) ?_
          refine AllReadyH.cons (o := { dst := none, op := .store 66 (.tmp 31) (.tmp 30), type := 0, pos := _, after := _, guard := none }) rfl (fun K hK => ?_) AllReadyH.nil
          go_simp
          refine hK.out _ _ (s2) (fun _ => ?_)
          clear hK K
          try simp only [Act.put, List.setIfInBounds_toArray, List.set_cons_zero, List.set_cons_succ]
          refine wpAnyH_done (by kernel_rfl) ?_ _
          gi_wp2
          exact ⟨by first | exact F1.out | (rw [← hsz]; exact F1.out), F2.out, F3.out⟩
  case done =>
    rintro D ys W hD hS ⟨⟨v, cs, hv, hR⟩, hline, hB⟩ hK
    have hc := hv.cell
    clear IT
    gi_wp2
    refine ⟨by simp, .inl ⟨_, _, rfl, run_takeDeferred hK, ?_⟩⟩
    have hG : LG (ys.map (·.1)) = linesOf s := by rw [hS]; rfl
    rw [hG] at hR
    obtain ⟨a, c, e, hac, hcm, _⟩ := hR.own.slice
    rw [hR.len] at e
    subst e
    have hRD : Rows (W.putObj D (.deferred none)) w.heap.size (.slice a (linesOf s).length c) cs (linesOf s) := hR.aside (grownBy_putObj' W D _) (fun r e => by cases e; exact ⟨_, hK, rfl⟩)
    exact ⟨_, results_tmp rfl _ _ _, a, c, w.heap.size, cs, rfl, Nat.le_refl _, hRD, hB.trans (belowK_b (w := w) (Nat.le_refl _) W D _ _ (by omega) hK rfl rfl)⟩
  case stop =>
    rintro D c pre W _ _ h _
    exact h.elim
end Go.Proofs.YtlpffgmfgkleiaaDoor

/-
  A system that is being read: what lies in memory.
-/
namespace Go.Proofs.YtlpffgmfgkleiaaDoor
open Go.RowKit Go.Maps

theorem lrun_sub (L : List WV) : ∀ i, ∀ g ∈ lrun L i, ∀ x ∈ g, x ∈ L
  | 0, g, h, x, hx => by simp [lrun] at h
  | i + 1, g, h, x, hx => by
    have ih := lrun_sub L i
    have hL : ∀ x ∈ L[i]?.toList, x ∈ L := fun x hx => by
      cases e : L[i]? with
      | none => rw [e] at hx; cases hx
      | some y => rw [e] at hx; simp at hx; subst hx; exact List.mem_of_getElem? e
    rw [lrun] at h
    split at h
    · rcases List.mem_append.1 h with q | q
      · exact ih g q x hx
      · simp only [List.mem_singleton] at q; subst q; exact hL x hx
    · rcases List.mem_append.1 h with q | q
      · exact ih g (List.dropLast_subset _ q) x hx
      · simp only [List.mem_singleton] at q
        subst q
        rcases List.mem_append.1 hx with z | z
        · cases e : (lrun L i).getLast? with
          | none => rw [e] at z; cases z
          | some y => rw [e] at z; exact ih y (List.mem_of_getLast? e) x z
        · exact hL x z
theorem lines_sub {s : ByteArray} {G : List WV} (h : G ∈ linesOf s) : ∀ x ∈ G, x ∈ wordsOf s := fun x hx => lrun_sub _ _ G h x hx
theorem lines_ok {s : ByteArray} (hs : s.size ≤ 900000) {G : List WV} (h : G ∈ linesOf s) : WordsOk G := fun x hx => by
  have q := (words_found s).1 x (lines_sub h x hx)
  have h1 := q.in_
  have h2 := q.lo
  unfold WV.till at h1
  unfold I64
  omega
theorem lines_count (s : ByteArray) : (linesOf s).length ≤ s.size + 1 := by
  have h1 := lrun_len (wordsOf s) (wordsOf s).length
  have h2 := (wrun_inv s (s.size + 1) (Nat.le_refl _)).1
  unfold linesOf
  unfold wordsOf at h1 ⊢
  omega
/-- One of the rows. -/
theorem rows_cell {w : World} {B n c : Nat} {a : Option Addr} {cs : List Value} {G : List (List WV)} (h : Rows w B (.slice a n c) cs G) {j : Nat} {x : List WV} (hx : G[j]? = some x) :
    ∃ g aj cj, a = some ⟨g, 0, none⟩ ∧ w.cell? ⟨g, j, none⟩ = some (.slice aj x.length cj) ∧ WView w aj x ∧ x.length ≤ cj ∧ (cj : Int) ≤ 9223372036854775807 := by
  obtain ⟨aj, cj, h1, h2⟩ := h.each j x hx
  obtain ⟨a', cap', e, -, -, h3⟩ := h.own.slice
  cases e
  obtain ⟨g, e, hc, -⟩ := h3 j _ h1
  obtain ⟨a2, c2, e2, hv, hl, hm⟩ := h2.slice
  cases e2
  exact ⟨g, aj, cj, e, hc, hv, hl, hm⟩
/-- A system that is being made: its box at g, its tasks so far; all below N as it was. -/
structure SysAt (W1 : World) (N g : Nat) (s r : Int) (v : Value) (L : List TV) (W : World) : Prop where
  low : Below N W1 W
  gl : N ≤ g
  box : Box W g SysT #[.int .i64 s, .int .i64 r, v]
  own : OwnT W (g + 1) v L
  ok : AllOk W L
  ints : ∀ x ∈ L, IsI W x.a1 x.ch ∧ IsI W x.a2 x.us
  news : ∀ x ∈ L, FreshI N x.a1 x.ch ∧ FreshI N x.a2 x.us
theorem SysAt.below {W1 W W' : World} {N g : Nat} {s r : Int} {v : Value} {L : List TV} (h : SysAt W1 N g s r v L W) (hb : Below W.heap.size W W') : SysAt W1 N g s r v L W' :=
  ⟨h.low.trans (hb.mono (by have := lt_of_block h.box; have := h.gl; omega)), h.gl, kept_obj hb h.box, h.own.below hb, h.ok.below hb, fun x hx => ⟨(h.ints x hx).1.below hb, (h.ints x hx).2.below hb⟩, h.news⟩
theorem sysAt_new {W1 W : World} {N : Nat} {s r : Int} (hl : Below N W1 W) (hN : N ≤ W.heap.size) : SysAt W1 N W.heap.size s r (.slice none 0 0) [] (W.alloc (.cells #[.int .i64 s, .int .i64 r, .slice none 0 0] SysT)) :=
  ⟨hl.trans ((bw_alloc (Below.refl _ _) _).mono hN), hN, heap_alloc_new W _, OwnT.nil _ _, (fun x hx => by cases hx), (fun x hx => by cases hx), (fun x hx => by cases hx)⟩
theorem SysAt.push {W1 W w3 : World} {N g : Nat} {s r : Int} {v v' : Value} {L : List TV} {y : TV} (h : SysAt W1 N g s r v L W) (hg : W.grownBy w3 v.ownBlock) (ho : OwnT w3 (g + 1) v' (L ++ [y])) (hy : y.ok W) (hi : IsI W y.a1 y.ch ∧ IsI W y.a2 y.us) (hf : FreshI N y.a1 y.ch ∧ FreshI N y.a2 y.us) :
    SysAt W1 N g s r v' (L ++ [y]) (w3.setCell ⟨g, 2, none⟩ v') ∧ w3.cell? ⟨g, 2, none⟩ = some v ∧ w3.frozen? ⟨g, 2, none⟩ = false := by
  have hs : g + 1 ≤ W.heap.size := lt_of_block h.box
  have hb : Below (g + 1) W w3 := (Below.refl _ W).grown hg hs (fun k hk => (h.own.new hk).1)
  have hgl := h.gl
  have h3 := kept_objB hb (by omega) h.box
  have hk3 : ∀ (b : Nat) (cs : Array Value) (T : TypeId) (fr : Nat × Nat), W.heap[b]? = some (.cells cs T fr) → (T = 2 ∨ T = 3) → w3.heap[b]? = W.heap[b]? := by
    intro b cs T fr hc hT
    refine hg.block b (lt_of_block hc) ?_
    intro z
    rcases h.own with ⟨_, q | ⟨k', cap', cur', e', hB', h3', _⟩⟩
    · rw [q.1] at z; cases z
    · rw [e'] at z
      simp [Value.ownBlock] at z
      subst z
      rw [hc] at h3'
      simp at h3'
      rcases hT with q | q <;> rw [q] at h3' <;> exact absurd h3'.2.1 (by decide)
  have hk : ∀ (b : Nat) (cs : Array Value) (T : TypeId) (fr : Nat × Nat), W.heap[b]? = some (.cells cs T fr) → (T = 2 ∨ T = 3) → (w3.setCell ⟨g, 2, none⟩ v').heap[b]? = W.heap[b]? := by
    intro b cs T fr hc hT
    have e1 := hk3 b cs T fr hc hT
    rw [blk_far (a := ⟨g, 2, none⟩) ?_ v']
    · exact e1
    · rintro rfl
      rw [hc] at e1
      rw [h3] at e1
      simp at e1
      rcases hT with q | q <;> rw [q] at e1 <;> exact absurd e1.2.1 (by decide)
  have hall : ∀ x ∈ L ++ [y], x.ok W ∧ (IsI W x.a1 x.ch ∧ IsI W x.a2 x.us) := by
    intro x hx
    rcases List.mem_append.1 hx with q | q
    · exact ⟨h.ok x q, h.ints x q⟩
    · simp at q; subst q; exact ⟨hy, hi⟩
  exact ⟨⟨(h.low.trans (hb.mono (by omega))).setCell (p := ⟨g, 2, none⟩) (by show _ ≤ g; omega) _, h.gl, (blk_set h3 _).trans rfl, ho.set (by simp) _, fun x hx => (hall x hx).1.kept (hall x hx).2 hk, fun x hx => ⟨(hall x hx).2.1.kept hk, (hall x hx).2.2.kept hk⟩, fun x hx => by rcases List.mem_append.1 hx with q | q; (exact h.news x q); (simp at q; subst q; exact hf)⟩, by rw [blk_cell h3]; rfl, blk_free h3 2⟩
theorem SysAt.tasks {W1 W : World} {N g n c : Nat} {a : Option Addr} {s r : Int} {L : List TV} (h : SysAt W1 N g s r (.slice a n c) L W) : Tasks W a n c L := by
  obtain ⟨a', cap, e, hv, hl, hm⟩ := h.own.slice
  cases e
  exact ⟨rfl, hv, h.ok, hl, hm⟩
/-- A system in memory: what its tasks are; all of it lies in blocks not below B. -/
def Holds (S R : Int) (l : List Tk) (B : Nat) (v : Value) (w : World) : Prop :=
  ∃ (a : Option Addr) (n c : Nat) (L : List TV), v = .agg #[.int .i64 S, .int .i64 R, .slice a n c] ∧ L.map TV.tk = l ∧ OwnT w B (.slice a n c) L ∧ AllOk w L ∧ (∀ x ∈ L, IsI w x.a1 x.ch ∧ IsI w x.a2 x.us) ∧ (∀ x ∈ L, FreshI B x.a1 x.ch ∧ FreshI B x.a2 x.us) ∧ (∀ x ∈ L, I64 x.p ∧ I64 x.id)
def GotSys (S R : Int) (l : List Tk) (w : World) (v : Value) (w' : World) : Prop := Holds S R l w.heap.size v w' ∧ Below w.heap.size w w'
theorem Holds.low {S R : Int} {l : List Tk} {B B' : Nat} {v : Value} {w : World} (h : Holds S R l B v w) (hB : B' ≤ B) : Holds S R l B' v w := by
  obtain ⟨a, n, c, L, h1, h2, h3, h4, h5, h6, h7⟩ := h
  exact ⟨a, n, c, L, h1, h2, h3.low hB, h4, h5, fun x hx => ⟨(h6 x hx).1.low hB, (h6 x hx).2.low hB⟩, h7⟩
/-- What lies below it may turn. -/
theorem Holds.kept {S R : Int} {l : List Tk} {B : Nat} {v : Value} {w w' : World} (h : Holds S R l B v w) (hk : ∀ b, B ≤ b → b < w.heap.size → w'.heap[b]? = w.heap[b]?) : Holds S R l B v w' := by
  obtain ⟨a, n, c, L, h1, h2, h3, h4, h5, h6, h7⟩ := h
  have hi : ∀ (z : Option Addr) (q : List Int), IsI w z q → Ints w z q → FreshI B z q → IsI w' z q ∧ Ints w' z q := fun z q k1 k2 k3 => by
    rcases k2 with rfl | ⟨g, o, rfl, hc⟩
    · exact ⟨.inl rfl, .inl rfl⟩
    rcases k1 with rfl | k1
    · exact ⟨.inl rfl, .inl rfl⟩
    rcases k3 with rfl | k3
    · exact ⟨.inl rfl, .inl rfl⟩
    obtain ⟨cs, t, fr, hb, ht⟩ := k1 g o rfl
    have e := hk g (k3 g o rfl) (lt_of_block hb)
    refine ⟨.inr fun g' o' e' => ?_, .inr ⟨g, o, rfl, fun j u hj => ?_⟩⟩
    · cases e'
      exact ⟨cs, t, fr, e.trans hb, ht⟩
    · have := hc j u hj
      rw [blk_cell hb] at this
      rw [blk_cell (e.trans hb)]
      exact this
  refine ⟨a, n, c, L, h1, h2, ?_, ?_, ?_, h6, h7⟩
  · rcases h3 with ⟨h0, h | ⟨g, cap, cur, e, hB, q3, r⟩⟩
    · exact ⟨h0, .inl h⟩
    · exact ⟨h0, .inr ⟨g, cap, cur, e, hB, (hk g hB (lt_of_block q3)).trans q3, r⟩⟩
  · intro x hx
    have q := h4 x hx
    exact ⟨(hi _ _ (h5 x hx).1 q.one (h6 x hx).1).2, (hi _ _ (h5 x hx).2 q.two (h6 x hx).2).2, q.l1, q.m1, q.l2, q.m2⟩
  · intro x hx
    have q := h4 x hx
    exact ⟨(hi _ _ (h5 x hx).1 q.one (h6 x hx).1).1, (hi _ _ (h5 x hx).2 q.two (h6 x hx).2).1⟩
theorem Holds.below {S R : Int} {l : List Tk} {B : Nat} {v : Value} {w w' : World} (h : Holds S R l B v w) (hb : Below w.heap.size w w') : Holds S R l B v w' := h.kept fun b _ h2 => hb.block b h2
theorem Holds.set {S R : Int} {l : List Tk} {B b o : Nat} {v : Value} {w : World} (h : Holds S R l B v w) (hb : b < B) (x : Value) : Holds S R l B v (w.setCell ⟨b, o, none⟩ x) :=
  h.kept fun k h1 _ => blk_far (a := ⟨b, o, none⟩) (by show k ≠ b; omega) x
theorem SysAt.holds {W1 W : World} {N g n c : Nat} {a : Option Addr} {s r : Int} {L : List TV} {l : List Tk} (h : SysAt W1 N g s r (.slice a n c) L W) (hl : L.map TV.tk = l) (hs : ∀ x ∈ L, I64 x.p ∧ I64 x.id) : Holds s r l N (.agg #[.int .i64 s, .int .i64 r, .slice a n c]) W :=
  ⟨a, n, c, L, rfl, hl, h.own.low (by have := h.gl; omega), h.ok, h.ints, h.news, hs⟩
theorem SysAt.done {w W1 W : World} {N g n c : Nat} {a : Option Addr} {s r : Int} {L : List TV} {l : List Tk} (h : SysAt W1 N g s r (.slice a n c) L W) (hw : Below w.heap.size w W1) (hN : w.heap.size < N) (hl : L.map TV.tk = l) (hs : ∀ x ∈ L, I64 x.p ∧ I64 x.id) (x0 x1 x2 : Value) :
    GotSys s r l w (.agg #[.int .i64 s, .int .i64 r, .slice a n c]) (((W.setCell ⟨w.heap.size, 0, none⟩ x0).setCell ⟨w.heap.size, 1, none⟩ x1).setCell ⟨w.heap.size, 2, none⟩ x2) :=
  ⟨((((h.holds hl hs).set hN x0).set hN x1).set hN x2).low (by omega),
    (((hw.trans (h.low.mono (by omega))).setCell (p := ⟨w.heap.size, 0, none⟩) (Nat.le_refl _) x0).setCell (p := ⟨w.heap.size, 1, none⟩) (Nat.le_refl _) x1).setCell (p := ⟨w.heap.size, 2, none⟩) (Nat.le_refl _) x2⟩
/-- What a text does to the one who reads it. -/
def SysIs (s : ByteArray) (w : World) (y : Ending) (w' : World) : Prop := match parseOf s with
  | .error q => Panics q.1 q.2 y ∧ Below w.heap.size w w'
  | .ok (S, R, l) => ∃ v, y = .returned v ∧ GotSys S R l w v w'
theorem line_small {W : List WV} {t : Tk} (h : lineOf W = .ok t) : wordAt W 0 = some bTask ∧ (0 ≤ t.id ∧ t.id ≤ 99) ∧ (0 ≤ t.p ∧ t.p ≤ 99) := by
  by_cases e0 : wordAt W 0 = some bTask
  rotate_left
  · rw [line_first e0] at h; cases h
  refine ⟨e0, ?_⟩
  cases e1 : idOf W with
  | none => rw [line_id e0 e1] at h; cases h
  | some id =>
    have a1 : (id : Int) ≤ 99 := by
      unfold idOf at e1
      obtain ⟨s, -, q⟩ := Option.bind_eq_some_iff.1 e1
      exact numOf_le q
    cases e2 : numK W 0 with
    | none => rw [line_bad (k := 0) e0 e1 (by omega) (fun j hj => absurd hj (Nat.not_lt_zero _)) e2] at h; cases h
    | some c =>
      cases e3 : numK W 1 with
      | none => rw [line_bad (k := 1) e0 e1 (by omega) (fun j hj => by match j, hj with | 0, _ => exact ⟨_, e2⟩) e3] at h; cases h
      | some d =>
        cases e4 : numK W 2 with
        | none => rw [line_bad (k := 2) e0 e1 (by omega) (fun j hj => by match j, hj with | 0, _ => exact ⟨_, e2⟩ | 1, _ => exact ⟨_, e3⟩) e4] at h; cases h
        | some t' =>
          cases e5 : numK W 3 with
          | none => rw [line_bad (k := 3) e0 e1 (by omega) (fun j hj => by match j, hj with | 0, _ => exact ⟨_, e2⟩ | 1, _ => exact ⟨_, e3⟩ | 2, _ => exact ⟨_, e4⟩) e5] at h; cases h
          | some p =>
            have a5 : (p : Int) ≤ 99 := by
              unfold numK numAt at e5
              obtain ⟨s, -, q⟩ := Option.bind_eq_some_iff.1 e5
              exact numOf_le q
            by_cases ho : plus2 W < W.length
            · rw [line_over e0 e1 e2 e3 e4 e5 ho] at h; cases h
            · rw [line_ok e0 e1 e2 e3 e4 e5 ho] at h
              cases h
              exact ⟨⟨by show (0 : Int) ≤ (id : Int); omega, a1⟩, ⟨by show (0 : Int) ≤ (p : Int); omega, a5⟩⟩
end Go.Proofs.YtlpffgmfgkleiaaDoor

/-
  The walk over a text that says a system.
-/
namespace Go.Proofs.YtlpffgmfgkleiaaDoor
open Go.RowKit Go.Maps

theorem parse_none {s : ByteArray} (h : linesOf s = []) : parseOf s = .error (s.size, 10) := by unfold parseOf; rw [h]
theorem parse_cache {s : ByteArray} {W : List WV} {rest : List (List WV)} {p : Int} (h : linesOf s = W :: rest) (hc : cacheOf W = .error p) : parseOf s = .error (p, 10) := by unfold parseOf; rw [h]; simp only []; rw [hc]
theorem parse_tail {s : ByteArray} {W : List WV} {rest : List (List WV)} {S R : Nat} {q : Int × Int} (h : linesOf s = W :: rest) (hc : cacheOf W = .ok (S, R)) (ht : tailOf S R [] rest = .error q) : parseOf s = .error q := by unfold parseOf; rw [h]; simp only []; rw [hc]; simp only []; rw [ht]
theorem parse_empty {s : ByteArray} {W : List WV} {rest : List (List WV)} {S R : Nat} (h : linesOf s = W :: rest) (hc : cacheOf W = .ok (S, R)) (ht : tailOf S R [] rest = .ok []) : parseOf s = .error (s.size, 1) := by unfold parseOf; rw [h]; simp only []; rw [hc]; simp only []; rw [ht]
theorem parse_some {s : ByteArray} {W : List WV} {rest : List (List WV)} {S R : Nat} {l : List Tk} (h : linesOf s = W :: rest) (hc : cacheOf W = .ok (S, R)) (ht : tailOf S R [] rest = .ok l) (hl : l ≠ []) : parseOf s = .ok (S, R, l) := by
  unfold parseOf; rw [h]; simp only []; rw [hc]; simp only []; rw [ht]
  cases l with
  | nil => exact absurd rfl hl
  | cons x l => rfl
theorem tail_step {S R : Int} {acc : List Tk} {rest : List (List WV)} {k : Nat} {W : List WV} (hx : rest[k]? = some W) : tailOf S R acc (rest.drop k) = match lineOf W with
    | .error p => .error (p, 10)
    | .ok t => if checkT S R (acc ++ [t]) = 0 then tailOf S R (acc ++ [t]) (rest.drop (k + 1)) else .error (placeAt W 0, checkT S R (acc ++ [t])) := by
  obtain ⟨h2, h3⟩ := List.getElem?_eq_some_iff.1 hx
  rw [List.drop_eq_getElem_cons h2, h3, tailOf]
  cases lineOf W <;> rfl
/-- What comes of a text that is wrong, and of one that is not. -/
theorem sys_bad {s : ByteArray} {p e : Int} {w w' : World} (h : parseOf s = .error (p, e)) (hb : Below w.heap.size w w') : SysIs s w (.panicked [{ v := PV p e, recovered := false }]) w' := by
  unfold SysIs; rw [h]; exact ⟨rfl, hb⟩

set_option maxRecDepth 100000 in
set_option maxHeartbeats 8000000 in
theorem system_any (s : ByteArray) (hs : s.size ≤ 900000) (w : World) : Calls Tryd.prog 22 #[.string s] w (SysIs s w) := by
  have hz := w_zeroSys
  have CL := Lib.hid (fun w => lines_any s hs w)
  have HOK : Hid (∀ G ∈ linesOf s, WordsOk G) := fun G hG => lines_ok hs hG
  have HCT := lines_count s
  obtain ⟨G, hG⟩ : ∃ G, linesOf s = G := ⟨_, rfl⟩
  rw [hG] at CL HOK HCT
  have HG := Lib.hid hG
  clear hG
  have hs2 : (s.size : Int) ≤ 900000 := by omega
  go_enter Tryd.func22, Tryd.ntmps22
  go_upto_region 1 with fail
  refine gen_world (fun v => Below w.heap.size w v ∧ Box v w.heap.size SysT #[.int .i64 0, .int .i64 0, .slice none 0 0]) ⟨bw_alloc (Below.refl _ _) _, heap_alloc_new w _⟩ ?_
  intro u0 ⟨hb0, hx0⟩
  have B0 := Lib.hid hb0
  have X0 := Lib.hid hx0
  clear hb0 hx0
  go_upto_region 2 with (go_at_call 39; (with_reducible refine (CL.out _).mono ?_); rintro e u1 ⟨a, c, B, cs, rfl, -, hR, b1⟩; have HR := Lib.hid hR; have B1 := Lib.hid (below_up B0.out b1); have X1 := Lib.hid (kept_obj b1 X0.out); clear hR b1)
  clear CL B0 X0
  cases G with
  | nil =>
    have HB := Lib.hid (sys_bad (w := w) (parse_none HG.out) B1.out)
    go_wp2_with fail
    exact ⟨rfl, HB.out⟩
  | cons W rest =>
    obtain ⟨n, hn⟩ : ∃ n, rest.length = n := ⟨_, rfl⟩
    have HN := Lib.hid hn
    have hl1 : (W :: rest).length = n + 1 := by rw [List.length_cons, hn]
    rw [hl1] at HR HCT ⊢
    clear hn hl1
    have d0 : ((n + 1 : Nat) : Int) = (n : Int) + 1 := by omega
    have hn0 : ¬ ((n + 1 : Nat) : Int) = 0 := by omega
    have hn9 : (n : Int) ≤ 900000 := by omega
    obtain ⟨g0, aW, cW, rfl, z0, hv0, hl0, hm0⟩ := rows_cell HR.out (j := 0) (x := W) rfl
    have hcap : n + 1 ≤ c ∧ (c : Int) ≤ 9223372036854775807 := by
      obtain ⟨a', cap', e, hl, hm, -⟩ := HR.out.own.slice
      obtain ⟨-, e2, e3⟩ := Value.slice.inj e
      omega
    have hp0 : (0 : Int) < ((n + 1 : Nat) : Int) := by omega
    go_upto_region 5 with fail
    refine gen_world (fun v => Below u1.heap.size u1 v ∧ u1.heap.size < v.heap.size ∧ Left v u1.heap.size u1.heap.size 0 W) ⟨bw_alloc (Below.refl _ _) _, by simp, aW, cW, heap_alloc_new u1 _, (WIn.of hv0).below (bw_alloc (Below.refl _ _) _), hl0, hm0⟩ ?_
    intro u2 ⟨b2, hs2', hl2⟩
    have HF : Hid (Fix W u1.heap.size u1.heap.size u2) := ⟨HOK.out W (by simp), Nat.le_refl _, hs2'⟩
    have CC := Lib.hid (cache_any HF.out hl2)
    have B2 := Lib.hid b2
    clear b2 hs2' hl2 z0 hv0 hl0 hm0
    unfold CacheIs at CC
    cases hc : cacheOf W with
    | error p =>
      rw [hc] at CC
      have HB : Hid (∀ v, Below w.heap.size w v → SysIs s w (.panicked [{ v := PV p 10, recovered := false }]) v) := fun v hv => sys_bad (parse_cache HG.out hc) hv
      clear hc
      go_wp2_with (go_at_call 40; (with_reducible refine CC.out.mono ?_); rintro y u3 ⟨rfl, t3⟩; have T3 := Lib.hid t3; clear t3)
      exact ⟨rfl, HB.out _ (below_up B1.out (B2.out.trans (T3.out.below (Nat.le_refl _) (Nat.le_refl _) (by have := HF.out.lt; omega))))⟩
    | ok q =>
      obtain ⟨S, R⟩ := q
      rw [hc] at CC
      have HC := Lib.hid hc
      clear hc
      go_upto_region 6 with (go_at_call 40; (with_reducible refine CC.out.mono ?_); rintro y u3 ⟨rfl, t3⟩; have B3 := Lib.hid (B2.out.trans (t3.below (Nat.le_refl _) (Nat.le_refl _) (by have := HF.out.lt; omega))); clear t3)
      clear CC
      refine gen_world (SysAt u1 u1.heap.size u3.heap.size S R (.slice none 0 0) []) (sysAt_new B3.out B3.out.size) ?_
      intro u4 h4
      have H4 := Lib.hid h4
      generalize u3.heap.size = g at H4 ⊢
      clear h4 B2 B3 HF
      go_cut [25, 26, 27] from 24 to 27 (fun x y z wx => ∃ (a1 : Option Addr) (c1 : Nat), x = .slice a1 n c1 ∧ y = .int .i64 n ∧ z = .int .i64 0 ∧ wx = u4 ∧ Hid (n = 0 ∨ a1 = some ⟨g0, 1, none⟩) ∧ n ≤ c1 ∧ (c1 : Int) ≤ 9223372036854775807)
      case first =>
        have h1c : (1 : Int) ≤ (c : Int) := by omega
        have h1n : (1 : Int) ≤ ((n + 1 : Nat) : Int) := by omega
        have e2 : ((n + 1 : Nat) : Int) - 1 = (n : Int) := by omega
        by_cases hc1 : c = 1
        · subst hc1
          have hn00 : n = 0 := by omega
          subst hn00
          go_wp2_with fail
          go_meet
          exact ⟨_, 0, rfl, rfl, rfl, rfl, (by first | exact .inl rfl | exact .inl trivial), by omega, by omega⟩
        · have hcn : ¬ (1 : Int) = (c : Int) := by omega
          have hcn2 : ((c : Int) - 1).toNat = c - 1 := by omega
          go_wp2_with fail
          go_meet
          exact ⟨_, c - 1, rfl, rfl, rfl, rfl, .inr rfl, by omega, by omega⟩
      case rest =>
        obtain ⟨a1, c1, rfl, rfl, rfl, rfl, HA1, hc1a, hc1b⟩ := hcut
        go_wp2_with fail
        go_loopw [27] (fun u wr => ∃ (k : Nat) (a' : Option Addr) (cp' : Nat) (L : List TV), k ≤ n ∧ u = .int .i64 k ∧ Hid (L.length = k) ∧ Hid (∀ x ∈ L, I64 x.p ∧ I64 x.id) ∧ Hid (tailOf S R [] rest = tailOf S R (L.map TV.tk) (rest.drop k)) ∧ Hid (SysAt u1 u1.heap.size g S R (.slice a' k cp') L wr)) (fun u _ => (n - intOf u).toNat)
        case atStart => exact ⟨0, _, _, [], by omega, rfl, rfl, (fun x hx => by simp at hx), rfl, H4⟩
        case round =>
          obtain ⟨k, a', cp', L, hk, rfl, HLL, HLS, HT, HP⟩ := hrel
          clear H4
          have b2 : wr.cell? ⟨g, 2, none⟩ = some (.slice a' k cp') := by rw [blk_cell HP.out.box]; rfl
          have hgw : g < wr.heap.size := lt_of_block HP.out.box
          by_cases hlt : k < n
          · obtain ⟨V, hV⟩ := nth_of HN.out hlt
            obtain ⟨g1, aV, cV, e1, zV, hvV, hlV, hmV⟩ := rows_cell HR.out (j := k + 1) (x := V) (by simpa using hV)
            cases e1
            have ha1 : a1 = some ⟨g0, 1, none⟩ := HA1.out.elim (fun q => by omega) id
            subst ha1
            have zV' : wr.cell? ⟨g0, 1 + k, none⟩ = some (.slice aV V.length cV) := by
              rw [Nat.add_comm 1 k]
              exact kept_cellB HP.out.low (block_of_cell zV) zV
            have hk1 : (k : Int) < (n : Int) := by omega
            have hk0 : (0 : Int) ≤ (k : Int) := by omega
            have HVO := Lib.hid (HOK.out V (by simp; right; exact List.mem_of_getElem? hV))
            have hu1w : u1.heap.size ≤ wr.heap.size := HP.out.low.size
            go_upto_region 10 with fail
            refine gen_world (fun v => Below wr.heap.size wr v ∧ wr.heap.size < v.heap.size ∧ Left v wr.heap.size u1.heap.size 0 V) ⟨bw_alloc (Below.refl _ _) _, by simp, aV, cV, heap_alloc_new wr _, ((WIn.of hvV).below HP.out.low).below ((bw_alloc (Below.refl _ _) _).mono hu1w), hlV, hmV⟩ ?_
            intro u5 ⟨b5, hs5, hl5⟩
            have HF5 : Hid (Fix V wr.heap.size u1.heap.size u5) := ⟨HVO.out, hu1w, hs5⟩
            have HVV := Lib.hid (WIn.of hvV)
            have HNU : Hid (u1.heap.size ≤ u5.heap.size) := Nat.le_trans hu1w b5.size
            have CT0 : Hid (∀ v, Below u5.heap.size u5 v → Calls Tryd.prog 41 #[.pointer (some ⟨wr.heap.size, 0, none⟩)] v (TaskIs V wr.heap.size v)) := fun v hb => task_row ⟨HVO.out, hu1w, Nat.lt_of_lt_of_le hs5 hb.size⟩ (hl5.below hb (by omega))
            have HP5 := Lib.hid (HP.out.below b5)
            have HU5 : Hid (∀ v v', Below u5.heap.size u5 v → Two wr.heap.size wr.heap.size v v' → Below wr.heap.size wr v') := fun v v' hb ht =>
              (b5.trans (hb.mono (by omega))).trans (ht.below (Nat.le_refl _) (Nat.le_refl _) (by have := hb.size; omega))
            have b2' : u5.cell? ⟨g, 2, none⟩ = some (.slice a' k cp') := by rw [blk_cell HP5.out.box]; rfl
            have hgw5 : g < u5.heap.size := lt_of_block HP5.out.box
            have HTS := HT.out
            rw [tail_step hV] at HTS
            clear b5 hs5 hl5 zV hvV hlV hmV b2
            generalize hrR : wr.heap.size = r at *
            unfold TaskIs at CT0
            cases hq : lineOf V with
            | error p =>
              rw [hq] at CT0 HTS
              have HB : Hid (∀ v, Below w.heap.size w v → SysIs s w (.panicked [{ v := PV p 10, recovered := false }]) v) := fun v hv => sys_bad (parse_tail HG.out HC.out HTS) hv
              have HBB : Hid (∀ v v', Below u5.heap.size u5 v → Two r r v v' → Below w.heap.size w v') := fun v v' hb ht => below_up B1.out (HP.out.low.trans ((HU5.out v v' hb ht).mono (by omega)))
              clear HTS hq HT
              go_region_dies
              all_goals
                refine (CT0.out _ (by repeat (first | exact Below.refl _ _ | (with_reducible assumption) | refine bw_alloc ?_ _ | refine bw_drew ?_))).mono ?_
                rintro y u6 ⟨rfl, t6⟩
                exact And.intro rfl (HB.out _ (HBB.out _ _ (by repeat (first | exact Below.refl _ _ | (with_reducible assumption) | refine bw_alloc ?_ _ | refine bw_drew ?_)) t6))
            | ok tk =>
              rw [hq] at CT0 HTS
              simp only [] at HTS
              obtain ⟨hw0, hid, hp⟩ := line_small hq
              obtain ⟨x0, hx0⟩ : ∃ x0, V[0]? = some x0 := by
                cases h : V[0]? with
                | some x0 => exact ⟨x0, rfl⟩
                | none => unfold wordAt at hw0; rw [h] at hw0; cases hw0
              rw [placeAt_some hx0] at HTS
              have hvl : (0 : Int) < (V.length : Int) := by have := (List.getElem?_eq_some_iff.1 hx0).1; omega
              obtain ⟨gv, ov, rfl, hgv, q0⟩ : ∃ gv ov, aV = some ⟨gv, ov, none⟩ ∧ gv < u1.heap.size ∧ u1.cell? ⟨gv, ov, none⟩ = some (.int .i64 x0.at_) := by
                rcases HVV.out with q | ⟨gv, ov, e, hg, hc⟩
                · rw [q] at hx0; simp at hx0
                · have hvx : V = x0 :: V.drop 1 := by have := drop_some hx0; rwa [List.drop_zero] at this
                  exact ⟨gv, ov, e, hg, hc 0 _ (by rw [hvx]; rfl)⟩
              have CT1 : Hid (∀ v, Below u5.heap.size u5 v → Calls Tryd.prog 41 #[.pointer (some ⟨r, 0, none⟩)] v fun y w' => ∃ x : TV, y = .returned (.agg #[.int .i64 x.id, .int .i64 x.c, .int .i64 x.d, .int .i64 x.t, .int .i64 x.p, .slice x.a1 x.ch.length x.c1, .slice x.a2 x.us.length x.c2]) ∧ x.tk = tk ∧ x.ok w' ∧ (IsI w' x.a1 x.ch ∧ IsI w' x.a2 x.us) ∧ (FreshI u1.heap.size x.a1 x.ch ∧ FreshI u1.heap.size x.a2 x.us) ∧ Two r r v w') :=
                fun v hb => (CT0.out v hb).mono fun y w' ⟨x, h1, h2, h3, h4, h5, h6, _⟩ => ⟨x, h1, h2, h3, ⟨h4.1, h5.1⟩, ⟨h4.2.low (Nat.le_trans HNU.out hb.size), h5.2.low (Nat.le_trans HNU.out hb.size)⟩, h6⟩
              have HSM : Hid (L.length + 1 ≤ 1000000) := by show _ ≤ _; have := HLL.out; omega
              have HNN : Hid (L.length + 1 = k + 1) := by show _ = _; rw [HLL.out]
              have HSYS : Hid (∀ v v', Below u5.heap.size u5 v → Two r r v v' → SysAt u1 u1.heap.size g S R (.slice a' k cp') L v') := fun v v' hb ht => by
                have h := HP.out.below (by rw [hrR]; exact HU5.out v v' hb ht)
                exact h
              have HIDP : Hid (∀ x : TV, x.tk = tk → I64 x.p ∧ I64 x.id) := fun x hx => by
                have e1 : x.p = tk.p := by rw [← hx]; rfl
                have e2 : x.id = tk.id := by rw [← hx]; rfl
                rw [e1, e2]; unfold I64; omega
              have HQ0 := Lib.hid q0
              have HTS2 := Lib.hid HTS
              obtain ⟨E, hE⟩ : ∃ E, checkT S R (L.map TV.tk ++ [tk]) = E := ⟨_, rfl⟩
              rw [hE] at HTS2
              have HE : Hid (∀ x : TV, x.tk = tk → checkOf S R (L ++ [x]) = E) := fun x hx => by rw [check_tk, List.map_append, List.map_cons, List.map_nil, hx]; exact hE
              clear CT0 HTS hq HT hw0 hid hp hx0 HVV q0 hE HU5
              go_region_law (first
                | (refine step_append (m := 1) (l := [y]) rfl (.tmp 34) (.tmp 36) rfl (by rfl) (by rfl) (H6.out.below (by repeat (first | exact Below.refl _ _ | (with_reducible assumption) | refine bw_alloc ?_ _ | refine bw_drew ?_))).own (Nat.le_trans (lt_of_block H6.out.box) (((by repeat (first | exact Below.refl _ _ | (with_reducible assumption) | refine bw_alloc ?_ _ | refine bw_drew ?_)) : Below w6.heap.size w6 _).size)) (by first | exact View.of_at (at_new _ _ _) | exact (View.of_at (at_new _ _ _)).below (by repeat (first | exact Below.refl _ _ | (with_reducible assumption) | refine bw_alloc ?_ _ | refine bw_drew ?_))) rfl HSM.out (fun z => by cases z) (k + 1) HNN.out ?_
                   intro a3 k3 w3 o3 g3 l3
                   obtain ⟨hn, z1, z2⟩ := (H6.out.below (by repeat (first | exact Below.refl _ _ | (with_reducible assumption) | refine bw_alloc ?_ _ | refine bw_drew ?_))).push g3 o3 (HY.out.below (by repeat (first | exact Below.refl _ _ | (with_reducible assumption) | refine bw_alloc ?_ _ | refine bw_drew ?_))) ⟨HI.out.1.below (by repeat (first | exact Below.refl _ _ | (with_reducible assumption) | refine bw_alloc ?_ _ | refine bw_drew ?_)), HI.out.2.below (by repeat (first | exact Below.refl _ _ | (with_reducible assumption) | refine bw_alloc ?_ _ | refine bw_drew ?_))⟩ HFR.out
                   have HNW := Lib.hid hn
                   clear hn o3 g3 l3)
                | (go_simp; (with_reducible refine (CT1.out _ (by repeat (first | exact Below.refl _ _ | (with_reducible assumption) | refine bw_alloc ?_ _ | refine bw_drew ?_))).mono ?_); rintro e w6 ⟨y, rfl, hy, hok, hi, hfr, t6⟩; have H6 := Lib.hid (HSYS.out _ _ (by repeat (first | exact Below.refl _ _ | (with_reducible assumption) | refine bw_alloc ?_ _ | refine bw_drew ?_)) t6); have b2' : w6.cell? ⟨g, 2, none⟩ = some (.slice a' k cp') := (by rw [blk_cell H6.out.box]; rfl); have hgw6 : g < w6.heap.size := lt_of_block H6.out.box; have HTK := Lib.hid hy; have HY := Lib.hid hok; have HI := Lib.hid hi; have HFR := Lib.hid hfr; clear hy hok hi hfr t6))
              all_goals
                go_upto_region 11 with fail
                refine gen_world (SysAt u1 u1.heap.size g S R (.slice a3 (k + 1) k3) (L ++ [y])) HNW.out ?_
                intro u7 h7
                have H7 := Lib.hid h7
                have HL1 : Hid ((L ++ [y]).length = k + 1) := by show _ = _; rw [List.length_append, HLL.out]; rfl
                have HL2 : Hid (∀ x ∈ L ++ [y], I64 x.p ∧ I64 x.id) := fun x hx => by
                  rcases List.mem_append.1 hx with q | q
                  · exact HLS.out x q
                  · simp at q; subst q; exact HIDP.out x HTK.out
                have HMAP : Hid ((L ++ [y]).map TV.tk = L.map TV.tk ++ [tk]) := by show _ = _; rw [List.map_append, List.map_cons, List.map_nil, HTK.out]
                have p0 : u7.cell? ⟨g, 0, none⟩ = some (.int .i64 S) := by rw [blk_cell h7.box]; rfl
                have p1 : u7.cell? ⟨g, 1, none⟩ = some (.int .i64 R) := by rw [blk_cell h7.box]; rfl
                have p2 : u7.cell? ⟨g, 2, none⟩ = some (.slice a3 (k + 1) k3) := by rw [blk_cell h7.box]; rfl
                have hg7 : g < u7.heap.size := lt_of_block h7.box
                have CK := Lib.hid (check_any S R h7.tasks HL2.out)
                rw [HE.out y HTK.out] at CK
                clear h7 HNW H6 HY HI HP HP5 CT1 HSYS b2' hgw5 hgw
                by_cases hE0 : E = 0
                · subst hE0
                  have HT2 : Hid (tailOf S R [] rest = tailOf S R ((L ++ [y]).map TV.tk) (rest.drop (k + 1))) := by
                    show _ = _
                    rw [HTS2.out, if_pos rfl, HMAP.out]
                  clear HTS2 HE HMAP
                  go_wp2_with (go_at_call 28; (with_reducible refine CK.out.mono ?_); rintro e u8 ⟨rfl, b8⟩; have H8 := Lib.hid (H7.out.below b8); clear b8)
                  go_roundw
                  case rel => exact ⟨k + 1, a3, k3, L ++ [y], by omega, by go_num, HL1, HL2, HT2, H8⟩
                  case measure => simp [intOf]; omega
                · have d1 : (E == 0) = false := by rw [beq_eq_false_iff_ne]; exact hE0
                  have d2 : (E != 0) = true := by rw [bne, d1]; rfl
                  have HB : Hid (∀ v, Below w.heap.size w v → SysIs s w (.panicked [{ v := PV x0.at_ E, recovered := false }]) v) := fun v hv => sys_bad (parse_tail HG.out HC.out (by rw [HTS2.out, if_neg hE0])) hv
                  clear hE0 HTS2 HE HMAP
                  go_upto_region 12 with (go_at_call 28; (with_reducible refine CK.out.mono ?_); rintro e u8 ⟨rfl, b8⟩; have H8 := Lib.hid (H7.out.below b8); clear b8)
                  have q8 : u8.cell? ⟨gv, ov, none⟩ = some (.int .i64 x0.at_) := kept_cellB H8.out.low hgv HQ0.out
                  go_wp2_with fail
                  exact ⟨rfl, HB.out _ (below_up B1.out H8.out.low)⟩
          · obtain rfl : n = k := by omega
            have HTE : Hid (tailOf S R [] rest = .ok (L.map TV.tk)) := by
              show _ = _
              rw [HT.out, List.drop_of_length_le (by rw [HN.out]; exact Nat.le_refl _), tailOf]
            have p0 : wr.cell? ⟨g, 0, none⟩ = some (.int .i64 S) := by rw [blk_cell HP.out.box]; rfl
            have p1 : wr.cell? ⟨g, 1, none⟩ = some (.int .i64 R) := by rw [blk_cell HP.out.box]; rfl
            have hw0 : w.heap.size < u1.heap.size := lt_of_block X1.out
            have hx0 : Box wr w.heap.size SysT #[.int .i64 0, .int .i64 0, .slice none 0 0] := kept_objB HP.out.low hw0 X1.out
            have r0 : wr.cell? ⟨w.heap.size, 0, none⟩ = some (.int .i64 0) := blk_cell hx0 0
            have r1 : wr.cell? ⟨w.heap.size, 1, none⟩ = some (.int .i64 0) := blk_cell hx0 1
            have r2 : wr.cell? ⟨w.heap.size, 2, none⟩ = some (.slice none 0 0) := blk_cell hx0 2
            have f0 := blk_free hx0 0
            have f1 := blk_free hx0 1
            have f2 := blk_free hx0 2
            have hrw := lt_of_block hx0
            by_cases hn00 : n = 0
            · subst hn00
              have hL0 : L = [] := List.length_eq_zero_iff.1 HLL.out
              subst hL0
              have HB : Hid (SysIs s w (.panicked [{ v := PV s.size 1, recovered := false }]) wr) := sys_bad (parse_empty HG.out HC.out HTE.out) (below_up B1.out HP.out.low)
              clear HTE HT HP hx0
              go_wp2_with fail
              exact ⟨rfl, HB.out⟩
            · have d1 : ((n : Int) == 0) = false := by rw [beq_eq_false_iff_ne]; omega
              have d2 : ¬ (n : Int) = 0 := by omega
              have hLn : L.map TV.tk ≠ [] := fun q => by
                have := congrArg List.length q
                rw [List.length_map, HLL.out] at this
                exact hn00 this
              have HD : Hid (∀ x0 x1 x2 : Value, SysIs s w (.returned (.agg #[.int .i64 S, .int .i64 R, .slice a' n cp'])) (((wr.setCell ⟨w.heap.size, 0, none⟩ x0).setCell ⟨w.heap.size, 1, none⟩ x1).setCell ⟨w.heap.size, 2, none⟩ x2)) := fun x0 x1 x2 => by
                unfold SysIs
                rw [parse_some HG.out HC.out HTE.out hLn]
                exact ⟨_, rfl, HP.out.done B1.out hw0 rfl HLS.out x0 x1 x2⟩
              clear HTE HT HP hx0 hLn hn00
              go_wp2_with fail
              exact bodyPost_ret (v := .agg #[.int .i64 S, .int .i64 R, .slice a' n cp']) (by simp [results, Tryd.results22, go_sem, r0, r1, r2, hrw]) rfl (HD.out _ _ _)
end Go.Proofs.YtlpffgmfgkleiaaDoor

/-
  The walks over what is tried, and what is wrong with it.
-/
namespace Go.Proofs.YtlpffgmfgkleiaaDoor
open Go.RowKit Go.Maps

abbrev zSys : Value := .agg #[.int .i64 0, .int .i64 0, .slice none 0 0]
theorem holds_zero (B : Nat) (w : World) : Holds 0 0 [] B zSys w :=
  ⟨none, 0, 0, [], rfl, rfl, OwnT.nil _ _, (fun x hx => by cases hx), (fun x hx => by cases hx), (fun x hx => by cases hx), (fun x hx => by cases hx)⟩
/-- What is told of a text. -/
structure Out where
  S : Int
  R : Int
  l : List Tk
  at_ : Int
  e : Int
def outOf (s : ByteArray) : Out := match parseOf s with
  | .error q => ⟨0, 0, [], q.1, q.2⟩
  | .ok (S, R, l) => ⟨S, R, l, s.size, 0⟩
/-- What the closure that reads a text does. -/
def ReadIs (s : ByteArray) (w : World) (y : Ending) (w' : World) : Prop := match parseOf s with
  | .error q => Panics q.1 q.2 y ∧ Below w.heap.size w w'
  | .ok (S, R, l) => ∃ (a : Option Addr) (n c : Nat), y = .returned (.tuple #[.agg #[.int .i64 S, .int .i64 R, .slice a n c], .int .i64 s.size]) ∧ Holds S R l w.heap.size (.agg #[.int .i64 S, .int .i64 R, .slice a n c]) w' ∧ Below w.heap.size w w'

set_option maxRecDepth 100000 in
set_option maxHeartbeats 4000000 in
theorem read_any (s : ByteArray) (hs : s.size ≤ 900000) (b : Nat) (w : World) (hb : w.cell? ⟨b, 0, none⟩ = some (.string s)) : Calls Tryd.prog 21 #[.pointer (some ⟨b, 0, none⟩)] w (ReadIs s w) := by
  have hz := w_zeroSys
  have CS : Hid (∀ v, Calls Tryd.prog 22 #[.string s] v (SysIs s v)) := fun v => system_any s hs v
  have HB := Lib.hid hb
  have hs2 : (s.size : Int) ≤ 900000 := by omega
  have hlb : b < w.heap.size := block_of_cell hb
  have hne1 : ¬ b = w.heap.size := by omega
  have hne2 : ¬ w.heap.size = b := by omega
  go_enter Tryd.func21, Tryd.ntmps21
  go_upto_region 1 with fail
  refine gen_world (fun v => Below w.heap.size w v ∧ Box v w.heap.size SysT #[.int .i64 0, .int .i64 0, .slice none 0 0]) ⟨bw_alloc (Below.refl _ _) _, heap_alloc_new w _⟩ ?_
  intro u0 ⟨hb0, hx0⟩
  have B0 := Lib.hid hb0
  have X0 := Lib.hid hx0
  have cb := kept_cell hb0 hb
  clear hb0 hx0 hb
  unfold SysIs at CS
  cases hq : parseOf s with
  | error q =>
    rw [hq] at CS
    have HQ := Lib.hid hq
    clear hq
    go_region_dies
    all_goals
      refine (CS.out _).mono ?_
      rintro y u6 ⟨rfl, t6⟩
      refine And.intro rfl ?_
      unfold ReadIs
      rw [HQ.out]
      exact ⟨rfl, below_up B0.out (below_up ((by repeat (first | exact Below.refl _ _ | (with_reducible assumption) | refine bw_alloc ?_ _ | refine bw_drew ?_)) : Below u0.heap.size u0 _) t6)⟩
  | ok q =>
    obtain ⟨S, R, l⟩ := q
    rw [hq] at CS
    have HQ := Lib.hid hq
    clear hq
    have CS2 : Hid (∀ v, Calls Tryd.prog 22 #[.string s] v fun y w' => ∃ (a : Option Addr) (n c : Nat), y = .returned (.agg #[.int .i64 S, .int .i64 R, .slice a n c]) ∧ Holds S R l v.heap.size (.agg #[.int .i64 S, .int .i64 R, .slice a n c]) w' ∧ Below v.heap.size v w') := fun v => (CS.out v).mono fun y w' ⟨v', h1, h2⟩ => by
      have h3 := h2.1
      obtain ⟨a, n, c, L, e, r⟩ := h3
      subst e
      exact ⟨a, n, c, h1, h2⟩
    go_region_law (go_simp; (with_reducible refine (CS2.out _).mono ?_); rintro y u6 ⟨a, n, c, rfl, g6, b6⟩; have G6 := Lib.hid (g6.low ((((by repeat (first | exact Below.refl _ _ | (with_reducible assumption) | refine bw_alloc ?_ _ | refine bw_drew ?_)) : Below u0.heap.size u0 _)).size)); have B6 := Lib.hid (below_up ((by repeat (first | exact Below.refl _ _ | (with_reducible assumption) | refine bw_alloc ?_ _ | refine bw_drew ?_)) : Below u0.heap.size u0 _) b6); have c6 := kept_cell B6.out cb; have x6 := kept_obj B6.out X0.out; have r0 : u6.cell? ⟨w.heap.size, 0, none⟩ = some (.int .i64 0) := blk_cell x6 0; have r1 : u6.cell? ⟨w.heap.size, 1, none⟩ = some (.int .i64 0) := blk_cell x6 1; have r2 : u6.cell? ⟨w.heap.size, 2, none⟩ = some (.slice none 0 0) := blk_cell x6 2; have f0 := blk_free x6 0; have f1 := blk_free x6 1; have f2 := blk_free x6 2; have hr := lt_of_block x6; clear g6 b6 x6)
    all_goals
      have HD : Hid (∀ x0 x1 x2 : Value, Holds S R l w.heap.size (.agg #[.int .i64 S, .int .i64 R, .slice a n c]) (((u6.setCell ⟨w.heap.size, 0, none⟩ x0).setCell ⟨w.heap.size, 1, none⟩ x1).setCell ⟨w.heap.size, 2, none⟩ x2) ∧ Below w.heap.size w (((u6.setCell ⟨w.heap.size, 0, none⟩ x0).setCell ⟨w.heap.size, 1, none⟩ x1).setCell ⟨w.heap.size, 2, none⟩ x2)) := fun x0 x1 x2 => by
        have hlt := lt_of_block X0.out
        exact ⟨(((G6.out.set hlt x0).set hlt x1).set hlt x2).low (by omega), (((below_up B0.out B6.out).setCell (p := ⟨w.heap.size, 0, none⟩) (Nat.le_refl _) x0).setCell (p := ⟨w.heap.size, 1, none⟩) (Nat.le_refl _) x1).setCell (p := ⟨w.heap.size, 2, none⟩) (Nat.le_refl _) x2⟩
      clear G6 B6
      go_wp2_with fail
      exact bodyPost_ret (v := .tuple #[.agg #[.int .i64 S, .int .i64 R, .slice a n c], .int .i64 s.size]) (by simp [results, Tryd.results21, go_sem, r0, r1, r2, hr]) rfl (by unfold ReadIs; rw [HQ.out]; exact ⟨_, _, _, rfl, HD.out _ _ _⟩)
end Go.Proofs.YtlpffgmfgkleiaaDoor

/-
  The walks over what is tried: what was wrong is recovered.
-/
namespace Go.Proofs.YtlpffgmfgkleiaaDoor
open Go.RowKit Go.Maps

theorem catch_idle (p q : Addr) (w : World) :
    CallsD Tryd.prog 38 #[.pointer (some p), .pointer (some q)] .returning w fun e u' w' => e = .returned (.tuple #[]) ∧ u' = .returning ∧ w' = w := by
  refine callsD_of_wpS Tryd.func38 rfl fun c₀ cs hu => ?_
  apply wpS_seq
  apply wpS_region
  simp [wpOpsS, go_sem, recoverD, hu, Tryd.ntmps38, Exit.thenS]
  apply wpS_seq
  apply wpS_region
  simp [wpOpsS, go_sem, Exit.thenS]
  refine wpS_cond (t := false) (by simp [Act.eval, Array.replicate]) ?_
  simp only [Bool.false_eq_true, if_false]
  refine wpS_of_wp (wp_skip ?_)
  cases c₀
  simp_all [bodyPostS, results, Tryd.results38]

theorem assert_wrong (p er : Int) (w : World) : (Instr.typeAssert (PV p er) 20 92 false).run Tryd.prog w = .ok (.agg #[.int .i64 p, .int .i64 er]) w := by kernel_rfl
/-- What the closure that recovers must come to. -/
def CatchQ (c₀ : Frame) (cs : List Frame) (p er : Int) (older : List PanicEntry) (A E : Nat) (TA TE : TypeId) (w : World) (e : Exit) (a' : Act) (w' : World) : Prop :=
  bodyPostS Tryd.prog Tryd.f38 c₀ cs (fun y u' w' => y = .returned (.tuple #[]) ∧ u' = .panicking ({ v := PV p er, recovered := true } :: older) ∧ Two A E w w' ∧ Box w' A TA #[.int .i64 p] ∧ Box w' E TE #[.int .i64 er]) e a'
    ({ fn := c₀.fn, tmps := c₀.tmps, todo := c₀.todo, defers := c₀.defers, mode := .panicking ({ v := PV p er, recovered := true } :: older), kind := c₀.kind, roundOf := c₀.roundOf } :: cs) w'
set_option maxRecDepth 100000 in
set_option maxHeartbeats 4000000 in
theorem catch_wrong (A E : Nat) (p er a0 e0 : Int) (TA TE : TypeId) (older : List PanicEntry) (w : World) (hA : Box w A TA #[.int .i64 a0]) (hE : Box w E TE #[.int .i64 e0]) (hne : A ≠ E) :
    CallsD Tryd.prog 38 #[.pointer (some ⟨A, 0, none⟩), .pointer (some ⟨E, 0, none⟩)] (.panicking ({ v := PV p er, recovered := false } :: older)) w fun y u' w' =>
      y = .returned (.tuple #[]) ∧ u' = .panicking ({ v := PV p er, recovered := true } :: older) ∧ Two A E w w' ∧ Box w' A TA #[.int .i64 p] ∧ Box w' E TE #[.int .i64 er] := by
  refine callsD_of_wpS Tryd.func38 rfl fun c₀ cs hu => ?_
  apply wpS_seq
  apply wpS_region
  simp [wpOpsS, go_sem, recoverD, hu, Tryd.ntmps38, Exit.thenS]
  apply wpS_seq
  apply wpS_region
  simp [wpOpsS, go_sem, Exit.thenS]
  refine wpS_cond (t := true) (by simp [Act.eval, Array.replicate]) ?_
  simp only [if_true]
  refine wpS_of_wp ?_
  have HA := Lib.hid hA
  have HE := Lib.hid hE
  have hla := lt_of_block hA
  have hle := lt_of_block hE
  have cA : w.cell? ⟨A, 0, none⟩ = some (.int .i64 a0) := blk_cell hA 0
  have cE : w.cell? ⟨E, 0, none⟩ = some (.int .i64 e0) := blk_cell hE 0
  have fA := blk_free hA 0
  have fE := blk_free hE 0
  have hne2 : ¬ A = E := hne
  have hne3 : ¬ E = A := fun q => hne q.symm
  clear hA hE
  change Code.wp _ _ (CatchQ c₀ cs p er older A E TA TE w) { tmps := #[.pointer (some ⟨A, 0, none⟩), .pointer (some ⟨E, 0, none⟩), PV p er, undef, PV p er, PV p er, .bool true, undef, undef, undef, undef, undef, undef], defers := [] } w
  have HQ : ∀ (a' : Act) (w' : World), a'.defers = [] → Two A E w w' → Box w' A TA #[.int .i64 p] → Box w' E TE #[.int .i64 er] → CatchQ c₀ cs p er older A E TA TE w Exit.normal a' w' := by
    intro a' w' h1 h2 h3 h4
    unfold CatchQ
    simp [bodyPostS, results, Tryd.results38, h1, h2]
    exact ⟨h3, h4⟩
  clear hu
  have hta := assert_wrong p er
  go_wp2
  refine gen_world (fun v => Below w.heap.size w v ∧ Box v w.heap.size 92 #[.int .i64 p, .int .i64 er]) ⟨bw_alloc (Below.refl _ _) _, heap_alloc_new w _⟩ ?_
  intro v ⟨hv, hx⟩
  have HV := Lib.hid hv
  have x0 : v.cell? ⟨w.heap.size, 0, none⟩ = some (.int .i64 p) := blk_cell hx 0
  have x1 : v.cell? ⟨w.heap.size, 1, none⟩ = some (.int .i64 er) := blk_cell hx 1
  have hxl := lt_of_block hx
  have cA' := kept_cell hv cA
  have cE' := kept_cell hv cE
  have bA := Lib.hid (kept_obj hv HA.out)
  have bE := Lib.hid (kept_obj hv HE.out)
  have fA' : v.frozen? ⟨A, 0, none⟩ = false := blk_free bA.out 0
  have fE' : v.frozen? ⟨E, 0, none⟩ = false := blk_free bE.out 0
  have n1 : ¬ A = w.heap.size := by omega
  have n2 : ¬ E = w.heap.size := by omega
  have n3 : ¬ w.heap.size = A := by omega
  have n4 : ¬ w.heap.size = E := by omega
  have HF : Hid (∀ a' : Act, a'.defers = [] → CatchQ c₀ cs p er older A E TA TE w Exit.normal a' (((v.setCell ⟨A, 0, none⟩ (.int .i64 p)).setCell ⟨E, 0, none⟩ (.int .i64 er)).drew)) := by
    intro a' ha
    refine HQ a' _ ha ((((Two.of_below HV.out).setR _).setT _).then (bw_drew (Below.refl _ _))) ?_ ?_
    · show ((v.setCell ⟨A, 0, none⟩ (.int .i64 p)).setCell ⟨E, 0, none⟩ (.int .i64 er)).heap[A]? = _
      rw [blk_far (a := ⟨E, 0, none⟩) hne]
      exact (blk_set bA.out _).trans rfl
    · show ((v.setCell ⟨A, 0, none⟩ (.int .i64 p)).setCell ⟨E, 0, none⟩ (.int .i64 er)).heap[E]? = _
      refine (blk_set (cs := #[.int .i64 e0]) (T := TE) (fr := (0, 0)) ?_ _).trans rfl
      rw [blk_far (a := ⟨A, 0, none⟩) hne.symm]
      exact bE.out
  clear hv hx cA cE fA fE HQ HA HE
  go_region_law (fail)
  all_goals exact HF.out _ rfl
end Go.Proofs.YtlpffgmfgkleiaaDoor

/-
  The walks over what is tried to be read, and over a text's reading.
-/
namespace Go.Proofs.YtlpffgmfgkleiaaDoor
open Go.RowKit Go.Maps

/-- What is told of a text, as it comes back. -/
def TryIs (s : ByteArray) (w : World) (y : Ending) (w' : World) : Prop :=
  ∃ (a : Option Addr) (n c : Nat), y = .returned (.tuple #[.agg #[.int .i64 (outOf s).S, .int .i64 (outOf s).R, .slice a n c], .int .i64 (outOf s).at_, .int .i64 (outOf s).e]) ∧ Holds (outOf s).S (outOf s).R (outOf s).l w.heap.size (.agg #[.int .i64 (outOf s).S, .int .i64 (outOf s).R, .slice a n c]) w' ∧ Below w.heap.size w w'
theorem far {w : World} {k b o : Nat} (h : k ≠ b) (v : Value) : (w.setCell ⟨b, o, none⟩ v).heap[k]? = w.heap[k]? := blk_far (a := ⟨b, o, none⟩) h v
theorem below_top {B N : Nat} {w w' w'' : World} (h : Below B w w') (hb : B ≤ N) (k : Below N w' w'') : Below B w w'' := h.trans (k.mono hb)

set_option maxRecDepth 100000 in
set_option maxHeartbeats 4000000 in
theorem attempt_any (s : ByteArray) (hs : s.size ≤ 900000) (b : Nat) (w : World) (hb : w.cell? ⟨b, 0, none⟩ = some (.string s)) : Calls Tryd.prog 20 #[.func (.func 21) #[] #[.pointer (some ⟨b, 0, none⟩)]] w (TryIs s w) := by
  have hmf : ∀ (fn : Fn) (first cap : Array Value) (w : World), (Instr.makeFunc fn first cap).run Tryd.prog w = .ok (.func fn first cap) w := fun _ _ _ _ => rfl
  have hz := w_zeroSys
  have CR : Hid (∀ v, Below w.heap.size w v → Calls Tryd.prog 21 #[.pointer (some ⟨b, 0, none⟩)] v (ReadIs s v)) := fun v h => read_any s hs b v (kept_cell h hb)
  clear hb
  unfold ReadIs at CR
  go_enter_defers Tryd.func20, Tryd.ntmps20
  go_upto_region 1 with fail
  refine gen_world (fun v => Below w.heap.size w v ∧ v.heap.size = w.heap.size + 3 ∧ Box v w.heap.size SysT #[.int .i64 0, .int .i64 0, .slice none 0 0] ∧ Box v (w.heap.size + 1) 3 #[.int .i64 0] ∧ Box v (w.heap.size + 2) 35 #[.int .i64 0]) ⟨(by repeat (first | exact Below.refl _ _ | (with_reducible assumption) | refine bw_alloc ?_ _ | refine bw_drew ?_)), by simp, ?_, ?_, ?_⟩ ?_
  · show (World.alloc _ _).heap[_]? = _
    rw [Below.heap_alloc _ _ _ (by simp; omega), Below.heap_alloc _ _ _ (by simp)]; exact heap_alloc_new w _
  · show (World.alloc _ _).heap[_]? = _
    rw [Below.heap_alloc _ _ _ (by simp)]
    have := heap_alloc_new (w.alloc (.cells #[.int .i64 0, .int .i64 0, .slice none 0 0] SysT)) (.cells #[.int .i64 0] 3)
    rwa [World.size_alloc] at this
  · have := heap_alloc_new ((w.alloc (.cells #[.int .i64 0, .int .i64 0, .slice none 0 0] SysT)).alloc (.cells #[.int .i64 0] 3)) (.cells #[.int .i64 0] 35)
    rwa [World.size_alloc, World.size_alloc] at this
  intro u0 ⟨hb0, hs0, hx0, hx1, hx2⟩
  have B0 := Lib.hid hb0
  have X0 := Lib.hid hx0
  have X1 := Lib.hid hx1
  have X2 := Lib.hid hx2
  clear hx0 hx1 hx2
  cases hq : parseOf s with
  | error q =>
    rw [hq] at CR
    have HO : Hid (outOf s = ⟨0, 0, [], q.1, q.2⟩) := by show _ = _; unfold outOf; rw [hq]
    clear hq hb0
    go_wp2_with (go_at_call 21; (with_reducible refine (CR.out _ B0.out).mono ?_); rintro y u6 ⟨rfl, b6⟩; have B6 := Lib.hid b6; clear b6)
    refine leaves_cons (f := 38) (args := #[.pointer (some ⟨w.heap.size + 1, 0, none⟩), .pointer (some ⟨w.heap.size + 2, 0, none⟩)]) (by simp) (by simp [go_sem]) ?_
    refine (catch_wrong (w.heap.size + 1) (w.heap.size + 2) q.1 q.2 0 0 _ _ [] u6 (kept_obj B6.out X1.out) (kept_obj B6.out X2.out) (by omega)).mono ?_
    rintro y u' u7 ⟨rfl, rfl, t7, x1, x2⟩
    have x0 : Box u7 w.heap.size SysT #[.int .i64 0, .int .i64 0, .slice none 0 0] := t7.box (kept_obj B6.out X0.out) (by omega) (by omega)
    have hbb : Below w.heap.size w u7 := (below_up B0.out B6.out).trans (t7.below (by omega) (by omega) (by have := B6.out.size; omega))
    have r0 : u7.cell? ⟨w.heap.size, 0, none⟩ = some (.int .i64 0) := blk_cell x0 0
    have r1 : u7.cell? ⟨w.heap.size, 1, none⟩ = some (.int .i64 0) := blk_cell x0 1
    have r2 : u7.cell? ⟨w.heap.size, 2, none⟩ = some (.slice none 0 0) := blk_cell x0 2
    have r3 : u7.cell? ⟨w.heap.size + 1, 0, none⟩ = some (.int .i64 q.1) := blk_cell x1 0
    have r4 : u7.cell? ⟨w.heap.size + 2, 0, none⟩ = some (.int .i64 q.2) := blk_cell x2 0
    have hr := lt_of_block x0
    simp [Leaves, settle, results, Tryd.results20, go_sem, r0, r1, r2, r3, r4, hr]
    unfold TryIs
    rw [HO.out]
    exact ⟨none, 0, 0, rfl, holds_zero _ _, hbb⟩
  | ok q =>
    obtain ⟨S, R, l⟩ := q
    rw [hq] at CR
    have HO : Hid (outOf s = ⟨S, R, l, s.size, 0⟩) := by show _ = _; unfold outOf; rw [hq]
    clear hq hb0
    have e0 : u0.cell? ⟨w.heap.size, 0, none⟩ = some (.int .i64 0) := blk_cell X0.out 0
    go_upto_region 3 with (go_at_call 21; (with_reducible refine (CR.out _ B0.out).mono ?_); rintro y u6 ⟨a, n, c, rfl, h6, b6⟩; have H6 := Lib.hid h6; have B6 := Lib.hid b6; have x0 := kept_obj b6 X0.out; have x1 := kept_obj b6 X1.out; have r0 : u6.cell? ⟨w.heap.size, 0, none⟩ = some (.int .i64 0) := blk_cell x0 0; have r1 : u6.cell? ⟨w.heap.size, 1, none⟩ = some (.int .i64 0) := blk_cell x0 1; have r2 : u6.cell? ⟨w.heap.size, 2, none⟩ = some (.slice none 0 0) := blk_cell x0 2; have r3 : u6.cell? ⟨w.heap.size + 1, 0, none⟩ = some (.int .i64 0) := blk_cell x1 0; have f0 := blk_free x0 0; have f1 := blk_free x0 1; have f2 := blk_free x0 2; have f3 := blk_free x1 0; have hr := lt_of_block x0; have hr1 := lt_of_block x1; clear h6 b6 x0 x1)
    have hs6 : u6.heap.size ≥ w.heap.size + 3 := by have := B6.out.size; omega
    have hh : Holds S R l (w.heap.size + 3) (.agg #[.int .i64 S, .int .i64 R, .slice a n c]) u6 := hs0 ▸ H6.out
    refine gen_world (fun v => Below w.heap.size w v ∧ Holds S R l (w.heap.size + 3) (.agg #[.int .i64 S, .int .i64 R, .slice a n c]) v ∧ Box v w.heap.size SysT #[.int .i64 S, .int .i64 R, .slice a n c] ∧ Box v (w.heap.size + 1) 3 #[.int .i64 s.size] ∧ Box v (w.heap.size + 2) 35 #[.int .i64 0]) ⟨?_, ?_, ?_, ?_, ?_⟩ ?_
    · exact ((((below_up B0.out B6.out).setCell (p := ⟨w.heap.size, 0, none⟩) (Nat.le_refl _) _).setCell (p := ⟨w.heap.size, 1, none⟩) (Nat.le_refl _) _).setCell (p := ⟨w.heap.size, 2, none⟩) (Nat.le_refl _) _).setCell (p := ⟨w.heap.size + 1, 0, none⟩) (by show _ ≤ w.heap.size + 1; omega) _
    · exact (((hh.set (b := w.heap.size) (by omega) _).set (b := w.heap.size) (by omega) _).set (b := w.heap.size) (by omega) _).set (b := w.heap.size + 1) (by omega) _
    · show _ = _
      rw [far (k := w.heap.size) (b := w.heap.size + 1) (by omega)]
      have q0 := blk_set (o := 0) (kept_obj B6.out X0.out) (.int .i64 (S : Int))
      have q1 := blk_set (o := 1) q0 (.int .i64 (R : Int))
      have q2 := blk_set (o := 2) q1 (.slice a n c)
      exact q2
    · show _ = _
      refine (blk_set (cs := #[.int .i64 0]) (T := 3) (fr := (0, 0)) ?_ _).trans rfl
      rw [far (k := w.heap.size + 1) (b := w.heap.size) (by omega), far (k := w.heap.size + 1) (b := w.heap.size) (by omega), far (k := w.heap.size + 1) (b := w.heap.size) (by omega)]
      exact kept_obj B6.out X1.out
    · show _ = _
      rw [far (k := w.heap.size + 2) (b := w.heap.size + 1) (by omega), far (k := w.heap.size + 2) (b := w.heap.size) (by omega), far (k := w.heap.size + 2) (b := w.heap.size) (by omega), far (k := w.heap.size + 2) (b := w.heap.size) (by omega)]
      exact kept_obj B6.out X2.out
    intro v ⟨hbv, hhv, hx0, hx1, hx2⟩
    have HF : Hid (∀ y0 y1 y2 y3 y4 : Value, TryIs s w (.returned (.tuple #[.agg #[.int .i64 S, .int .i64 R, .slice a n c], .int .i64 s.size, .int .i64 0])) ((((((v.setCell ⟨w.heap.size, 0, none⟩ y0).setCell ⟨w.heap.size, 1, none⟩ y1).setCell ⟨w.heap.size, 2, none⟩ y2).setCell ⟨w.heap.size + 1, 0, none⟩ y3).setCell ⟨w.heap.size + 1 + 1, 0, none⟩ y4).drew)) := by
      intro y0 y1 y2 y3 y4
      unfold TryIs
      rw [HO.out]
      refine ⟨a, n, c, rfl, ?_, ?_⟩
      · have q := ((((hhv.set (b := w.heap.size) (o := 0) (by omega) y0).set (b := w.heap.size) (o := 1) (by omega) y1).set (b := w.heap.size) (o := 2) (by omega) y2).set (b := w.heap.size + 1) (o := 0) (by omega) y3).set (b := w.heap.size + 1 + 1) (o := 0) (by omega) y4
        exact (q.below (bw_drew (Below.refl _ _))).low (by omega)
      · have q := ((((hbv.setCell (p := ⟨w.heap.size, 0, none⟩) (Nat.le_refl _) y0).setCell (p := ⟨w.heap.size, 1, none⟩) (Nat.le_refl _) y1).setCell (p := ⟨w.heap.size, 2, none⟩) (Nat.le_refl _) y2).setCell (p := ⟨w.heap.size + 1, 0, none⟩) (by show _ ≤ w.heap.size + 1; omega) y3).setCell (p := ⟨w.heap.size + 1 + 1, 0, none⟩) (by show _ ≤ w.heap.size + 1 + 1; omega) y4
        exact below_same q rfl rfl rfl rfl
    have hx2' : Box v (w.heap.size + 1 + 1) 35 #[.int .i64 0] := hx2
    have p0 : v.cell? ⟨w.heap.size, 0, none⟩ = some (.int .i64 S) := blk_cell hx0 0
    have p1 : v.cell? ⟨w.heap.size, 1, none⟩ = some (.int .i64 R) := blk_cell hx0 1
    have p2 : v.cell? ⟨w.heap.size, 2, none⟩ = some (.slice a n c) := blk_cell hx0 2
    have p3 : v.cell? ⟨w.heap.size + 1, 0, none⟩ = some (.int .i64 s.size) := blk_cell hx1 0
    have p4 : v.cell? ⟨w.heap.size + 1 + 1, 0, none⟩ = some (.int .i64 0) := blk_cell hx2' 0
    have g0 := blk_free hx0 0
    have g1 := blk_free hx0 1
    have g2 := blk_free hx0 2
    have g3 := blk_free hx1 0
    have g4 := blk_free hx2' 0
    have hv0 := lt_of_block hx0
    have hv1 := lt_of_block hx1
    have hv2 := lt_of_block hx2'
    clear hbv hhv hx0 hx1 hx2 hx2' r0 r1 r2 r3 f0 f1 f2 f3 hr hr1 hs6 hh H6 B6 CR e0 X0 X1 X2 B0
    go_region_law (fail)
    all_goals
      go_wp2_with fail
      refine leaves_cons (f := 38) (args := #[.pointer (some ⟨w.heap.size + 1, 0, none⟩), .pointer (some ⟨w.heap.size + 1 + 1, 0, none⟩)]) (by simp) (by simp [go_sem]) ?_
      refine (catch_idle ⟨w.heap.size + 1, 0, none⟩ ⟨w.heap.size + 1 + 1, 0, none⟩ _).mono ?_
      rintro e u' w'' ⟨rfl, rfl, rfl⟩
      simp [Leaves, settle, results, Tryd.results20, go_sem, p0, p1, p2, p3, p4, hv0, hv1, hv2]
      exact HF.out _ _ _ _ _

set_option maxRecDepth 100000 in
set_option maxHeartbeats 4000000 in
theorem parse_any (s : ByteArray) (hs : s.size ≤ 900000) (w : World) : Calls Tryd.prog 12 #[.string s] w (TryIs s w) := by
  have hmf : ∀ (fn : Fn) (first cap : Array Value) (w : World), (Instr.makeFunc fn first cap).run Tryd.prog w = .ok (.func fn first cap) w := fun _ _ _ _ => rfl
  have hz := w_zeroSys
  have CA : Hid (∀ b v, v.cell? ⟨b, 0, none⟩ = some (.string s) → Calls Tryd.prog 20 #[.func (.func 21) #[] #[.pointer (some ⟨b, 0, none⟩)]] v (TryIs s v)) := fun b v h => attempt_any s hs b v h
  unfold TryIs at CA
  generalize hO : outOf s = O at CA
  have HO := Lib.hid hO
  clear hO
  obtain ⟨S, R, l, p, e0⟩ := O
  simp only [] at CA
  go_enter Tryd.func12, Tryd.ntmps12
  go_upto_region 1 with fail
  refine gen_world (fun v => Below w.heap.size w v ∧ v.cell? ⟨w.heap.size, 0, none⟩ = some (.string s) ∧ Box v (w.heap.size + 1) SysT #[.int .i64 0, .int .i64 0, .slice none 0 0]) ⟨(by repeat (first | exact Below.refl _ _ | (with_reducible assumption) | refine bw_alloc ?_ _ | refine bw_drew ?_)), (new_first w _ _ _ 0).trans rfl, by have := heap_alloc_new (w.alloc (.cells #[.string s] 9)) (.cells #[.int .i64 0, .int .i64 0, .slice none 0 0] SysT); rwa [World.size_alloc] at this⟩ ?_
  intro u0 ⟨hb0, hc0, hx0⟩
  have B0 := Lib.hid hb0
  have C0 := Lib.hid hc0
  have X0 := Lib.hid hx0
  clear hb0 hc0 hx0
  go_wp2_with (go_at_call 20; (with_reducible refine (CA.out _ _ C0.out).mono ?_); rintro y u6 ⟨a, n, c, rfl, h6, b6⟩; have H6 := Lib.hid (h6.low (lt_of_block X0.out)); have B6 := Lib.hid (below_up B0.out b6); have x0 := kept_obj b6 X0.out; have r0 : u6.cell? ⟨w.heap.size + 1, 0, none⟩ = some (.int .i64 0) := blk_cell x0 0; have r1 : u6.cell? ⟨w.heap.size + 1, 1, none⟩ = some (.int .i64 0) := blk_cell x0 1; have r2 : u6.cell? ⟨w.heap.size + 1, 2, none⟩ = some (.slice none 0 0) := blk_cell x0 2; have f0 := blk_free x0 0; have f1 := blk_free x0 1; have f2 := blk_free x0 2; have hr := lt_of_block x0; clear h6 b6 x0)
  refine bodyPost_ret (v := .tuple #[.agg #[.int .i64 S, .int .i64 R, .slice a n c], .int .i64 p, .int .i64 e0]) (by simp [results, Tryd.results12, go_sem, r0, r1, r2, hr]) rfl ?_
  unfold TryIs
  rw [HO.out]
  exact ⟨a, n, c, rfl, ((((H6.out.low (Nat.le_refl _)).set (by omega) _).set (by omega) _).set (by omega) _).low (by omega), ((B6.out.setCell (p := ⟨w.heap.size + 1, 0, none⟩) (by show _ ≤ w.heap.size + 1; omega) _).setCell (p := ⟨w.heap.size + 1, 1, none⟩) (by show _ ≤ w.heap.size + 1; omega) _).setCell (p := ⟨w.heap.size + 1, 2, none⟩) (by show _ ≤ w.heap.size + 1; omega) _⟩
end Go.Proofs.YtlpffgmfgkleiaaDoor

/-
  The document's Same; what is asked of all at the beginning.
-/
namespace Go.Proofs.YtlpffgmfgkleiaaDoor
open Go.RowKit Go.Maps

set_option maxRecDepth 100000 in
set_option maxHeartbeats 4000000 in
theorem rsame_sys {w : World} {a b : Option Addr} {n m ca cb : Nat} {L M : List TV} (s r : Int) (ha : Tasks w a n ca L) (hb : Tasks w b m cb M) :
    Calls Tryd.prog 14 #[.agg #[.int .i64 s, .int .i64 r, .slice a n ca], .agg #[.int .i64 s, .int .i64 r, .slice b m cb]] w fun e w' => e = .returned (.bool (decide (L.map TV.tk = M.map TV.tk))) ∧ Below w.heap.size w w' := by
  have C : Hid (∀ w', Below w.heap.size w w' → _) := fun w' hw => rsame_tasks (ha.below hw) (hb.below hw)
  obtain ⟨q, hq⟩ : ∃ q, decide (L.map TV.tk = M.map TV.tk) = q := ⟨_, rfl⟩
  rw [hq] at C ⊢
  clear hq ha hb
  go_enter Tryd.func14, Tryd.ntmps14
  go_upto_region 1 with fail
  refine gen_world (fun v => Below w.heap.size w v ∧ v.cell? ⟨w.heap.size, 0, none⟩ = some (.int .i64 s) ∧ v.cell? ⟨w.heap.size, 1, none⟩ = some (.int .i64 r) ∧ v.cell? ⟨w.heap.size, 2, none⟩ = some (.slice a n ca) ∧ v.cell? ⟨w.heap.size + 1, 0, none⟩ = some (.int .i64 s) ∧ v.cell? ⟨w.heap.size + 1, 1, none⟩ = some (.int .i64 r) ∧ v.cell? ⟨w.heap.size + 1, 2, none⟩ = some (.slice b m cb)) ⟨(by repeat (first | exact Below.refl _ _ | (with_reducible assumption) | refine bw_alloc ?_ _ | refine bw_drew ?_)), (new_first w _ _ _ 0).trans rfl, (new_first w _ _ _ 1).trans rfl, (new_first w _ _ _ 2).trans rfl, (new_second w _ _ _ 0).trans rfl, (new_second w _ _ _ 1).trans rfl, (new_second w _ _ _ 2).trans rfl⟩ ?_
  intro u0 ⟨hb0, x0, x1, x2, y0, y1, y2⟩
  have B0 := Lib.hid hb0
  clear hb0
  cases q with
  | true =>
    go_wp2_with (go_at_call 27; (with_reducible refine (C.out _ B0.out).mono ?_); rintro e w1 ⟨rfl, b1⟩; have B1 := Lib.hid (below_up B0.out b1); have x0' := kept_cell b1 x0; have x1' := kept_cell b1 x1; have y0' := kept_cell b1 y0; have y1' := kept_cell b1 y1; clear b1)
    go_ret
    exact ⟨rfl, B1.out⟩
  | false =>
    go_wp2_with (go_at_call 27; (with_reducible refine (C.out _ B0.out).mono ?_); rintro e w1 ⟨rfl, b1⟩; have B1 := Lib.hid (below_up B0.out b1); have x0' := kept_cell b1 x0; have x1' := kept_cell b1 x1; have y0' := kept_cell b1 y0; have y1' := kept_cell b1 y1; clear b1)
    go_ret
    exact ⟨rfl, B1.out⟩

abbrev exOne : ByteArray := ⟨#[99, 97, 99, 104, 101, 32, 52, 32, 49, 10, 116, 97, 115, 107, 32, 49, 32, 99, 61, 50, 32, 100, 61, 53, 32, 116, 61, 53]⟩
abbrev exTwo : ByteArray := ⟨#[99, 97, 99, 104, 101, 32, 52, 32, 49, 10, 116, 97, 115, 107, 32, 49, 32, 99, 61, 50, 32, 100, 61, 53, 32, 116, 61, 53, 32, 112, 61, 51, 32, 117, 115, 101, 61, 48, 44, 49]⟩
theorem out_one : outOf exOne = ⟨0, 0, [], 28, 10⟩ := by kernel_rfl
theorem out_two : outOf exTwo = ⟨4, 1, [⟨1, 2, 5, 5, 3, [], [0, 1]⟩], 40, 0⟩ := by kernel_rfl
/-- A system that was read, as its callers see it. -/
theorem Holds.open_ {S R : Int} {l : List Tk} {B n c : Nat} {a : Option Addr} {w : World} (h : Holds S R l B (.agg #[.int .i64 S, .int .i64 R, .slice a n c]) w) : ∃ L : List TV, L.map TV.tk = l ∧ Tasks w a n c L ∧ ∀ x ∈ L, I64 x.p ∧ I64 x.id := by
  obtain ⟨a', n', c', L, e, hl, ho, hok, -, -, hs⟩ := h
  cases e
  obtain ⟨a2, cap2, e2, hv, hl2, hm⟩ := ho.slice
  cases e2
  exact ⟨L, hl, ⟨rfl, hv, hok, hl2, hm⟩, hs⟩

set_option maxRecDepth 100000 in
set_option maxHeartbeats 4000000 in
theorem awake_any (w : World) : Calls Tryd.prog 8 #[] w fun e w' => e = .returned (.bool true) ∧ Below w.heap.size w w' := by
  have hz := w_zeroSys
  have C1 : Hid (∀ v, Calls Tryd.prog 12 #[.string exOne] v (TryIs exOne v)) := fun v => parse_any exOne (by show 28 ≤ 900000; omega) v
  have C2 : Hid (∀ v, Calls Tryd.prog 12 #[.string exTwo] v (TryIs exTwo v)) := fun v => parse_any exTwo (by show 40 ≤ 900000; omega) v
  unfold TryIs at C1 C2
  rw [out_one] at C1
  rw [out_two] at C2
  simp only [] at C1 C2
  go_enter Tryd.func8, Tryd.ntmps8
  go_upto_region 2 with (go_at_call 12; (with_reducible refine (C1.out _).mono ?_); rintro y u1 ⟨a1, n1, k1, rfl, -, b1⟩; have B1 := Lib.hid b1; clear b1)
  refine gen_world (fun v => Below w.heap.size w v) ?_ ?_
  · exact bw_alloc B1.out _
  intro u2 b2
  have B2 := Lib.hid b2
  clear b2 B1
  go_upto_region 3 with (go_at_call 12; (with_reducible refine (C2.out _).mono ?_); rintro y u3 ⟨a2, n2, k2, rfl, h3, b3⟩; have H3 := Lib.hid h3; have B3 := Lib.hid (below_up B2.out b3); clear h3 b3)
  obtain ⟨L, hL, hT, -⟩ := H3.out.open_
  cases L with
  | nil => cases hL
  | cons x L2 =>
    obtain rfl : L2 = [] := by
      have := congrArg List.length hL
      simp only [List.map_cons, List.length_cons, List.length_map, List.length_nil] at this
      exact List.length_eq_zero_iff.1 (by omega)
    simp only [List.map_cons, List.map_nil, List.cons.injEq, and_true] at hL
    have hp : x.p = 3 := by have := congrArg Tk.p hL; exact this
    have hn : 1 = n2 := hT.len
    subst hn
    obtain ⟨g, o, rfl, ⟨c0, c1, c2, c3, c4, c5, c6⟩⟩ := hT.view.at_ (k := 0) (x := x) rfl
    rw [hp] at c4
    have hg : g < u3.heap.size := block_of_cell c4
    refine gen_world (fun v => Below w.heap.size w v ∧ v.cell? ⟨u3.heap.size, 2, none⟩ = some (.slice (some ⟨g, o, none⟩) 1 k2) ∧ v.cell? ⟨g, o + 0 * 7 + 4, none⟩ = some (.int .i64 3)) ⟨?_, ?_, ?_⟩ ?_
    · exact bw_alloc B3.out _
    · exact blk_cell (heap_alloc_new u3 (.cells #[.int .i64 4, .int .i64 1, .slice (some ⟨g, o, none⟩) 1 k2] SysT)) 2
    · exact kept_cell (w := u3) (bw_alloc (Below.refl _ _) _) c4
    intro u4 ⟨hb4, e2, e4⟩
    have B4 := Lib.hid hb4
    clear hb4 c0 c1 c2 c3 c4 c5 c6
    go_wp2_with fail
    go_ret
    exact ⟨rfl, B4.out⟩
end Go.Proofs.YtlpffgmfgkleiaaDoor

/-
  The walk over the system that a statement's plain numbers mean.
-/
namespace Go.Proofs.YtlpffgmfgkleiaaDoor
open Go.RowKit Go.Maps

/-- Plain numbers in a box, a system that comes back, plain numbers that are being made. -/
structure CopyAt (w : World) (S R : Int) (a : Option Addr) (n cap : Nat) (v : Value) (M : List NV) (W : World) : Prop where
  low : Below w.heap.size w W
  src : W.heap[w.heap.size]? = some (.cells #[.int .i64 S, .int .i64 R, .slice a n cap] 24 (0, 0))
  res : W.heap[w.heap.size + 1]? = some (.cells #[.int .i64 0, .int .i64 0, .slice none 0 0] 32 (0, 0))
  box : W.heap[w.heap.size + 2]? = some (.cells #[.int .i64 S, .int .i64 R, v] 57 (0, 0))
  own : OwnN W (w.heap.size + 3) v M
theorem CopyAt.below {w W W' : World} {S R : Int} {a : Option Addr} {n cap : Nat} {v : Value} {M : List NV} (h : CopyAt w S R a n cap v M W) (hb : Below W.heap.size W W') : CopyAt w S R a n cap v M W' :=
  ⟨below_up h.low hb, kept_obj hb h.src, kept_obj hb h.res, kept_obj hb h.box, h.own.below hb⟩
theorem copyAt_new {w : World} {S R : Int} {a : Option Addr} {n cap : Nat} : CopyAt w S R a n cap (.slice none 0 0) [] (((w.alloc (.cells #[.int .i64 S, .int .i64 R, .slice a n cap] 24)).alloc (.cells #[.int .i64 0, .int .i64 0, .slice none 0 0] 32)).alloc (.cells #[.int .i64 S, .int .i64 R, .slice none 0 0] 57)) := by
  refine ⟨(by repeat (first | exact Below.refl _ _ | (with_reducible assumption) | refine bw_alloc ?_ _ | refine bw_drew ?_)), ?_, ?_, ?_, OwnN.nil _ _⟩
  · rw [Below.heap_alloc _ _ _ (by simp; omega), Below.heap_alloc _ _ _ (by simp)]; exact heap_alloc_new w _
  · rw [Below.heap_alloc _ _ _ (by simp)]
    have := heap_alloc_new (w.alloc (.cells #[.int .i64 S, .int .i64 R, .slice a n cap] 24)) (.cells #[.int .i64 0, .int .i64 0, .slice none 0 0] 32)
    rwa [World.size_alloc] at this
  · have := heap_alloc_new ((w.alloc (.cells #[.int .i64 S, .int .i64 R, .slice a n cap] 24)).alloc (.cells #[.int .i64 0, .int .i64 0, .slice none 0 0] 32)) (.cells #[.int .i64 S, .int .i64 R, .slice none 0 0] 57)
    rwa [World.size_alloc, World.size_alloc] at this
theorem OwnN.set {w : World} {B : Nat} {v : Value} {l : List NV} (h : OwnN w B v l) {a : Addr} (ha : a.block < B) (u : Value) : OwnN (w.setCell a u) B v l := ownsRow_setCell_below h ha u
theorem CopyAt.push {w W w3 : World} {S R : Int} {a : Option Addr} {n cap : Nat} {v v' : Value} {M M' : List NV} (h : CopyAt w S R a n cap v M W) (hg : W.grownBy w3 v.ownBlock) (ho : OwnN w3 (w.heap.size + 3) v' M') :
    CopyAt w S R a n cap v' M' (w3.setCell ⟨w.heap.size + 2, 2, none⟩ v') ∧ w3.cell? ⟨w.heap.size + 2, 2, none⟩ = some v ∧ w3.frozen? ⟨w.heap.size + 2, 2, none⟩ = false := by
  have hs : w.heap.size + 3 ≤ W.heap.size := lt_of_block h.box
  have hb : Below (w.heap.size + 3) W w3 := (Below.refl _ W).grown hg hs (fun k hk => (h.own.new hk).1)
  have h3 := kept_objB hb (by omega) h.box
  refine ⟨⟨(h.low.trans (hb.mono (by omega))).setCell (p := ⟨w.heap.size + 2, 2, none⟩) (by show _ ≤ _ + 2; omega) _, ?_, ?_, (blk_set h3 _).trans rfl, ho.set (by show _ + 2 < _; omega) _⟩, by rw [blk_cell h3]; rfl, blk_free h3 2⟩
  · rw [blk_far (a := ⟨w.heap.size + 2, 2, none⟩) (by show _ ≠ _ + 2; omega)]; exact kept_objB hb (by omega) h.src
  · rw [blk_far (a := ⟨w.heap.size + 2, 2, none⟩) (by show _ ≠ _ + 2; omega)]; exact kept_objB hb (by omega) h.res
theorem copy_done {w W W5 : World} {s r : Int} {a : Option Addr} {n c : Nat} {L : List TV} (hl : Below w.heap.size w W) (hb : Below W.heap.size W W5) (hres : W5.heap[w.heap.size + 1]? = some (.cells #[.int .i64 0, .int .i64 0, .slice none 0 0] 32 (0, 0))) (hrl : w.heap.size + 1 < W.heap.size)
    (ho : OwnT W5 W.heap.size (.slice a n c) L) (hok : AllOk W5 L) (hi : ∀ x ∈ L, IsI W5 x.a1 x.ch ∧ IsI W5 x.a2 x.us) (hm : Made s r L) (x0 x1 x2 : Value) :
    MadeBack w (.returned (.agg #[.int .i64 s, .int .i64 r, .slice a n c])) (((W5.setCell ⟨w.heap.size + 1, 0, none⟩ x0).setCell ⟨w.heap.size + 1, 1, none⟩ x1).setCell ⟨w.heap.size + 1, 2, none⟩ x2) := by
  have hb2 : Below w.heap.size w (((W5.setCell ⟨w.heap.size + 1, 0, none⟩ x0).setCell ⟨w.heap.size + 1, 1, none⟩ x1).setCell ⟨w.heap.size + 1, 2, none⟩ x2) :=
    (((below_up hl hb).setCell (p := ⟨w.heap.size + 1, 0, none⟩) (Nat.le_succ _) x0).setCell (p := ⟨w.heap.size + 1, 1, none⟩) (Nat.le_succ _) x1).setCell (p := ⟨w.heap.size + 1, 2, none⟩) (Nat.le_succ _) x2
  have ho2 := ((ho.set (a := ⟨w.heap.size + 1, 0, none⟩) hrl x0).set (a := ⟨w.heap.size + 1, 1, none⟩) hrl x1).set (a := ⟨w.heap.size + 1, 2, none⟩) hrl x2
  have hk : ∀ (b : Nat) (cs : Array Value) (T : TypeId) (fr : Nat × Nat), W5.heap[b]? = some (.cells cs T fr) → (T = 2 ∨ T = 3) → (((W5.setCell ⟨w.heap.size + 1, 0, none⟩ x0).setCell ⟨w.heap.size + 1, 1, none⟩ x1).setCell ⟨w.heap.size + 1, 2, none⟩ x2).heap[b]? = W5.heap[b]? := by
    intro b cs T fr hc hT
    have hne : b ≠ w.heap.size + 1 := by
      rintro rfl
      rw [hres] at hc
      simp at hc
      rcases hT with q | q <;> rw [q] at hc <;> exact absurd hc.2.1 (by decide)
    rw [blk_far (a := ⟨w.heap.size + 1, 2, none⟩) hne, blk_far (a := ⟨w.heap.size + 1, 1, none⟩) hne, blk_far (a := ⟨w.heap.size + 1, 0, none⟩) hne]
  exact ⟨s, r, a, n, c, L, rfl, ho2.low (by omega), fun x hx => (hok x hx).kept (hi x hx) hk, fun x hx => ⟨(hi x hx).1.kept hk, (hi x hx).2.kept hk⟩, hm, hb2⟩

set_option maxRecDepth 100000 in
set_option maxHeartbeats 4000000 in
theorem made5_any {w : World} {a : Option Addr} {n cap : Nat} {L : List NV} (S R : Int) (hn : Nums w a n cap L) :
    Calls Tryd.prog 11 #[.agg #[.int .i64 S, .int .i64 R, .slice a n cap]] w (MadeBack w) := by
  have HA := Lib.hid hn
  have hz := zeroSys
  have hn9 := hn.small
  clear hn
  go_enter Tryd.func11, Tryd.ntmps11
  go_wp2_with fail
  refine gen_world (CopyAt w S R a n cap (.slice none 0 0) []) copyAt_new ?_
  intro W1 hw1
  have H1 := Lib.hid hw1
  obtain ⟨m, hm⟩ : ∃ m, m = min n 6 := ⟨_, rfl⟩
  have hm1 : m ≤ n := by omega
  have hm6 : m ≤ 6 := by omega
  have hor : m = n ∨ (m = 6 ∧ 6 < n) := by omega
  have HOR := Lib.hid hor
  clear hm hor hw1
  go_loopw [4] (fun u wr => ∃ (k : Nat) (a' : Option Addr) (cp' : Nat), k ≤ m ∧ u = .int .i64 k ∧ Hid (CopyAt w S R a n cap (.slice a' k cp') (L.take k) wr)) (fun u _ => (m - intOf u).toNat)
  case atStart => exact ⟨0, _, _, by omega, rfl, H1⟩
  case round =>
    obtain ⟨k, a', cp', hk, rfl, HP⟩ := hrel
    clear H1
    have b2 : wr.cell? ⟨w.heap.size + 2, 2, none⟩ = some (.slice a' k cp') := by rw [blk_cell HP.out.box]; rfl
    have s2 : wr.cell? ⟨w.heap.size, 2, none⟩ = some (.slice a n cap) := by rw [blk_cell HP.out.src]; rfl
    have hl2 : w.heap.size + 2 < wr.heap.size := lt_of_block HP.out.box
    have hl0 : w.heap.size < wr.heap.size := lt_of_block HP.out.src
    by_cases hlt : k < m
    · obtain ⟨x, hx⟩ := nth_of HA.out.len (show k < n by omega)
      obtain ⟨g', o', rfl, ⟨c0, c1, c2, c3, c4, c5⟩⟩ := (HA.out.view.below HP.out.low).at_ hx
      have hk1 : (k : Int) < (n : Int) := by omega
      have hk6 : (k : Int) < 6 := by omega
      have hk0 : (0 : Int) ≤ (k : Int) := by omega
      have HTL : Hid ((L.take k).length = k) := by show _ = _; rw [List.length_take, HA.out.len]; omega
      have HSM : Hid ((L.take k).length + 1 ≤ 1000000) := by show _ ≤ _; rw [HTL.out]; omega
      have HNN : Hid ((L.take k).length + 1 = k + 1) := by show _ = _; rw [HTL.out]
      have HTK : Hid (L.take k ++ [x] = L.take (k + 1)) := by show _ = _; rw [List.take_add_one, hx]; rfl
      clear hx
      go_upto_region 5 with fail
      go_region_law (refine nstep_append (m := 1) (l := [x]) rfl (.tmp 22) (.tmp 28) rfl (by rfl) (by rfl) (HP.out.below (by repeat (first | exact Below.refl _ _ | (with_reducible assumption) | refine bw_alloc ?_ _ | refine bw_drew ?_))).own (Nat.le_trans (lt_of_block HP.out.box) ((by repeat (first | exact Below.refl _ _ | (with_reducible assumption) | refine bw_alloc ?_ _ | refine bw_drew ?_)) : Below wr.heap.size wr _).size) (by first | exact NView.of_at (nat_new _ _ _) | exact (NView.of_at (nat_new _ _ _)).below (by repeat (first | exact Below.refl _ _ | (with_reducible assumption) | refine bw_alloc ?_ _ | refine bw_drew ?_))) rfl HSM.out (fun z => by cases z) (k + 1) HNN.out ?_
                     intro a3 k3 w3 o3 g3 l3
                     obtain ⟨hq, z1, z2⟩ := (HP.out.below (by repeat (first | exact Below.refl _ _ | (with_reducible assumption) | refine bw_alloc ?_ _ | refine bw_drew ?_))).push g3 (HTK.out ▸ o3)
                     have HN := Lib.hid hq
                     clear hq o3 g3 l3)
      all_goals
        go_wp2
        go_roundw
        case rel => exact ⟨k + 1, _, _, by omega, by go_num, HN⟩
        case measure => simp [intOf]; omega
    · obtain rfl : m = k := by omega
      have b0 : wr.cell? ⟨w.heap.size + 2, 0, none⟩ = some (.int .i64 S) := by rw [blk_cell HP.out.box]; rfl
      have b1 : wr.cell? ⟨w.heap.size + 2, 1, none⟩ = some (.int .i64 R) := by rw [blk_cell HP.out.box]; rfl
      have HTL : Hid ((L.take m).length = m) := by show _ = _; rw [List.length_take, HA.out.len]; omega
      have HNU : Hid (Nums wr a' m cp' (L.take m)) := by
        obtain ⟨a9, c9, e9, v9, _⟩ := HP.out.own.slice
        simp only [Value.slice.injEq] at e9
        obtain ⟨rfl, _, rfl⟩ := e9
        exact ⟨HTL.out, v9, fun x hx => (HA.out.ok x (List.mem_of_mem_take hx)).below HP.out.low, by omega⟩
      have C := Lib.hid (made_any S R HNU.out)
      have q1 : ¬ ((m : Int) < (n : Int)) ∨ ((m : Int) < (n : Int) ∧ ¬ ((m : Int) < 6)) := by
        rcases HOR.out with h | ⟨h1, h2⟩
        · left; omega
        · right; omega
      rcases q1 with q1 | ⟨q1, q2⟩
      all_goals
        go_wp2_with (go_at_call 19; (with_reducible refine (C.out).mono ?_); rintro e w5 ⟨s5, r5, a5, n5, c5, L5, rfl, ho5, hok5, hi5, hm5, b5⟩; have HR := Lib.hid (kept_obj b5 HP.out.res); have r0 : w5.cell? ⟨w.heap.size + 1, 0, none⟩ = some (.int .i64 0) := (by rw [blk_cell HR.out]; rfl); have r1 : w5.cell? ⟨w.heap.size + 1, 1, none⟩ = some (.int .i64 0) := (by rw [blk_cell HR.out]; rfl); have r2 : w5.cell? ⟨w.heap.size + 1, 2, none⟩ = some (.slice none 0 0) := (by rw [blk_cell HR.out]; rfl); have f0 := blk_free HR.out 0; have f1 := blk_free HR.out 1; have f2 := blk_free HR.out 2; have HD := Lib.hid (copy_done HP.out.low b5 HR.out (lt_of_block HP.out.res) ho5 hok5 hi5 hm5); clear ho5 hok5 hi5 hm5 b5)
        exact bodyPost_ret (v := .agg #[.int .i64 s5, .int .i64 r5, .slice a5 n5 c5]) (by simp [results, Tryd.results11, go_sem, r0, r1, r2]) rfl (HD.out _ _ _)
end Go.Proofs.YtlpffgmfgkleiaaDoor

/-
  The walk over the law of what was read: it is right, and is printed and read again, the same.
-/
namespace Go.Proofs.YtlpffgmfgkleiaaDoor
open Go.RowKit Go.Maps

theorem out_wrong {s : ByteArray} {p e : Int} (h : parseOf s = .error (p, e)) : outOf s = ⟨0, 0, [], p, e⟩ := by unfold outOf; rw [h]
theorem out_right {s : ByteArray} {S R : Nat} {l : List Tk} (h : parseOf s = .ok (S, R, l)) : outOf s = ⟨S, R, l, s.size, 0⟩ := by unfold outOf; rw [h]
/-- The printed text of what was read is read again. -/
theorem again {s : ByteArray} {S R : Nat} {l : List Tk} (h : parseOf s = .ok (S, R, l)) : outOf (printText S R l) = ⟨S, R, l, (printText S R l).size, 0⟩ := by
  obtain ⟨_, _, _, _, _, _, hc, _⟩ := parse_parts h
  have := parse_print hc
  simp only [Int.toNat_natCast] at this
  exact out_right this
/-- Parse, where it finds something wrong, and where it does not. -/
def BadIs (p e : Int) (w : World) (y : Ending) (w' : World) : Prop := ∃ (a : Option Addr) (c : Nat), y = .returned (.tuple #[.agg #[.int .i64 0, .int .i64 0, .slice a 0 c], .int .i64 p, .int .i64 e]) ∧ Below w.heap.size w w'
def GoodIs (S R : Int) (l : List Tk) (z : Int) (w : World) (y : Ending) (w' : World) : Prop := ∃ (a : Option Addr) (n c : Nat) (L : List TV), y = .returned (.tuple #[.agg #[.int .i64 S, .int .i64 R, .slice a n c], .int .i64 z, .int .i64 0]) ∧ Tasks w' a n c L ∧ L.map TV.tk = l ∧ (∀ x ∈ L, I64 x.p ∧ I64 x.id) ∧ Below w.heap.size w w'
theorem parse_bad {s : ByteArray} {p e : Int} (h : outOf s = ⟨0, 0, [], p, e⟩) (hs : s.size ≤ 900000) (w : World) : Calls Tryd.prog 12 #[.string s] w (BadIs p e w) := by
  have := parse_any s hs w
  unfold TryIs at this
  rw [h] at this
  refine this.mono fun y w' ⟨a, n, c, h1, h2, h3⟩ => ?_
  obtain ⟨L, hL, hT, -⟩ := h2.open_
  obtain rfl : L = [] := List.map_eq_nil_iff.1 hL
  obtain rfl : 0 = n := hT.len
  exact ⟨a, c, h1, h3⟩
theorem parse_good {s : ByteArray} {S R : Int} {l : List Tk} {z : Int} (h : outOf s = ⟨S, R, l, z, 0⟩) (hs : s.size ≤ 900000) (w : World) : Calls Tryd.prog 12 #[.string s] w (GoodIs S R l z w) := by
  have := parse_any s hs w
  unfold TryIs at this
  rw [h] at this
  refine this.mono fun y w' ⟨a, n, c, h1, h2, h3⟩ => ?_
  obtain ⟨L, hL, hT, hI⟩ := h2.open_
  exact ⟨a, n, c, L, h1, hT, hL, hI, h3⟩
/-- A system in a box, with its tasks. -/
structure SysIn (w : World) (g : Nat) (S R : Int) (a : Option Addr) (n c : Nat) (L : List TV) (v : World) : Prop where
  low : Below w.heap.size w v
  box : Box v g SysT #[.int .i64 S, .int .i64 R, .slice a n c]
  tasks : Tasks v a n c L
theorem SysIn.below {w v v' : World} {g : Nat} {S R : Int} {a : Option Addr} {n c : Nat} {L : List TV} (h : SysIn w g S R a n c L v) (hb : Below v.heap.size v v') : SysIn w g S R a n c L v' := ⟨below_up h.low hb, kept_obj hb h.box, h.tasks.below hb⟩
theorem sysIn_new {w v : World} {S R : Int} {a : Option Addr} {n c : Nat} {L : List TV} (h : Below w.heap.size w v) (k : Tasks v a n c L) : SysIn w v.heap.size S R a n c L (v.alloc (.cells #[.int .i64 S, .int .i64 R, .slice a n c] SysT)) := ⟨bw_alloc h _, heap_alloc_new v _, k.below (bw_alloc (Below.refl _ _) _)⟩
theorem SysIn.c0 {w v : World} {g : Nat} {S R : Int} {a : Option Addr} {n c : Nat} {L : List TV} (h : SysIn w g S R a n c L v) : v.cell? ⟨g, 0, none⟩ = some (.int .i64 S) := blk_cell h.box 0
theorem SysIn.c1 {w v : World} {g : Nat} {S R : Int} {a : Option Addr} {n c : Nat} {L : List TV} (h : SysIn w g S R a n c L v) : v.cell? ⟨g, 1, none⟩ = some (.int .i64 R) := blk_cell h.box 1
theorem SysIn.c2 {w v : World} {g : Nat} {S R : Int} {a : Option Addr} {n c : Nat} {L : List TV} (h : SysIn w g S R a n c L v) : v.cell? ⟨g, 2, none⟩ = some (.slice a n c) := blk_cell h.box 2

set_option maxRecDepth 100000 in
set_option maxHeartbeats 8000000 in
theorem law_right (w : World) (hT : PT w) (s : ByteArray) :
    Calls Tryd.prog 5 #[.string s] w fun e w' => e = .returned (.bool true) ∧ Below w.heap.size w w' := by
  have HPT : Hid (PT w) := hT
  obtain ⟨s1, hs1⟩ : ∃ t, shortOf s 200 = t := ⟨_, rfl⟩
  have hs1s : s1.size ≤ 200 := by
    rw [← hs1]; unfold shortOf
    split
    · rw [ByteArray.size_extract]; omega
    · omega
  have SH : Hid (∀ v, Calls Tryd.prog 9 #[.string s, .int .i64 200] v fun e w' => e = .returned (.string s1) ∧ v = w') := fun v => by have := short_any s 200 (by omega) v; rwa [hs1] at this
  clear hs1 hT
  obtain ⟨N, hN⟩ : ∃ N, s1.size = N := ⟨_, rfl⟩
  rcases hq : parseOf s1 with ⟨p, e⟩ | ⟨S, R, l⟩
  · obtain ⟨he, hp0, hp1⟩ := parse_err (by omega) hq
    rw [hN] at hp1
    have C1 : Hid (∀ v, Calls Tryd.prog 12 #[.string s1] v (BadIs p e v)) := fun v => parse_bad (out_wrong hq) (by omega) v
    have d1 : (e == 0) = false := by rw [beq_eq_false_iff_ne]; exact he
    have d2 : (e != 0) = true := by rw [bne, d1]; rfl
    clear hq he hs1s
    go_enter Tryd.func5, Tryd.ntmps5
    go_upto_region 4 with (first
      | (go_at_call 8; (with_reducible refine ((awake_any _).mono ?_)); rintro e u1 ⟨rfl, b1⟩; have B1 := Lib.hid b1; clear b1)
      | (go_at_call 9; (with_reducible refine (SH.out _).mono ?_); rintro e u2 ⟨rfl, rfl⟩)
      | (go_at_call 12; (with_reducible refine (C1.out _).mono ?_); rintro y u2 ⟨a2, c2, rfl, b2⟩; have B2 := Lib.hid (below_up B1.out b2); clear b2))
    refine gen_world (fun v => Below w.heap.size w v ∧ Box v u2.heap.size SysT #[.int .i64 0, .int .i64 0, .slice a2 0 c2]) ⟨bw_alloc B2.out _, heap_alloc_new u2 _⟩ ?_
    intro u3 ⟨hb3, hx3⟩
    have B3 := Lib.hid hb3
    have q0 : u3.cell? ⟨u2.heap.size, 0, none⟩ = some (.int .i64 0) := blk_cell hx3 0
    have q1 : u3.cell? ⟨u2.heap.size, 1, none⟩ = some (.int .i64 0) := blk_cell hx3 1
    have q2 : u3.cell? ⟨u2.heap.size, 2, none⟩ = some (.slice a2 0 c2) := blk_cell hx3 2
    clear hb3 hx3
    go_wp2_with fail
    go_ret
    exact ⟨rfl, B3.out⟩
  · obtain ⟨_, _, _, _, _, _, hck, _⟩ := parse_parts hq
    obtain ⟨T, hTx⟩ : ∃ T, printText (S : Int) (R : Int) l = T := ⟨_, rfl⟩
    have hag := again hq
    rw [hTx] at hag
    have C1 : Hid (∀ v, Calls Tryd.prog 12 #[.string s1] v (GoodIs S R l N v)) := fun v => parse_good (by rw [out_right hq, hN]) (by omega) v
    clear hq hs1s
    go_enter Tryd.func5, Tryd.ntmps5
    go_upto_region 4 with (first
      | (go_at_call 8; (with_reducible refine ((awake_any _).mono ?_)); rintro e u1 ⟨rfl, b1⟩; have B1 := Lib.hid b1; clear b1)
      | (go_at_call 9; (with_reducible refine (SH.out _).mono ?_); rintro e u2 ⟨rfl, rfl⟩)
      | (go_at_call 12; (with_reducible refine (C1.out _).mono ?_); rintro y u2 ⟨a2, n2, c2, L, rfl, t2, hL, hI, b2⟩; have B2 := Lib.hid (below_up B1.out b2); clear b2))
    have hps := print_size (S : Int) (R : Int) L
    rw [hL, hTx] at hps
    have X2 := Lib.hid (sysIn_new (w := w) (S := (S : Int)) (R := (R : Int)) B2.out t2)
    refine gen_world (SysIn w u2.heap.size S R a2 n2 c2 L) X2.out ?_
    intro u3 hx3
    have X3 := Lib.hid hx3
    have q0 := hx3.c0
    have q1 := hx3.c1
    have q2 := hx3.c2
    have HI := Lib.hid hI
    have HL := Lib.hid hL
    have CP : Hid (Calls Tryd.prog 15 #[.agg #[.int .i64 S, .int .i64 R, .slice a2 n2 c2]] u3 fun e w' => e = .returned (.string T) ∧ Below u3.heap.size u3 w') := by
      have := print_any (S : Int) (R : Int) hx3.tasks hI (HPT.out.below hx3.low)
      rwa [hL, hTx] at this
    have C2 : Hid (∀ v, Calls Tryd.prog 12 #[.string T] v (GoodIs S R l T.size v)) := fun v => parse_good hag (by omega) v
    have HCK := Lib.hid hck
    clear X2 hx3 t2 hL hI hps hag hck hTx C1 SH B1 B2 HPT
    go_upto_region 7 with (first
      | (go_at_call 15; (with_reducible refine (CP.out).mono ?_); rintro e u4 ⟨rfl, b4⟩; have X4 := Lib.hid (X3.out.below b4); clear b4)
      | (go_at_call 12; (with_reducible refine (C2.out _).mono ?_); rintro y u5 ⟨a5, n5, c5, M, rfl, t5, hM, -, b5⟩; have X5 := Lib.hid (X4.out.below b5); have T5 := Lib.hid t5; have HM := Lib.hid hM; clear b5 t5 hM))
    clear CP C2 X3 X4 q0 q1 q2
    have X6 := Lib.hid (X5.out.below (bw_alloc (Below.refl _ _) (.cells #[.int .i64 S, .int .i64 R, .slice a5 n5 c5] SysT)))
    have Y6 := Lib.hid (sysIn_new (w := w) (S := (S : Int)) (R := (R : Int)) X5.out.low T5.out)
    refine gen_world (fun v => SysIn w u2.heap.size S R a2 n2 c2 L v ∧ SysIn w u5.heap.size S R a5 n5 c5 M v) ⟨X6.out, Y6.out⟩ ?_
    intro u6 ⟨x6, y6⟩
    have X7 := Lib.hid x6
    have SS : Hid (Calls Tryd.prog 14 #[.agg #[.int .i64 S, .int .i64 R, .slice a2 n2 c2], .agg #[.int .i64 S, .int .i64 R, .slice a5 n5 c5]] u6 fun e w' => e = .returned (.bool true) ∧ Below u6.heap.size u6 w') := by
      have := rsame_sys (S : Int) (R : Int) x6.tasks y6.tasks
      rwa [decide_eq_true (HL.out.trans HM.out.symm)] at this
    have q0 := x6.c0
    have q1 := x6.c1
    have q2 := x6.c2
    have r0 := y6.c0
    have r1 := y6.c1
    have r2 := y6.c2
    clear X5 X6 Y6 T5 HM x6 y6
    go_upto_region 8 with (go_at_call 14; (with_reducible refine (SS.out).mono ?_); rintro e u7 ⟨rfl, b7⟩; have X8 := Lib.hid (X7.out.below b7); clear b7)
    clear q0 q1 q2 r0 r1 r2 SS X7
    have q0 := X8.out.c0
    have q1 := X8.out.c1
    have q2 := X8.out.c2
    have CK : Hid (∀ v, Below u7.heap.size u7 v → Calls Tryd.prog 16 #[.agg #[.int .i64 S, .int .i64 R, .slice a2 n2 c2]] v fun e w' => e = .returned (.int .i64 0) ∧ Below w.heap.size w w') := fun v hb => by
      have := rcheck_any (S : Int) (R : Int) (X8.out.tasks.below hb)
      rw [check_tk, HL.out, HCK.out] at this
      exact this.mono fun _ _ ⟨h1, h2⟩ => ⟨h1, below_up (below_up X8.out.low hb) h2⟩
    go_wp2_with (go_at_call 16; (with_reducible refine (CK.out _ (Below.refl _ _)).mono ?_); rintro e u8 ⟨rfl, b8⟩)
    go_ret
    exact ⟨rfl, b8⟩
end Go.Proofs.YtlpffgmfgkleiaaDoor
