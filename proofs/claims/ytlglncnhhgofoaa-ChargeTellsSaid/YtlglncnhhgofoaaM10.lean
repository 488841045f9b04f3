/- Texts of this claim, put together: CW5, CW6, CW2, CEq, CTk, FHp, FLaw4, FOpen. -/
import Derived.Test.YtlglncnhhgofoaaM9
import Derived.Laws.CopyRow
import Derived.RangeFuncNested
import Derived.RangeFuncBound
import Derived.RangeFuncCalls
import Derived.RangeFuncLeaves
import Derived.RangeFuncBox
import Derived.Shelf.RegionOpen
import Derived.Laws.StructEq
import Derived.Deep.RegionHeld3
import Derived.Deep.CutBlock
import Derived.Deep.CutRange
import Derived.Deep.DeepCutAuto
set_option linter.unusedVariables false
set_option linter.unusedSimpArgs false

/-
  The walks over a tick of a job's work.
-/
namespace Go.Proofs.Ytlglncnhhgofoaa
open Go.RowKit Go.Maps

set_option maxRecDepth 100000 in
set_option maxHeartbeats 4000000 in
theorem may_step (x : TV) (rel dn dm db rl : Int) (p : Nat → Bool) (w : World) : Calls Try.prog 31 #[.agg #[.int .i64 x.id, .int .i64 x.c, .int .i64 x.d, .int .i64 x.t, .int .i64 x.p, .slice x.a1 x.ch.length x.c1, .slice x.a2 x.us.length x.c2], .int .i64 rel, .agg #[.int .i64 dn, .int .i64 dm, .int .i64 db, .int .i64 rl, .int .u64 (wd p 0), .int .u64 (wd p 1), .int .u64 (wd p 2), .int .u64 (wd p 3)]] w fun e w' => e = .returned (.bool (decide (Fits x.id rel ⟨dn, dm, db, rl, p⟩))) ∧ Below w.heap.size w w' := by
  have M := Lib.hid (may_any x.id)
  obtain ⟨q, hq⟩ : ∃ q, decide (Fits x.id rel ⟨dn, dm, db, rl, p⟩) = q := ⟨_, rfl⟩
  rw [hq]
  have HQ := Lib.hid hq
  clear hq
  generalize wd p = y
  by_cases h0 : okOwn x.id
  · skip
    rw [decide_eq_true h0] at M
    by_cases h1 : 0 ≤ rel
    · skip
      have d1 : decide (0 ≤ rel) = true := decide_eq_true h1
      by_cases h2 : rel ≤ 1000
      · skip
        have d2 : decide (rel ≤ 1000) = true := decide_eq_true h2
        by_cases h3 : 0 ≤ dn
        · skip
          have d3 : decide (0 ≤ dn) = true := decide_eq_true h3
          by_cases h4 : dn < dm
          · skip
            have d4 : decide (dn < dm) = true := decide_eq_true h4
            by_cases h5 : 0 ≤ db
            · skip
              have d5 : decide (0 ≤ db) = true := decide_eq_true h5
              obtain rfl : q = true := by rw [← HQ.out]; exact decide_eq_true ⟨h0, h1, h2, h3, h4, h5⟩
              clear HQ h0
              go_enter Try.func31, Try.ntmps31
              go_wp2_with (go_at_call 45; refine (M.out _).mono ?_; rintro e w1 ⟨rfl, rfl⟩)
              go_ret
              exact ⟨rfl, (by repeat (first | exact Below.refl _ _ | (with_reducible assumption) | refine bw_alloc ?_ _ | refine bw_drew ?_))⟩
            · skip
              obtain rfl : q = false := by rw [← HQ.out]; exact decide_eq_false (fun z => h5 z.2.2.2.2.2)
              have d5 : decide (0 ≤ db) = false := decide_eq_false h5
              clear HQ h0
              go_enter Try.func31, Try.ntmps31
              go_wp2_with (go_at_call 45; refine (M.out _).mono ?_; rintro e w1 ⟨rfl, rfl⟩)
              go_ret
              exact ⟨rfl, (by repeat (first | exact Below.refl _ _ | (with_reducible assumption) | refine bw_alloc ?_ _ | refine bw_drew ?_))⟩
          · skip
            obtain rfl : q = false := by rw [← HQ.out]; exact decide_eq_false (fun z => h4 z.2.2.2.2.1)
            have d4 : decide (dn < dm) = false := decide_eq_false h4
            clear HQ h0
            go_enter Try.func31, Try.ntmps31
            go_wp2_with (go_at_call 45; refine (M.out _).mono ?_; rintro e w1 ⟨rfl, rfl⟩)
            go_ret
            exact ⟨rfl, (by repeat (first | exact Below.refl _ _ | (with_reducible assumption) | refine bw_alloc ?_ _ | refine bw_drew ?_))⟩
        · skip
          obtain rfl : q = false := by rw [← HQ.out]; exact decide_eq_false (fun z => h3 z.2.2.2.1)
          have d3 : decide (0 ≤ dn) = false := decide_eq_false h3
          clear HQ h0
          go_enter Try.func31, Try.ntmps31
          go_wp2_with (go_at_call 45; refine (M.out _).mono ?_; rintro e w1 ⟨rfl, rfl⟩)
          go_ret
          exact ⟨rfl, (by repeat (first | exact Below.refl _ _ | (with_reducible assumption) | refine bw_alloc ?_ _ | refine bw_drew ?_))⟩
      · skip
        obtain rfl : q = false := by rw [← HQ.out]; exact decide_eq_false (fun z => h2 z.2.2.1)
        have d2 : decide (rel ≤ 1000) = false := decide_eq_false h2
        clear HQ h0
        go_enter Try.func31, Try.ntmps31
        go_wp2_with (go_at_call 45; refine (M.out _).mono ?_; rintro e w1 ⟨rfl, rfl⟩)
        go_ret
        exact ⟨rfl, (by repeat (first | exact Below.refl _ _ | (with_reducible assumption) | refine bw_alloc ?_ _ | refine bw_drew ?_))⟩
    · skip
      obtain rfl : q = false := by rw [← HQ.out]; exact decide_eq_false (fun z => h1 z.2.1)
      have d1 : decide (0 ≤ rel) = false := decide_eq_false h1
      clear HQ h0
      go_enter Try.func31, Try.ntmps31
      go_wp2_with (go_at_call 45; refine (M.out _).mono ?_; rintro e w1 ⟨rfl, rfl⟩)
      go_ret
      exact ⟨rfl, (by repeat (first | exact Below.refl _ _ | (with_reducible assumption) | refine bw_alloc ?_ _ | refine bw_drew ?_))⟩
  · skip
    obtain rfl : q = false := by rw [← HQ.out]; exact decide_eq_false (fun z => h0 z.1)
    rw [decide_eq_false h0] at M
    clear HQ h0
    go_enter Try.func31, Try.ntmps31
    go_wp2_with (go_at_call 45; refine (M.out _).mono ?_; rintro e w1 ⟨rfl, rfl⟩)
    go_ret
    exact ⟨rfl, (by repeat (first | exact Below.refl _ _ | (with_reducible assumption) | refine bw_alloc ?_ _ | refine bw_drew ?_))⟩

/-- What a tick has ready to come back. -/
structure Outs (T : TypeId) (w : World) (b r n : Nat) (L : Nat → Int) (W : World) : Prop where
  low : Turn (fun k => k = r) w W
  rb : W.heap[w.heap.size + 1 + 1]? = some (.cells #[.int .i64 0, .int .i64 0, .int .i64 0, .int .i64 0, .int .u64 0, .int .u64 0, .int .u64 0, .int .u64 0] WT (0, 0))
  ch : Ch T W b r n L
  bl : b < w.heap.size
  rl : r < w.heap.size
theorem Outs.put {T : TypeId} {w W : World} {b r n : Nat} {L : Nat → Int} (h : Outs T w b r n L W) (o : Nat) (v : Value) : Outs T w b r n L (W.setCell ⟨w.heap.size + 1, o, none⟩ v) := by
  have h1 := h.bl
  have h2 := h.rl
  refine ⟨h.low.setCell (p := ⟨w.heap.size + 1, o, none⟩) (fun q => absurd q (by show ¬ w.heap.size + 1 < _; omega)) v, (blk_far (a := ⟨w.heap.size + 1, o, none⟩) (by show w.heap.size + 1 + 1 ≠ w.heap.size + 1; omega) v).trans h.rb, ?_, h1, h2⟩
  obtain ⟨cur, h3, h4, h5⟩ := h.ch.row
  exact ⟨(blk_far (a := ⟨w.heap.size + 1, o, none⟩) (by show b ≠ w.heap.size + 1; omega) v).trans h.ch.str, ⟨cur, (blk_far (a := ⟨w.heap.size + 1, o, none⟩) (by show r ≠ w.heap.size + 1; omega) v).trans h3, h4, h5⟩, h.ch.ne, h.ch.few, h.ch.wf⟩
/-- A set is used. -/
theorem used {T : TypeId} {w W : World} {x : TV} {a b c d : Int} {y : Nat → Nat} {g r n : Nat} {L : Nat → Int} (h : StepAt (fun k => k = r) w x a b c d y W) (hc : Ch T W g r n L) (hr : r < w.heap.size) {i : Nat} (hi : i < n) {o : Int} (ho : okOwn o) :
    StepAt (fun k => k = r) w x a b c d y (W.setCell ⟨r, i, none⟩ (.int .i64 o)).drew ∧ Ch T (W.setCell ⟨r, i, none⟩ (.int .i64 o)).drew g r n (putL L i o) :=
  ⟨(h.turn (Turn.setCell (S := fun k => k = r) (p := ⟨r, i, none⟩) (Turn.refl _ W) (fun _ => rfl) _) hr).below (bw_drew (Below.refl _ _)), (hc.put hi ho).below (bw_drew (Below.refl _ _))⟩
theorem Outs.ends {T : TypeId} {w W : World} {b r n : Nat} {L : Nat → Int} (h : Outs T w b r n L W) (y0 y1 y2 y3 y4 y5 y6 y7 : Value) :
    (((((((((W.setCell ⟨(w.heap.size + 1 + 1), 0, none⟩ y0).setCell ⟨(w.heap.size + 1 + 1), 1, none⟩ y1).setCell ⟨(w.heap.size + 1 + 1), 2, none⟩ y2).setCell ⟨(w.heap.size + 1 + 1), 3, none⟩ y3).setCell ⟨(w.heap.size + 1 + 1), 4, none⟩ y4).setCell ⟨(w.heap.size + 1 + 1), 5, none⟩ y5).setCell ⟨(w.heap.size + 1 + 1), 6, none⟩ y6).setCell ⟨(w.heap.size + 1 + 1), 7, none⟩ y7).cell? ⟨w.heap.size + 1 + 1, 0, none⟩ = some y0 ∧ ((((((((W.setCell ⟨(w.heap.size + 1 + 1), 0, none⟩ y0).setCell ⟨(w.heap.size + 1 + 1), 1, none⟩ y1).setCell ⟨(w.heap.size + 1 + 1), 2, none⟩ y2).setCell ⟨(w.heap.size + 1 + 1), 3, none⟩ y3).setCell ⟨(w.heap.size + 1 + 1), 4, none⟩ y4).setCell ⟨(w.heap.size + 1 + 1), 5, none⟩ y5).setCell ⟨(w.heap.size + 1 + 1), 6, none⟩ y6).setCell ⟨(w.heap.size + 1 + 1), 7, none⟩ y7).cell? ⟨w.heap.size + 1 + 1, 1, none⟩ = some y1 ∧ ((((((((W.setCell ⟨(w.heap.size + 1 + 1), 0, none⟩ y0).setCell ⟨(w.heap.size + 1 + 1), 1, none⟩ y1).setCell ⟨(w.heap.size + 1 + 1), 2, none⟩ y2).setCell ⟨(w.heap.size + 1 + 1), 3, none⟩ y3).setCell ⟨(w.heap.size + 1 + 1), 4, none⟩ y4).setCell ⟨(w.heap.size + 1 + 1), 5, none⟩ y5).setCell ⟨(w.heap.size + 1 + 1), 6, none⟩ y6).setCell ⟨(w.heap.size + 1 + 1), 7, none⟩ y7).cell? ⟨w.heap.size + 1 + 1, 2, none⟩ = some y2 ∧ ((((((((W.setCell ⟨(w.heap.size + 1 + 1), 0, none⟩ y0).setCell ⟨(w.heap.size + 1 + 1), 1, none⟩ y1).setCell ⟨(w.heap.size + 1 + 1), 2, none⟩ y2).setCell ⟨(w.heap.size + 1 + 1), 3, none⟩ y3).setCell ⟨(w.heap.size + 1 + 1), 4, none⟩ y4).setCell ⟨(w.heap.size + 1 + 1), 5, none⟩ y5).setCell ⟨(w.heap.size + 1 + 1), 6, none⟩ y6).setCell ⟨(w.heap.size + 1 + 1), 7, none⟩ y7).cell? ⟨w.heap.size + 1 + 1, 3, none⟩ = some y3 ∧ ((((((((W.setCell ⟨(w.heap.size + 1 + 1), 0, none⟩ y0).setCell ⟨(w.heap.size + 1 + 1), 1, none⟩ y1).setCell ⟨(w.heap.size + 1 + 1), 2, none⟩ y2).setCell ⟨(w.heap.size + 1 + 1), 3, none⟩ y3).setCell ⟨(w.heap.size + 1 + 1), 4, none⟩ y4).setCell ⟨(w.heap.size + 1 + 1), 5, none⟩ y5).setCell ⟨(w.heap.size + 1 + 1), 6, none⟩ y6).setCell ⟨(w.heap.size + 1 + 1), 7, none⟩ y7).cell? ⟨w.heap.size + 1 + 1, 4, none⟩ = some y4 ∧ ((((((((W.setCell ⟨(w.heap.size + 1 + 1), 0, none⟩ y0).setCell ⟨(w.heap.size + 1 + 1), 1, none⟩ y1).setCell ⟨(w.heap.size + 1 + 1), 2, none⟩ y2).setCell ⟨(w.heap.size + 1 + 1), 3, none⟩ y3).setCell ⟨(w.heap.size + 1 + 1), 4, none⟩ y4).setCell ⟨(w.heap.size + 1 + 1), 5, none⟩ y5).setCell ⟨(w.heap.size + 1 + 1), 6, none⟩ y6).setCell ⟨(w.heap.size + 1 + 1), 7, none⟩ y7).cell? ⟨w.heap.size + 1 + 1, 5, none⟩ = some y5 ∧ ((((((((W.setCell ⟨(w.heap.size + 1 + 1), 0, none⟩ y0).setCell ⟨(w.heap.size + 1 + 1), 1, none⟩ y1).setCell ⟨(w.heap.size + 1 + 1), 2, none⟩ y2).setCell ⟨(w.heap.size + 1 + 1), 3, none⟩ y3).setCell ⟨(w.heap.size + 1 + 1), 4, none⟩ y4).setCell ⟨(w.heap.size + 1 + 1), 5, none⟩ y5).setCell ⟨(w.heap.size + 1 + 1), 6, none⟩ y6).setCell ⟨(w.heap.size + 1 + 1), 7, none⟩ y7).cell? ⟨w.heap.size + 1 + 1, 6, none⟩ = some y6 ∧ ((((((((W.setCell ⟨(w.heap.size + 1 + 1), 0, none⟩ y0).setCell ⟨(w.heap.size + 1 + 1), 1, none⟩ y1).setCell ⟨(w.heap.size + 1 + 1), 2, none⟩ y2).setCell ⟨(w.heap.size + 1 + 1), 3, none⟩ y3).setCell ⟨(w.heap.size + 1 + 1), 4, none⟩ y4).setCell ⟨(w.heap.size + 1 + 1), 5, none⟩ y5).setCell ⟨(w.heap.size + 1 + 1), 6, none⟩ y6).setCell ⟨(w.heap.size + 1 + 1), 7, none⟩ y7).cell? ⟨w.heap.size + 1 + 1, 7, none⟩ = some y7) ∧ Ch T ((((((((W.setCell ⟨(w.heap.size + 1 + 1), 0, none⟩ y0).setCell ⟨(w.heap.size + 1 + 1), 1, none⟩ y1).setCell ⟨(w.heap.size + 1 + 1), 2, none⟩ y2).setCell ⟨(w.heap.size + 1 + 1), 3, none⟩ y3).setCell ⟨(w.heap.size + 1 + 1), 4, none⟩ y4).setCell ⟨(w.heap.size + 1 + 1), 5, none⟩ y5).setCell ⟨(w.heap.size + 1 + 1), 6, none⟩ y6).setCell ⟨(w.heap.size + 1 + 1), 7, none⟩ y7) b r n L ∧ Turn (fun k => k = r) w ((((((((W.setCell ⟨(w.heap.size + 1 + 1), 0, none⟩ y0).setCell ⟨(w.heap.size + 1 + 1), 1, none⟩ y1).setCell ⟨(w.heap.size + 1 + 1), 2, none⟩ y2).setCell ⟨(w.heap.size + 1 + 1), 3, none⟩ y3).setCell ⟨(w.heap.size + 1 + 1), 4, none⟩ y4).setCell ⟨(w.heap.size + 1 + 1), 5, none⟩ y5).setCell ⟨(w.heap.size + 1 + 1), 6, none⟩ y6).setCell ⟨(w.heap.size + 1 + 1), 7, none⟩ y7) := by
  have h1 := h.bl
  have h2 := h.rl
  exact ⟨cells8 (box_set8 h.rb y0 y1 y2 y3 y4 y5 y6 y7), h.ch.out8 (by omega) (by omega) y0 y1 y2 y3 y4 y5 y6 y7, turn8 h.low (by omega) y0 y1 y2 y3 y4 y5 y6 y7⟩

set_option maxRecDepth 100000 in
set_option maxHeartbeats 8000000 in
theorem work_any (x : TV) (rel dn dm db rl : Int) (p : Nat → Bool) (w : World) {b r n : Nat} {L : Nat → Int} (h : Ch CT w b r n L) (hx : x.ok w) (hf : Fits x.id rel ⟨dn, dm, db, rl, p⟩) (hm : dm ≤ 9223372036854775807) :
    Calls Try.prog 32 #[.pointer (some ⟨b, 0, none⟩), .agg #[.int .i64 x.id, .int .i64 x.c, .int .i64 x.d, .int .i64 x.t, .int .i64 x.p, .slice x.a1 x.ch.length x.c1, .slice x.a2 x.us.length x.c2], .int .i64 rel, .agg #[.int .i64 dn, .int .i64 dm, .int .i64 db, .int .i64 rl, .int .u64 (wd p 0), .int .u64 (wd p 1), .int .u64 (wd p 2), .int .u64 (wd p 3)]] w (StepBack CT b r n (workL n L x.id (accOf x dn).1 (accOf x dn).2) (workW n L x.id (accOf x dn).1 (accOf x dn).2 rel ⟨dn, dm, db, rl, p⟩) w) := by
  obtain ⟨hf0, hf1, hf2, hf3, hf4, hf5⟩ := hf
  dsimp only at hf3 hf4 hf5
  have AC := Lib.hid (fun W (hW : Below w.heap.size w W) => acc_any x dn W (hx.below hW))
  generalize (accOf x dn).2 = u at AC ⊢
  generalize (accOf x dn).1 = s at AC ⊢
  have hn := h.few
  have HC := Lib.hid (fun W (hW : Below w.heap.size w W) => chas_any (h.below hW) s)
  have BL := Lib.hid h.lt.1
  have RL := Lib.hid h.lt.2
  have CH := Lib.hid h
  have H0 := Lib.hid (stepAt_new (fun k => k = r) w x dn dm db rl (wd p))
  obtain ⟨t0, t1, t2, t3, t4, t5, t6, q0, q1, q2, q3, q4, q5, q6, q7, f0, f1, f2, f3, f4, f5, f6, f7, r0, r1, r2, r3, r4, r5, r6, r7, g0, g1, g2, g3, g4, g5, g6, g7⟩ := H0.out.facts
  have u1 : IntKind.i64.wrap (dn + 1) = dn + 1 := IntWalk.i64_in _ (by omega)
  have u2 : IntKind.i64.wrap (rel - 1) = rel - 1 := IntWalk.i64_in _ (by omega)
  obtain ⟨rl', hrl⟩ : ∃ rl', IntKind.i64.wrap (rl + 1) = rl' := ⟨_, rfl⟩
  have HRL := Lib.hid hrl
  clear hx hm hf1 hf2 hf3 hf4 hf5
  by_cases hu : u = true
  · subst hu
    by_cases hs : okSet n s
    · have e2 : workL n L x.id s true = putL L s x.id := by unfold workL; rw [if_pos ⟨rfl, hs⟩]
      have US := Lib.hid (fun W (hW : Below w.heap.size w W) => cuse_any (h.below hW) s x.id)
      unfold UseBack at US
      have e3 : useL n L s x.id = putL L s x.id := by unfold useL; rw [if_pos ⟨hs, hf0⟩]
      have e4 : useB n L s x.id = decide (L s.toNat = x.id) := by unfold useB; rw [if_pos ⟨hs, hf0⟩]
      rw [e3, e4] at US
      have HB := Lib.hid (fun W => has_any p s (by have := hs.2; omega) W)
      have WI := Lib.hid (fun W => with_any p s (by have := hs.2; omega) W)
      rw [decide_eq_true hs] at HC
      rw [e2]
      have HS := Lib.hid hs
      clear e2 e3 e4 h hf0 hs
      by_cases hk : L s.toNat = x.id
      · rw [decide_eq_true hk] at US
        rw [show workW n L x.id s true rel ⟨dn, dm, db, rl, p⟩ = (⟨dn + 1, dm, db, rl, bitUp p s⟩, false) by unfold workW; rw [if_pos ⟨rfl, HS.out⟩, if_neg (fun z => z.1 hk)]]
        unfold StepBack
        dsimp only
        unfold bitUp
        clear HB hk
        generalize wd (orP p (oneP s)) = z at *
        generalize wd p = y at *
        go_enter Try.func32, Try.ntmps32
        go_wp2_with (first
          | (go_at_call 46; (refine (AC.out _ (by repeat (first | exact Below.refl _ _ | (with_reducible assumption) | refine bw_alloc ?_ _ | refine bw_drew ?_))).mono ?_); rintro e w1 ⟨rfl, b1⟩; have H1 := Lib.hid (H0.out.below b1); obtain ⟨t0, t1, t2, t3, t4, t5, t6, q0, q1, q2, q3, q4, q5, q6, q7, f0, f1, f2, f3, f4, f5, f6, f7, r0, r1, r2, r3, r4, r5, r6, r7, g0, g1, g2, g3, g4, g5, g6, g7⟩ := H1.out.facts; have B1 := Lib.hid (below_up ((by repeat (first | exact Below.refl _ _ | (with_reducible assumption) | refine bw_alloc ?_ _ | refine bw_drew ?_)) : Below w.heap.size w _) b1); clear b1)
          | (go_at_call 47; (refine (HC.out _ B1.out).mono ?_); rintro e w2 ⟨rfl, rfl⟩)
          | (go_at_call 48; (refine (US.out _ B1.out).mono ?_); rintro e w3 ⟨rfl, c3, k3⟩; have H3 := Lib.hid (H1.out.turn k3 RL.out); have C3 := Lib.hid c3; obtain ⟨t0, t1, t2, t3, t4, t5, t6, q0, q1, q2, q3, q4, q5, q6, q7, f0, f1, f2, f3, f4, f5, f6, f7, r0, r1, r2, r3, r4, r5, r6, r7, g0, g1, g2, g3, g4, g5, g6, g7⟩ := H3.out.facts; clear c3 k3)
          | (go_at_call 49; (refine (HB.out _).mono ?_); rintro e w4 ⟨rfl, b4⟩; have H4 := Lib.hid (H3.out.below b4); have C4 := Lib.hid (C3.out.below b4); obtain ⟨t0, t1, t2, t3, t4, t5, t6, q0, q1, q2, q3, q4, q5, q6, q7, f0, f1, f2, f3, f4, f5, f6, f7, r0, r1, r2, r3, r4, r5, r6, r7, g0, g1, g2, g3, g4, g5, g6, g7⟩ := H4.out.facts; clear b4)
          | (go_at_call 50; (refine (WI.out _).mono ?_); rintro e w5 ⟨rfl, b5⟩; have H5 := Lib.hid (H3.out.below b5); have C5 := Lib.hid (C3.out.below b5); obtain ⟨t0, t1, t2, t3, t4, t5, t6, q0, q1, q2, q3, q4, q5, q6, q7, f0, f1, f2, f3, f4, f5, f6, f7, r0, r1, r2, r3, r4, r5, r6, r7, g0, g1, g2, g3, g4, g5, g6, g7⟩ := H5.out.facts; clear b5))
        obtain ⟨⟨s0, s1, s2, s3, s4, s5, s6, s7⟩, hC, hT⟩ := ((((((⟨H5.out.low, H5.out.rb, C5.out, BL.out, RL.out⟩ : Outs CT w b r n (putL L s x.id) w5).put 4 (.int .u64 (z 0))).put 5 (.int .u64 (z 1))).put 6 (.int .u64 (z 2))).put 7 (.int .u64 (z 3))).put 0 (.int .i64 (dn + 1))).ends (.int .i64 (dn + 1)) (.int .i64 dm) (.int .i64 db) (.int .i64 rl) (.int .u64 (z 0)) (.int .u64 (z 1)) (.int .u64 (z 2)) (.int .u64 (z 3))
        exact bodyPost_ret (v := .tuple #[.agg #[.int .i64 (dn + 1), .int .i64 dm, .int .i64 (db), .int .i64 rl, .int .u64 (z 0), .int .u64 (z 1), .int .u64 (z 2), .int .u64 (z 3)], .bool false]) (by simp [results, Try.results32, go_sem, s0, s1, s2, s3, s4, s5, s6, s7]) rfl ⟨rfl, hC, hT⟩
      · rw [decide_eq_false hk] at US
        have CASES : (rel ≤ 0 ∧ True) ∨ (0 < rel ∧ hasP p s = false) ∨ (0 < rel ∧ hasP p s = true) := by
          by_cases q : rel ≤ 0
          · exact .inl ⟨q, trivial⟩
          · cases e : hasP p s
            · exact .inr (.inl ⟨by omega, rfl⟩)
            · exact .inr (.inr ⟨by omega, rfl⟩)
        rcases CASES with ⟨hr, _⟩ | ⟨hr, hq⟩ | ⟨hr, hq⟩
        · rw [show workW n L x.id s true rel ⟨dn, dm, db, rl, p⟩ = (⟨dn + 1, dm, db, rl, bitUp p s⟩, false) by unfold workW; rw [if_pos ⟨rfl, HS.out⟩, if_neg (fun z => absurd z.2.1 (by omega))]]
          unfold StepBack
          dsimp only
          unfold bitUp
          have d1 : decide (0 < rel) = false := decide_eq_false (by omega)
          have d2 : ¬ 0 < rel := by omega
          clear HB hk
          generalize wd (orP p (oneP s)) = z at *
          generalize wd p = y at *
          go_enter Try.func32, Try.ntmps32
          go_wp2_with (first
            | (go_at_call 46; (refine (AC.out _ (by repeat (first | exact Below.refl _ _ | (with_reducible assumption) | refine bw_alloc ?_ _ | refine bw_drew ?_))).mono ?_); rintro e w1 ⟨rfl, b1⟩; have H1 := Lib.hid (H0.out.below b1); obtain ⟨t0, t1, t2, t3, t4, t5, t6, q0, q1, q2, q3, q4, q5, q6, q7, f0, f1, f2, f3, f4, f5, f6, f7, r0, r1, r2, r3, r4, r5, r6, r7, g0, g1, g2, g3, g4, g5, g6, g7⟩ := H1.out.facts; have B1 := Lib.hid (below_up ((by repeat (first | exact Below.refl _ _ | (with_reducible assumption) | refine bw_alloc ?_ _ | refine bw_drew ?_)) : Below w.heap.size w _) b1); clear b1)
            | (go_at_call 47; (refine (HC.out _ B1.out).mono ?_); rintro e w2 ⟨rfl, rfl⟩)
            | (go_at_call 48; (refine (US.out _ B1.out).mono ?_); rintro e w3 ⟨rfl, c3, k3⟩; have H3 := Lib.hid (H1.out.turn k3 RL.out); have C3 := Lib.hid c3; obtain ⟨t0, t1, t2, t3, t4, t5, t6, q0, q1, q2, q3, q4, q5, q6, q7, f0, f1, f2, f3, f4, f5, f6, f7, r0, r1, r2, r3, r4, r5, r6, r7, g0, g1, g2, g3, g4, g5, g6, g7⟩ := H3.out.facts; clear c3 k3)
            | (go_at_call 49; (refine (HB.out _).mono ?_); rintro e w4 ⟨rfl, b4⟩; have H4 := Lib.hid (H3.out.below b4); have C4 := Lib.hid (C3.out.below b4); obtain ⟨t0, t1, t2, t3, t4, t5, t6, q0, q1, q2, q3, q4, q5, q6, q7, f0, f1, f2, f3, f4, f5, f6, f7, r0, r1, r2, r3, r4, r5, r6, r7, g0, g1, g2, g3, g4, g5, g6, g7⟩ := H4.out.facts; clear b4)
            | (go_at_call 50; (refine (WI.out _).mono ?_); rintro e w5 ⟨rfl, b5⟩; have H5 := Lib.hid (H3.out.below b5); have C5 := Lib.hid (C3.out.below b5); obtain ⟨t0, t1, t2, t3, t4, t5, t6, q0, q1, q2, q3, q4, q5, q6, q7, f0, f1, f2, f3, f4, f5, f6, f7, r0, r1, r2, r3, r4, r5, r6, r7, g0, g1, g2, g3, g4, g5, g6, g7⟩ := H5.out.facts; clear b5))
          obtain ⟨⟨s0, s1, s2, s3, s4, s5, s6, s7⟩, hC, hT⟩ := ((((((⟨H5.out.low, H5.out.rb, C5.out, BL.out, RL.out⟩ : Outs CT w b r n (putL L s x.id) w5).put 4 (.int .u64 (z 0))).put 5 (.int .u64 (z 1))).put 6 (.int .u64 (z 2))).put 7 (.int .u64 (z 3))).put 0 (.int .i64 (dn + 1))).ends (.int .i64 (dn + 1)) (.int .i64 dm) (.int .i64 db) (.int .i64 rl) (.int .u64 (z 0)) (.int .u64 (z 1)) (.int .u64 (z 2)) (.int .u64 (z 3))
          exact bodyPost_ret (v := .tuple #[.agg #[.int .i64 (dn + 1), .int .i64 dm, .int .i64 (db), .int .i64 rl, .int .u64 (z 0), .int .u64 (z 1), .int .u64 (z 2), .int .u64 (z 3)], .bool false]) (by simp [results, Try.results32, go_sem, s0, s1, s2, s3, s4, s5, s6, s7]) rfl ⟨rfl, hC, hT⟩
        · rw [show workW n L x.id s true rel ⟨dn, dm, db, rl, p⟩ = (⟨dn + 1, dm, db, rl, bitUp p s⟩, false) by unfold workW; rw [if_pos ⟨rfl, HS.out⟩, if_neg (fun z => by rw [hq] at z; cases z.2.2)]]
          unfold StepBack
          dsimp only
          unfold bitUp
          rw [hq] at HB
          clear hk hq
          generalize wd (orP p (oneP s)) = z at *
          generalize wd p = y at *
          go_enter Try.func32, Try.ntmps32
          go_wp2_with (first
            | (go_at_call 46; (refine (AC.out _ (by repeat (first | exact Below.refl _ _ | (with_reducible assumption) | refine bw_alloc ?_ _ | refine bw_drew ?_))).mono ?_); rintro e w1 ⟨rfl, b1⟩; have H1 := Lib.hid (H0.out.below b1); obtain ⟨t0, t1, t2, t3, t4, t5, t6, q0, q1, q2, q3, q4, q5, q6, q7, f0, f1, f2, f3, f4, f5, f6, f7, r0, r1, r2, r3, r4, r5, r6, r7, g0, g1, g2, g3, g4, g5, g6, g7⟩ := H1.out.facts; have B1 := Lib.hid (below_up ((by repeat (first | exact Below.refl _ _ | (with_reducible assumption) | refine bw_alloc ?_ _ | refine bw_drew ?_)) : Below w.heap.size w _) b1); clear b1)
            | (go_at_call 47; (refine (HC.out _ B1.out).mono ?_); rintro e w2 ⟨rfl, rfl⟩)
            | (go_at_call 48; (refine (US.out _ B1.out).mono ?_); rintro e w3 ⟨rfl, c3, k3⟩; have H3 := Lib.hid (H1.out.turn k3 RL.out); have C3 := Lib.hid c3; obtain ⟨t0, t1, t2, t3, t4, t5, t6, q0, q1, q2, q3, q4, q5, q6, q7, f0, f1, f2, f3, f4, f5, f6, f7, r0, r1, r2, r3, r4, r5, r6, r7, g0, g1, g2, g3, g4, g5, g6, g7⟩ := H3.out.facts; clear c3 k3)
            | (go_at_call 49; (refine (HB.out _).mono ?_); rintro e w4 ⟨rfl, b4⟩; have H4 := Lib.hid (H3.out.below b4); have C4 := Lib.hid (C3.out.below b4); obtain ⟨t0, t1, t2, t3, t4, t5, t6, q0, q1, q2, q3, q4, q5, q6, q7, f0, f1, f2, f3, f4, f5, f6, f7, r0, r1, r2, r3, r4, r5, r6, r7, g0, g1, g2, g3, g4, g5, g6, g7⟩ := H4.out.facts; clear b4)
            | (go_at_call 50; (refine (WI.out _).mono ?_); rintro e w5 ⟨rfl, b5⟩; have H5 := Lib.hid (H4.out.below b5); have C5 := Lib.hid (C4.out.below b5); obtain ⟨t0, t1, t2, t3, t4, t5, t6, q0, q1, q2, q3, q4, q5, q6, q7, f0, f1, f2, f3, f4, f5, f6, f7, r0, r1, r2, r3, r4, r5, r6, r7, g0, g1, g2, g3, g4, g5, g6, g7⟩ := H5.out.facts; clear b5))
          obtain ⟨⟨s0, s1, s2, s3, s4, s5, s6, s7⟩, hC, hT⟩ := ((((((⟨H5.out.low, H5.out.rb, C5.out, BL.out, RL.out⟩ : Outs CT w b r n (putL L s x.id) w5).put 4 (.int .u64 (z 0))).put 5 (.int .u64 (z 1))).put 6 (.int .u64 (z 2))).put 7 (.int .u64 (z 3))).put 0 (.int .i64 (dn + 1))).ends (.int .i64 (dn + 1)) (.int .i64 dm) (.int .i64 db) (.int .i64 rl) (.int .u64 (z 0)) (.int .u64 (z 1)) (.int .u64 (z 2)) (.int .u64 (z 3))
          exact bodyPost_ret (v := .tuple #[.agg #[.int .i64 (dn + 1), .int .i64 dm, .int .i64 (db), .int .i64 rl, .int .u64 (z 0), .int .u64 (z 1), .int .u64 (z 2), .int .u64 (z 3)], .bool false]) (by simp [results, Try.results32, go_sem, s0, s1, s2, s3, s4, s5, s6, s7]) rfl ⟨rfl, hC, hT⟩
        · rw [show workW n L x.id s true rel ⟨dn, dm, db, rl, p⟩ = (⟨dn, dm, rel - 1, wUp rl, p⟩, true) by unfold workW; rw [if_pos ⟨rfl, HS.out⟩, if_pos ⟨hk, hr, hq⟩]]
          unfold StepBack
          dsimp only
          unfold wUp
          rw [hrl]
          rw [hq] at HB
          clear WI hk hq
          generalize wd p = y at *
          go_enter Try.func32, Try.ntmps32
          go_wp2_with (first
            | (go_at_call 46; (refine (AC.out _ (by repeat (first | exact Below.refl _ _ | (with_reducible assumption) | refine bw_alloc ?_ _ | refine bw_drew ?_))).mono ?_); rintro e w1 ⟨rfl, b1⟩; have H1 := Lib.hid (H0.out.below b1); obtain ⟨t0, t1, t2, t3, t4, t5, t6, q0, q1, q2, q3, q4, q5, q6, q7, f0, f1, f2, f3, f4, f5, f6, f7, r0, r1, r2, r3, r4, r5, r6, r7, g0, g1, g2, g3, g4, g5, g6, g7⟩ := H1.out.facts; have B1 := Lib.hid (below_up ((by repeat (first | exact Below.refl _ _ | (with_reducible assumption) | refine bw_alloc ?_ _ | refine bw_drew ?_)) : Below w.heap.size w _) b1); clear b1)
            | (go_at_call 47; (refine (HC.out _ B1.out).mono ?_); rintro e w2 ⟨rfl, rfl⟩)
            | (go_at_call 48; (refine (US.out _ B1.out).mono ?_); rintro e w3 ⟨rfl, c3, k3⟩; have H3 := Lib.hid (H1.out.turn k3 RL.out); have C3 := Lib.hid c3; obtain ⟨t0, t1, t2, t3, t4, t5, t6, q0, q1, q2, q3, q4, q5, q6, q7, f0, f1, f2, f3, f4, f5, f6, f7, r0, r1, r2, r3, r4, r5, r6, r7, g0, g1, g2, g3, g4, g5, g6, g7⟩ := H3.out.facts; clear c3 k3)
            | (go_at_call 49; (refine (HB.out _).mono ?_); rintro e w4 ⟨rfl, b4⟩; have H4 := Lib.hid (H3.out.below b4); have C4 := Lib.hid (C3.out.below b4); obtain ⟨t0, t1, t2, t3, t4, t5, t6, q0, q1, q2, q3, q4, q5, q6, q7, f0, f1, f2, f3, f4, f5, f6, f7, r0, r1, r2, r3, r4, r5, r6, r7, g0, g1, g2, g3, g4, g5, g6, g7⟩ := H4.out.facts; clear b4)
            | (go_at_call 50; (refine (WI.out _).mono ?_); rintro e w5 ⟨rfl, b5⟩; have H5 := Lib.hid (H4.out.below b5); have C5 := Lib.hid (C4.out.below b5); obtain ⟨t0, t1, t2, t3, t4, t5, t6, q0, q1, q2, q3, q4, q5, q6, q7, f0, f1, f2, f3, f4, f5, f6, f7, r0, r1, r2, r3, r4, r5, r6, r7, g0, g1, g2, g3, g4, g5, g6, g7⟩ := H5.out.facts; clear b5))
          obtain ⟨⟨s0, s1, s2, s3, s4, s5, s6, s7⟩, hC, hT⟩ := (((⟨H4.out.low, H4.out.rb, C4.out, BL.out, RL.out⟩ : Outs CT w b r n (putL L s x.id) w4).put 2 (.int .i64 (rel - 1))).put 3 (.int .i64 rl')).ends (.int .i64 dn) (.int .i64 dm) (.int .i64 (rel - 1)) (.int .i64 rl') (.int .u64 (y 0)) (.int .u64 (y 1)) (.int .u64 (y 2)) (.int .u64 (y 3))
          exact bodyPost_ret (v := .tuple #[.agg #[.int .i64 (dn), .int .i64 dm, .int .i64 (rel - 1), .int .i64 rl', .int .u64 (y 0), .int .u64 (y 1), .int .u64 (y 2), .int .u64 (y 3)], .bool true]) (by simp [results, Try.results32, go_sem, s0, s1, s2, s3, s4, s5, s6, s7]) rfl ⟨rfl, hC, hT⟩
    · rw [show workL n L x.id s true = L by unfold workL; rw [if_neg (fun z => hs z.2)]]
      rw [show workW n L x.id s true rel ⟨dn, dm, db, rl, p⟩ = (⟨dn + 1, dm, db, rl, p⟩, false) by unfold workW; rw [if_neg (fun z => hs z.2)]]
      unfold StepBack
      dsimp only
      rw [decide_eq_false hs] at HC
      clear h hf0 hs
      generalize wd p = y at *
      go_enter Try.func32, Try.ntmps32
      go_wp2_with (first
        | (go_at_call 46; (refine (AC.out _ (by repeat (first | exact Below.refl _ _ | (with_reducible assumption) | refine bw_alloc ?_ _ | refine bw_drew ?_))).mono ?_); rintro e w1 ⟨rfl, b1⟩; have H1 := Lib.hid (H0.out.below b1); obtain ⟨t0, t1, t2, t3, t4, t5, t6, q0, q1, q2, q3, q4, q5, q6, q7, f0, f1, f2, f3, f4, f5, f6, f7, r0, r1, r2, r3, r4, r5, r6, r7, g0, g1, g2, g3, g4, g5, g6, g7⟩ := H1.out.facts; have B1 := Lib.hid (below_up ((by repeat (first | exact Below.refl _ _ | (with_reducible assumption) | refine bw_alloc ?_ _ | refine bw_drew ?_)) : Below w.heap.size w _) b1); clear b1)
        | (go_at_call 47; (refine (HC.out _ B1.out).mono ?_); rintro e w2 ⟨rfl, rfl⟩))
      obtain ⟨⟨s0, s1, s2, s3, s4, s5, s6, s7⟩, hC, hT⟩ := ((⟨H1.out.low, H1.out.rb, CH.out.below B1.out, BL.out, RL.out⟩ : Outs CT w b r n L w2).put 0 (.int .i64 (dn + 1))).ends (.int .i64 (dn + 1)) (.int .i64 dm) (.int .i64 db) (.int .i64 rl) (.int .u64 (y 0)) (.int .u64 (y 1)) (.int .u64 (y 2)) (.int .u64 (y 3))
      exact bodyPost_ret (v := .tuple #[.agg #[.int .i64 (dn + 1), .int .i64 dm, .int .i64 (db), .int .i64 rl, .int .u64 (y 0), .int .u64 (y 1), .int .u64 (y 2), .int .u64 (y 3)], .bool false]) (by simp [results, Try.results32, go_sem, s0, s1, s2, s3, s4, s5, s6, s7]) rfl ⟨rfl, hC, hT⟩
  · obtain rfl : u = false := by cases u; rfl; exact absurd rfl hu
    rw [show workL n L x.id s false = L by unfold workL; rw [if_neg (fun z => by cases z.1)]]
    rw [show workW n L x.id s false rel ⟨dn, dm, db, rl, p⟩ = (⟨dn + 1, dm, db, rl, p⟩, false) by unfold workW; rw [if_neg (fun z => by cases z.1)]]
    unfold StepBack
    dsimp only
    clear h hf0 hu HC
    generalize wd p = y at *
    go_enter Try.func32, Try.ntmps32
    go_wp2_with (go_at_call 46; (refine (AC.out _ (by repeat (first | exact Below.refl _ _ | (with_reducible assumption) | refine bw_alloc ?_ _ | refine bw_drew ?_))).mono ?_); rintro e w1 ⟨rfl, b1⟩; have H1 := Lib.hid (H0.out.below b1); obtain ⟨t0, t1, t2, t3, t4, t5, t6, q0, q1, q2, q3, q4, q5, q6, q7, f0, f1, f2, f3, f4, f5, f6, f7, r0, r1, r2, r3, r4, r5, r6, r7, g0, g1, g2, g3, g4, g5, g6, g7⟩ := H1.out.facts; have B1 := Lib.hid (below_up ((by repeat (first | exact Below.refl _ _ | (with_reducible assumption) | refine bw_alloc ?_ _ | refine bw_drew ?_)) : Below w.heap.size w _) b1); clear b1)
    obtain ⟨⟨s0, s1, s2, s3, s4, s5, s6, s7⟩, hC, hT⟩ := ((⟨H1.out.low, H1.out.rb, CH.out.below B1.out, BL.out, RL.out⟩ : Outs CT w b r n L w1).put 0 (.int .i64 (dn + 1))).ends (.int .i64 (dn + 1)) (.int .i64 dm) (.int .i64 db) (.int .i64 rl) (.int .u64 (y 0)) (.int .u64 (y 1)) (.int .u64 (y 2)) (.int .u64 (y 3))
    exact bodyPost_ret (v := .tuple #[.agg #[.int .i64 (dn + 1), .int .i64 dm, .int .i64 (db), .int .i64 rl, .int .u64 (y 0), .int .u64 (y 1), .int .u64 (y 2), .int .u64 (y 3)], .bool false]) (by simp [results, Try.results32, go_sem, s0, s1, s2, s3, s4, s5, s6, s7]) rfl ⟨rfl, hC, hT⟩
end Go.Proofs.Ytlglncnhhgofoaa

/-
  The walk over a tick.
-/
namespace Go.Proofs.Ytlglncnhhgofoaa
open Go.RowKit Go.Maps

set_option maxRecDepth 100000 in
set_option maxHeartbeats 8000000 in
theorem cstep_any (x : TV) (rel dn dm db rl : Int) (p : Nat → Bool) (w : World) {b r n : Nat} {L : Nat → Int} (h : Ch CT w b r n L) (hx : x.ok w) (hm : dm ≤ 9223372036854775807) (hd : db ≤ 9223372036854775807) :
    Calls Try.prog 17 #[.pointer (some ⟨b, 0, none⟩), .agg #[.int .i64 x.id, .int .i64 x.c, .int .i64 x.d, .int .i64 x.t, .int .i64 x.p, .slice x.a1 x.ch.length x.c1, .slice x.a2 x.us.length x.c2], .int .i64 rel, .agg #[.int .i64 dn, .int .i64 dm, .int .i64 db, .int .i64 rl, .int .u64 (wd p 0), .int .u64 (wd p 1), .int .u64 (wd p 2), .int .u64 (wd p 3)]] w (StepBack CT b r n (stepL n L x.id (accOf x dn).1 (accOf x dn).2 rel ⟨dn, dm, db, rl, p⟩) (stepW n L x.id (accOf x dn).1 (accOf x dn).2 rel ⟨dn, dm, db, rl, p⟩) w) := by
  have MS := Lib.hid (fun W => may_step x rel dn dm db rl p W)
  have BL := Lib.hid h.lt.1
  have RL := Lib.hid h.lt.2
  have CH := Lib.hid h
  have H0 := Lib.hid (stepAt_new (fun k => k = r) w x dn dm db rl (wd p))
  obtain ⟨t0, t1, t2, t3, t4, t5, t6, q0, q1, q2, q3, q4, q5, q6, q7, f0, f1, f2, f3, f4, f5, f6, f7, r0, r1, r2, r3, r4, r5, r6, r7, g0, g1, g2, g3, g4, g5, g6, g7⟩ := H0.out.facts
  obtain ⟨rl', hrl⟩ : ∃ rl', IntKind.i64.wrap (rl + 1) = rl' := ⟨_, rfl⟩
  have HRL := Lib.hid hrl
  by_cases hf : Fits x.id rel ⟨dn, dm, db, rl, p⟩
  · have hf5 : 0 ≤ db := hf.2.2.2.2.2
    have u2 : IntKind.i64.wrap (db - 1) = db - 1 := IntWalk.i64_in _ (by omega)
    rw [decide_eq_true hf] at MS
    by_cases hp : 0 < db
    · rw [show stepL n L x.id (accOf x dn).1 (accOf x dn).2 rel ⟨dn, dm, db, rl, p⟩ = L by unfold stepL; rw [if_neg (fun z => z.2 hp)]]
      rw [show stepW n L x.id (accOf x dn).1 (accOf x dn).2 rel ⟨dn, dm, db, rl, p⟩ = (⟨dn, dm, db - 1, wUp rl, p⟩, true) by unfold stepW; rw [if_pos hf, if_pos hp]]
      unfold StepBack
      dsimp only
      unfold wUp
      rw [hrl]
      clear hf h hx
      generalize wd p = y at *
      go_enter Try.func17, Try.ntmps17
      go_wp2_with (go_at_call 31; (refine (MS.out _).mono ?_); rintro e w1 ⟨rfl, b1⟩; have H1 := Lib.hid (H0.out.below b1); obtain ⟨t0, t1, t2, t3, t4, t5, t6, q0, q1, q2, q3, q4, q5, q6, q7, f0, f1, f2, f3, f4, f5, f6, f7, r0, r1, r2, r3, r4, r5, r6, r7, g0, g1, g2, g3, g4, g5, g6, g7⟩ := H1.out.facts; have B1 := Lib.hid (below_up ((by repeat (first | exact Below.refl _ _ | (with_reducible assumption) | refine bw_alloc ?_ _ | refine bw_drew ?_)) : Below w.heap.size w _) b1); clear b1)
      obtain ⟨⟨s0, s1, s2, s3, s4, s5, s6, s7⟩, hC, hT⟩ := (((⟨H1.out.low, H1.out.rb, CH.out.below B1.out, BL.out, RL.out⟩ : Outs CT w b r n L w1).put 2 (.int .i64 (db - 1))).put 3 (.int .i64 rl')).ends (.int .i64 dn) (.int .i64 dm) (.int .i64 (db - 1)) (.int .i64 rl') (.int .u64 (y 0)) (.int .u64 (y 1)) (.int .u64 (y 2)) (.int .u64 (y 3))
      exact bodyPost_ret (v := .tuple #[.agg #[.int .i64 (dn), .int .i64 dm, .int .i64 (db - 1), .int .i64 rl', .int .u64 (y 0), .int .u64 (y 1), .int .u64 (y 2), .int .u64 (y 3)], .bool true]) (by simp [results, Try.results17, go_sem, s0, s1, s2, s3, s4, s5, s6, s7]) rfl ⟨rfl, hC, hT⟩
    · rw [show stepL n L x.id (accOf x dn).1 (accOf x dn).2 rel ⟨dn, dm, db, rl, p⟩ = workL n L x.id (accOf x dn).1 (accOf x dn).2 by unfold stepL; rw [if_pos ⟨hf, hp⟩]]
      rw [show stepW n L x.id (accOf x dn).1 (accOf x dn).2 rel ⟨dn, dm, db, rl, p⟩ = workW n L x.id (accOf x dn).1 (accOf x dn).2 rel ⟨dn, dm, db, rl, p⟩ by unfold stepW; rw [if_pos hf, if_neg hp]]
      have WA := Lib.hid (fun W (hW : Below w.heap.size w W) => work_any x rel dn dm db rl p W (h.below hW) (hx.below hW) hf hm)
      unfold StepBack at *
      generalize workL n L x.id (accOf x dn).1 (accOf x dn).2 = L' at *
      generalize workW n L x.id (accOf x dn).1 (accOf x dn).2 rel ⟨dn, dm, db, rl, p⟩ = oo at *
      obtain ⟨⟨a', b', c', d', p'⟩, fl⟩ := oo
      dsimp only at *
      generalize wd p' = z at *
      clear hf h hx
      generalize wd p = y at *
      go_enter Try.func17, Try.ntmps17
      go_wp2_with (first
        | (go_at_call 31; (refine (MS.out _).mono ?_); rintro e w1 ⟨rfl, b1⟩; have H1 := Lib.hid (H0.out.below b1); obtain ⟨t0, t1, t2, t3, t4, t5, t6, q0, q1, q2, q3, q4, q5, q6, q7, f0, f1, f2, f3, f4, f5, f6, f7, r0, r1, r2, r3, r4, r5, r6, r7, g0, g1, g2, g3, g4, g5, g6, g7⟩ := H1.out.facts; have B1 := Lib.hid (below_up ((by repeat (first | exact Below.refl _ _ | (with_reducible assumption) | refine bw_alloc ?_ _ | refine bw_drew ?_)) : Below w.heap.size w _) b1); clear b1)
        | (go_at_call 32; (refine (WA.out _ B1.out).mono ?_); rintro e w3 ⟨rfl, c3, k3⟩; have H3 := Lib.hid (H1.out.turn k3 RL.out); have C3 := Lib.hid c3; obtain ⟨t0, t1, t2, t3, t4, t5, t6, q0, q1, q2, q3, q4, q5, q6, q7, f0, f1, f2, f3, f4, f5, f6, f7, r0, r1, r2, r3, r4, r5, r6, r7, g0, g1, g2, g3, g4, g5, g6, g7⟩ := H3.out.facts; clear c3 k3))
      obtain ⟨⟨s0, s1, s2, s3, s4, s5, s6, s7⟩, hC, hT⟩ := ((⟨H3.out.low, H3.out.rb, C3.out, BL.out, RL.out⟩ : Outs CT w b r n L' w3)).ends (.int .i64 (a')) (.int .i64 b') (.int .i64 (c')) (.int .i64 d') (.int .u64 (z 0)) (.int .u64 (z 1)) (.int .u64 (z 2)) (.int .u64 (z 3))
      exact bodyPost_ret (v := .tuple #[.agg #[.int .i64 (a'), .int .i64 b', .int .i64 (c'), .int .i64 d', .int .u64 (z 0), .int .u64 (z 1), .int .u64 (z 2), .int .u64 (z 3)], .bool fl]) (by simp [results, Try.results17, go_sem, s0, s1, s2, s3, s4, s5, s6, s7]) rfl ⟨rfl, hC, hT⟩
  · rw [show stepL n L x.id (accOf x dn).1 (accOf x dn).2 rel ⟨dn, dm, db, rl, p⟩ = L by unfold stepL; rw [if_neg (fun z => hf z.1)]]
    rw [show stepW n L x.id (accOf x dn).1 (accOf x dn).2 rel ⟨dn, dm, db, rl, p⟩ = (⟨dn, dm, db, rl, p⟩, false) by unfold stepW; rw [if_neg hf]]
    rw [decide_eq_false hf] at MS
    unfold StepBack
    dsimp only
    clear hf h hx
    generalize wd p = y at *
    go_enter Try.func17, Try.ntmps17
    go_wp2_with (go_at_call 31; (refine (MS.out _).mono ?_); rintro e w1 ⟨rfl, b1⟩; have H1 := Lib.hid (H0.out.below b1); obtain ⟨t0, t1, t2, t3, t4, t5, t6, q0, q1, q2, q3, q4, q5, q6, q7, f0, f1, f2, f3, f4, f5, f6, f7, r0, r1, r2, r3, r4, r5, r6, r7, g0, g1, g2, g3, g4, g5, g6, g7⟩ := H1.out.facts; have B1 := Lib.hid (below_up ((by repeat (first | exact Below.refl _ _ | (with_reducible assumption) | refine bw_alloc ?_ _ | refine bw_drew ?_)) : Below w.heap.size w _) b1); clear b1)
    obtain ⟨⟨s0, s1, s2, s3, s4, s5, s6, s7⟩, hC, hT⟩ := ((⟨H1.out.low, H1.out.rb, CH.out.below B1.out, BL.out, RL.out⟩ : Outs CT w b r n L w1)).ends (.int .i64 dn) (.int .i64 dm) (.int .i64 db) (.int .i64 rl) (.int .u64 (y 0)) (.int .u64 (y 1)) (.int .u64 (y 2)) (.int .u64 (y 3))
    exact bodyPost_ret (v := .tuple #[.agg #[.int .i64 (dn), .int .i64 dm, .int .i64 (db), .int .i64 rl, .int .u64 (y 0), .int .u64 (y 1), .int .u64 (y 2), .int .u64 (y 3)], .bool false]) (by simp [results, Try.results17, go_sem, s0, s1, s2, s3, s4, s5, s6, s7]) rfl ⟨rfl, hC, hT⟩
set_option maxRecDepth 100000 in
set_option maxHeartbeats 4000000 in
theorem cstep_nil (x : TV) (rel dn dm db rl : Int) (y : Nat → Nat) (w : World) :
    Calls Try.prog 17 #[.pointer none, .agg #[.int .i64 x.id, .int .i64 x.c, .int .i64 x.d, .int .i64 x.t, .int .i64 x.p, .slice x.a1 x.ch.length x.c1, .slice x.a2 x.us.length x.c2], .int .i64 rel, .agg #[.int .i64 dn, .int .i64 dm, .int .i64 db, .int .i64 rl, .int .u64 (y 0), .int .u64 (y 1), .int .u64 (y 2), .int .u64 (y 3)]] w fun e w' => e = .returned (.tuple #[.agg #[.int .i64 dn, .int .i64 dm, .int .i64 db, .int .i64 rl, .int .u64 (y 0), .int .u64 (y 1), .int .u64 (y 2), .int .u64 (y 3)], .bool false]) ∧ Below w.heap.size w w' := by
  have H0 := Lib.hid (stepAt_new (fun _ => False) w x dn dm db rl y)
  obtain ⟨t0, t1, t2, t3, t4, t5, t6, q0, q1, q2, q3, q4, q5, q6, q7, f0, f1, f2, f3, f4, f5, f6, f7, r0, r1, r2, r3, r4, r5, r6, r7, g0, g1, g2, g3, g4, g5, g6, g7⟩ := H0.out.facts
  go_enter Try.func17, Try.ntmps17
  go_wp2
  exact bodyPost_ret (v := .tuple #[.agg #[.int .i64 dn, .int .i64 dm, .int .i64 db, .int .i64 rl, .int .u64 (y 0), .int .u64 (y 1), .int .u64 (y 2), .int .u64 (y 3)], .bool false]) (by
    have e := cells8 (heap_alloc_new ((w.alloc (.cells #[.int .i64 x.id, .int .i64 x.c, .int .i64 x.d, .int .i64 x.t, .int .i64 x.p, .slice x.a1 x.ch.length x.c1, .slice x.a2 x.us.length x.c2] TT)).alloc (.cells #[.int .i64 dn, .int .i64 dm, .int .i64 db, .int .i64 rl, .int .u64 (y 0), .int .u64 (y 1), .int .u64 (y 2), .int .u64 (y 3)] WT)) (.cells #[.int .i64 dn, .int .i64 dm, .int .i64 db, .int .i64 rl, .int .u64 (y 0), .int .u64 (y 1), .int .u64 (y 2), .int .u64 (y 3)] WT))
    rw [World.size_alloc, World.size_alloc] at e
    obtain ⟨s0, s1, s2, s3, s4, s5, s6, s7⟩ := e
    clear H0 t0 t1 t2 t3 t4 t5 t6 q0 q1 q2 q3 q4 q5 q6 q7 f0 f1 f2 f3 f4 f5 f6 f7 r0 r1 r2 r3 r4 r5 r6 r7 g0 g1 g2 g3 g4 g5 g6 g7
    simp [results, Try.results17, go_sem, s0, s1, s2, s3, s4, s5, s6, s7]) rfl ⟨rfl, (by repeat (first | exact Below.refl _ _ | (with_reducible assumption) | refine bw_alloc ?_ _ | refine bw_drew ?_))⟩
end Go.Proofs.Ytlglncnhhgofoaa

/-
  The walks over the sets that belong to one, told one by one; a flush.
-/
namespace Go.Proofs.Ytlglncnhhgofoaa
open Go.RowKit Go.Maps Go.Shelf
attribute [local go_sem] Oper.semAt_some

/-! ### all made nobody's -/
theorem clear_ch {w : World} {b r n : Nat} {L : Nat → Int} (h : Ch CT w b r n L) :
    ∃ w', (∀ ty, (Builtin.clear_ #[28] ty #[.slice (some ⟨r, 0, none⟩) n n]).run Try.prog w = .ok (.tuple #[]) w') ∧ Ch CT w' b r n (fun _ => 0) ∧ Turn (fun k => k = r) w w' := by
  obtain ⟨cur, hb, h1, h2⟩ := h.row
  have hz : ∀ w : World, (zeroValue 3).run Try.prog w = .ok (.int .i64 0) w := fun w => by kernel_rfl
  have hzc : Builtin.zeroCells (Value.int .i64 0).cells n = madeCells #[.int .i64 0] n := by
    unfold Builtin.zeroCells madeCells
    simp [Value.cells]
  by_cases hn : n = 0
  · subst hn
    refine ⟨w, fun ty => ?_, ⟨h.str, ⟨cur, hb, h1, fun i hi => by omega⟩, h.ne, h.few, fun _ => by unfold I64; omega⟩, Turn.refl _ _⟩
    simp [Builtin.clear_, run_underlying Try.underlying28]
  obtain ⟨Z, hZ, hzl, hz1, hz2⟩ : ∃ Z : List Value, (Builtin.zeroCells (Value.int .i64 0).cells n).toList = Z ∧ Z.length = n ∧ (∀ v ∈ Z, v.oneCell' = true) ∧ ∀ i, i < n → Z[i]? = some (.int .i64 0) := by
    refine ⟨_, rfl, ?_, ?_, ?_⟩
    · rw [hzc, Array.length_toList, size_madeCells]
    · intro v hv
      rw [hzc] at hv
      obtain ⟨i, hi, e⟩ := List.getElem_of_mem hv
      have hi' : i < n := by rw [Array.length_toList, size_madeCells] at hi; exact hi
      have := made_at hi'
      rw [← Array.getElem?_toList, List.getElem?_eq_getElem hi, e] at this
      cases this; rfl
    · intro i hi
      rw [hzc, Array.getElem?_toList]; exact made_at hi
  have hfit : 0 + 0 + Z.length ≤ cur.size := by omega
  have hst := run_storeCells_at Try.prog r 0 3 Z 0 cur w hb hfit hz1
  have hrow : RowC (w.setRow r (cur.toList.take (0 + 0) ++ Z ++ cur.toList.drop (0 + 0 + Z.length)).toArray) r n (fun _ => 0) := by
    refine ⟨_, setRow_heap w r cur _ 3 (0, 0) hb, ?_, fun i hi => ?_⟩
    · simp; omega
    · have := hz2 i hi
      have hzl' : i < Z.length := by omega
      simp [List.getElem?_append_left hzl', this]
  refine ⟨w.setRow r (cur.toList.take (0 + 0) ++ Z ++ cur.toList.drop (0 + 0 + Z.length)).toArray, fun ty => ?_, ⟨(setRow_other w r b _ h.ne).trans h.str, hrow, h.ne, h.few, fun _ => by unfold I64; omega⟩, ⟨rfl, rfl, rfl, by simp, fun k hk hne => setRow_other w r k _ hne⟩⟩
  obtain ⟨m, hm⟩ : ∃ m, n = m + 1 := ⟨n - 1, by omega⟩
  rw [hm] at hZ ⊢
  simp [Builtin.clear_, run_underlying Try.underlying28, hz, hZ, hst]
end Go.Proofs.Ytlglncnhhgofoaa

/-
  Two works held against each other; is the program awake.
-/
namespace Go.Proofs.Ytlglncnhhgofoaa
open Go.RowKit Go.Maps

theorem workGuard : Try.prog.eqGuardType Try.prog.depth 49 = false := by kernel_rfl
theorem workFields : Try.prog.underlying 49 = some (.struct (Try.prog.fieldsOf 49)) := by kernel_rfl
theorem workStood : Try.prog.stoodInHeld 49 = false := by kernel_rfl
theorem bits_same (d : Nat) (x0 x1 x2 x3 : Nat) (w : World) : (Op.equalIn (d + 1 + 1) 47 (.agg #[.int .u64 x0, .int .u64 x1, .int .u64 x2, .int .u64 x3]) (.agg #[.int .u64 x0, .int .u64 x1, .int .u64 x2, .int .u64 x3])).run Try.prog w = .ok true w := by
  rw [set_eq_d, eq4_self]
theorem part_bits (a b c d : Int) (x0 x1 x2 x3 : Nat) (w : World) : (part 47 #[.int .i64 a, .int .i64 b, .int .i64 c, .int .i64 d, .int .u64 x0, .int .u64 x1, .int .u64 x2, .int .u64 x3] 4).run Try.prog w = .ok (.agg #[.int .u64 x0, .int .u64 x1, .int .u64 x2, .int .u64 x3]) w := by kernel_rfl
set_option maxHeartbeats 1000000 in
theorem work_same (a b c d : Int) (x : Nat → Nat) (w : World) : (Op.equalIn 10000 49 (.agg #[.int .i64 a, .int .i64 b, .int .i64 c, .int .i64 d, .int .u64 (x 0), .int .u64 (x 1), .int .u64 (x 2), .int .u64 (x 3)]) (.agg #[.int .i64 a, .int .i64 b, .int .i64 c, .int .i64 d, .int .u64 (x 0), .int .u64 (x 1), .int .u64 (x 2), .int .u64 (x 3)])).run Try.prog w = .ok true w := by
  have u1 := Try.underlying2
  have h1 : ∀ (y : Int) (w : World), (Op.equalIn 9999 2 (.int .i64 y) (.int .i64 y)).run Try.prog w = .ok true w := fun y w => by
    rw [show (9999 : Nat) = 9998 + 1 from rfl, run_equalIn_int w 9998 2 .i64 .i64 y y u1]; simp
  have h2 : ∀ w : World, (Op.equalIn 9999 47 (.agg #[.int .u64 (x 0), .int .u64 (x 1), .int .u64 (x 2), .int .u64 (x 3)]) (.agg #[.int .u64 (x 0), .int .u64 (x 1), .int .u64 (x 2), .int .u64 (x 3)])).run Try.prog w = .ok true w := fun w => bits_same 9997 _ _ _ _ w
  have p0 : ∀ w : World, (part 2 (#[.int .i64 a, .int .i64 b, .int .i64 c, .int .i64 d, .int .u64 (x 0), .int .u64 (x 1), .int .u64 (x 2), .int .u64 (x 3)]) 0).run Try.prog w = .ok (.int .i64 a) w := fun w => by kernel_rfl
  have p1 : ∀ w : World, (part 2 (#[.int .i64 a, .int .i64 b, .int .i64 c, .int .i64 d, .int .u64 (x 0), .int .u64 (x 1), .int .u64 (x 2), .int .u64 (x 3)]) 1).run Try.prog w = .ok (.int .i64 b) w := fun w => by kernel_rfl
  have p2 : ∀ w : World, (part 2 (#[.int .i64 a, .int .i64 b, .int .i64 c, .int .i64 d, .int .u64 (x 0), .int .u64 (x 1), .int .u64 (x 2), .int .u64 (x 3)]) 2).run Try.prog w = .ok (.int .i64 c) w := fun w => by kernel_rfl
  have p3 : ∀ w : World, (part 2 (#[.int .i64 a, .int .i64 b, .int .i64 c, .int .i64 d, .int .u64 (x 0), .int .u64 (x 1), .int .u64 (x 2), .int .u64 (x 3)]) 3).run Try.prog w = .ok (.int .i64 d) w := fun w => by kernel_rfl
  have p4 := fun w => part_bits a b c d (x 0) (x 1) (x 2) (x 3) w
  rw [show (10000 : Nat) = 9999 + 1 from rfl, run_equalIn_struct w 9999 _ _ _ workFields workStood]
  simp only [Program.fieldsOf, Try.underlying49]
  simp [Op.eqFields, Sem.run_bind, p0, p1, p2, p3, p4, h1, h2, Result.andThen_ok]

theorem work_eql (a b c d : Int) (x : Nat → Nat) (w : World) : (binOp .eql 49 (.agg #[.int .i64 a, .int .i64 b, .int .i64 c, .int .i64 d, .int .u64 (x 0), .int .u64 (x 1), .int .u64 (x 2), .int .u64 (x 3)]) (.agg #[.int .i64 a, .int .i64 b, .int .i64 c, .int .i64 d, .int .u64 (x 0), .int .u64 (x 1), .int .u64 (x 2), .int .u64 (x 3)])).run Try.prog w = .ok (.bool true) w := by
  rw [run_eql_struct, work_same]; rfl
theorem bitsGuard : Try.prog.eqGuardType Try.prog.depth 47 = false := by kernel_rfl
theorem bits_eql (x0 x1 x2 x3 y0 y1 y2 y3 : Nat) (w : World) : (binOp .eql 47 (.agg #[.int .u64 x0, .int .u64 x1, .int .u64 x2, .int .u64 x3]) (.agg #[.int .u64 y0, .int .u64 y1, .int .u64 y2, .int .u64 y3])).run Try.prog w = .ok (.bool (eq4 x0 x1 x2 x3 y0 y1 y2 y3)) w := by
  rw [run_eql_struct, set_eq]; rfl
theorem bits_neq (x0 x1 x2 x3 y0 y1 y2 y3 : Nat) (w : World) : (binOp .neq 47 (.agg #[.int .u64 x0, .int .u64 x1, .int .u64 x2, .int .u64 x3]) (.agg #[.int .u64 y0, .int .u64 y1, .int .u64 y2, .int .u64 y3])).run Try.prog w = .ok (.bool (!eq4 x0 x1 x2 x3 y0 y1 y2 y3)) w := by
  rw [run_neq_struct, set_eq]; rfl
theorem none_eql (w : World) : (binOp .eql 47 (.agg #[.int .u64 0, .int .u64 0, .int .u64 0, .int .u64 0]) (.agg #[.int .u64 0, .int .u64 0, .int .u64 0, .int .u64 0])).run Try.prog w = .ok (.bool true) w := bits_eql 0 0 0 0 0 0 0 0 w
theorem none_neq (w : World) : (binOp .neq 47 (.agg #[.int .u64 0, .int .u64 0, .int .u64 0, .int .u64 0]) (.agg #[.int .u64 0, .int .u64 0, .int .u64 0, .int .u64 0])).run Try.prog w = .ok (.bool false) w := bits_neq 0 0 0 0 0 0 0 0 w
theorem work_neq (a b c d : Int) (x : Nat → Nat) (w : World) : (binOp .neq 49 (.agg #[.int .i64 a, .int .i64 b, .int .i64 c, .int .i64 d, .int .u64 (x 0), .int .u64 (x 1), .int .u64 (x 2), .int .u64 (x 3)]) (.agg #[.int .i64 a, .int .i64 b, .int .i64 c, .int .i64 d, .int .u64 (x 0), .int .u64 (x 1), .int .u64 (x 2), .int .u64 (x 3)])).run Try.prog w = .ok (.bool false) w := by
  rw [run_neq_struct, work_same]; rfl

end Go.Proofs.Ytlglncnhhgofoaa

/-
  A system, a cache and a row of works in memory; the start of the statements that step works.
-/
namespace Go.Proofs.Ytlglncnhhgofoaa
open Go.RowKit Go.Maps

/-- A system in a box, a cache, a row of works: all newer than w5. -/
structure TickAt (T : TypeId) (m : Nat) (w5 : World) (s r : Int) (a5 : Option Addr) (N c5 : Nat) (b rr n : Nat) (Lc : Nat → Int) (g2 : Nat) (f : Nat → WK) (w : World) : Prop where
  low : Below w5.heap.size w5 w
  sb : w.heap[w5.heap.size]? = some (.cells #[.int .i64 s, .int .i64 r, .slice a5 N c5] 27 (0, 0))
  ch : Ch CT w b rr n Lc
  ar : Arr T w g2 m f
  lb : w5.heap.size < b
  lr : w5.heap.size < rr
  lg : w5.heap.size < g2
  gb : g2 ≠ b
  gr : g2 ≠ rr
theorem TickAt.below {T : TypeId} {m : Nat} {w5 : World} {s r : Int} {a5 : Option Addr} {N c5 b rr n : Nat} {Lc : Nat → Int} {g2 : Nat} {f : Nat → WK} {w w' : World} (h : TickAt T m w5 s r a5 N c5 b rr n Lc g2 f w) (hb : Below w.heap.size w w') : TickAt T m w5 s r a5 N c5 b rr n Lc g2 f w' :=
  ⟨below_up h.low hb, kept_obj hb h.sb, h.ch.below hb, h.ar.below hb, h.lb, h.lr, h.lg, h.gb, h.gr⟩
theorem TickAt.turn {T : TypeId} {m : Nat} {w5 : World} {s r : Int} {a5 : Option Addr} {N c5 b rr n : Nat} {Lc Lc' : Nat → Int} {g2 : Nat} {f : Nat → WK} {w w' : World} (h : TickAt T m w5 s r a5 N c5 b rr n Lc g2 f w) (ht : Turn (fun k => k = rr) w w') (hc : Ch CT w' b rr n Lc') : TickAt T m w5 s r a5 N c5 b rr n Lc' g2 f w' :=
  ⟨h.low.trans (ht.below (B := w5.heap.size) h.low.size (fun i q => by subst q; exact Nat.le_of_lt h.lr)), ht.obj h.sb (Nat.ne_of_lt h.lr), hc, h.ar.turn ht h.gr, h.lb, h.lr, h.lg, h.gb, h.gr⟩
theorem TickAt.congr {T : TypeId} {m : Nat} {w5 : World} {s r : Int} {a5 : Option Addr} {N c5 b rr n : Nat} {Lc : Nat → Int} {g2 : Nat} {f f' : Nat → WK} {w : World} (h : TickAt T m w5 s r a5 N c5 b rr n Lc g2 f w) (he : ∀ k, k < m → f' k = f k) : TickAt T m w5 s r a5 N c5 b rr n Lc g2 f' w :=
  ⟨h.low, h.sb, h.ch, h.ar.congr he, h.lb, h.lr, h.lg, h.gb, h.gr⟩
theorem TickAt.new {T : TypeId} {m : Nat} {w5 w w' : World} {s r : Int} {a5 : Option Addr} {N c5 b rr n : Nat} {Lc : Nat → Int} {f : Nat → WK} (low : Below w5.heap.size w5 w) (sb : w.heap[w5.heap.size]? = some (.cells #[.int .i64 s, .int .i64 r, .slice a5 N c5] 27 (0, 0))) (hc : Ch CT w b rr n Lc) (lb : w5.heap.size < b) (lr : w5.heap.size < rr) (hb : Below w.heap.size w w') (ha : Arr T w' w.heap.size m f) :
    TickAt T m w5 s r a5 N c5 b rr n Lc w.heap.size f w' :=
  ⟨below_up low hb, kept_obj hb sb, hc.below hb, ha, lb, lr, lt_of_block sb, (Nat.ne_of_lt hc.lt.1).symm, (Nat.ne_of_lt hc.lt.2).symm⟩
theorem TickAt.set {T : TypeId} {m : Nat} {w5 : World} {s r : Int} {a5 : Option Addr} {N c5 b rr n : Nat} {Lc : Nat → Int} {g2 : Nat} {f : Nat → WK} {w : World} (h : TickAt T m w5 s r a5 N c5 b rr n Lc g2 f w) {k : Nat} (hk : k < m) (x : WK) :
    TickAt T m w5 s r a5 N c5 b rr n Lc g2 (setW f k x) ((((((((w.setCell ⟨g2, k * 8, none⟩ (.int .i64 x.dn)).setCell ⟨g2, k * 8 + 1, none⟩ (.int .i64 x.dm)).setCell ⟨g2, k * 8 + 2, none⟩ (.int .i64 x.db)).setCell ⟨g2, k * 8 + 3, none⟩ (.int .i64 x.rl)).setCell ⟨g2, k * 8 + 4, none⟩ (.int .u64 (wd x.sn 0))).setCell ⟨g2, k * 8 + 5, none⟩ (.int .u64 (wd x.sn 1))).setCell ⟨g2, k * 8 + 6, none⟩ (.int .u64 (wd x.sn 2))).setCell ⟨g2, k * 8 + 7, none⟩ (.int .u64 (wd x.sn 3))) := by
  have hs : ∀ (o : Nat) (v : Value) (w : World), Below w5.heap.size w5 w → Below w5.heap.size w5 (w.setCell ⟨g2, o, none⟩ v) := fun o v w hw => hw.setCell (p := ⟨g2, o, none⟩) (Nat.le_of_lt h.lg) v
  have hf : ∀ (o : Nat) (v : Value) (w : World), w.heap[w5.heap.size]? = some (.cells #[.int .i64 s, .int .i64 r, .slice a5 N c5] 27 (0, 0)) → (w.setCell ⟨g2, o, none⟩ v).heap[w5.heap.size]? = some (.cells #[.int .i64 s, .int .i64 r, .slice a5 N c5] 27 (0, 0)) := fun o v w hw => (blk_far (a := ⟨g2, o, none⟩) (Nat.ne_of_lt h.lg) v).trans hw
  have hc : ∀ (o : Nat) (v : Value) (w : World), Ch CT w b rr n Lc → Ch CT (w.setCell ⟨g2, o, none⟩ v) b rr n Lc := fun o v w hw => by
    obtain ⟨cur, h1, h2, h3⟩ := hw.row
    exact ⟨(blk_far (a := ⟨g2, o, none⟩) h.gb.symm v).trans hw.str, ⟨cur, (blk_far (a := ⟨g2, o, none⟩) h.gr.symm v).trans h1, h2, h3⟩, hw.ne, hw.few, hw.wf⟩
  exact ⟨hs _ _ _ (hs _ _ _ (hs _ _ _ (hs _ _ _ (hs _ _ _ (hs _ _ _ (hs _ _ _ (hs _ _ _ (h.low)))))))), hf _ _ _ (hf _ _ _ (hf _ _ _ (hf _ _ _ (hf _ _ _ (hf _ _ _ (hf _ _ _ (hf _ _ _ (h.sb)))))))), hc _ _ _ (hc _ _ _ (hc _ _ _ (hc _ _ _ (hc _ _ _ (hc _ _ _ (hc _ _ _ (hc _ _ _ (h.ch)))))))), h.ar.set hk x, h.lb, h.lr, h.lg, h.gb, h.gr⟩
theorem TickAt.far {T : TypeId} {m : Nat} {w5 : World} {s r : Int} {a5 : Option Addr} {N c5 b rr n : Nat} {Lc : Nat → Int} {g2 : Nat} {f : Nat → WK} {w : World} (h : TickAt T m w5 s r a5 N c5 b rr n Lc g2 f w) {g : Nat} (hg : w5.heap.size < g) (hb : g ≠ b) (hr : g ≠ rr) (h2 : g ≠ g2) (o : Nat) (v : Value) :
    TickAt T m w5 s r a5 N c5 b rr n Lc g2 f (w.setCell ⟨g, o, none⟩ v) := by
  obtain ⟨cur, h3, h4, h5⟩ := h.ch.row
  exact ⟨h.low.setCell (p := ⟨g, o, none⟩) (Nat.le_of_lt hg) v, (blk_far (a := ⟨g, o, none⟩) (Nat.ne_of_lt hg) v).trans h.sb, ⟨(blk_far (a := ⟨g, o, none⟩) hb.symm v).trans h.ch.str, ⟨cur, (blk_far (a := ⟨g, o, none⟩) hr.symm v).trans h3, h4, h5⟩, h.ch.ne, h.ch.few, h.ch.wf⟩, h.ar.far h2.symm v, h.lb, h.lr, h.lg, h.gb, h.gr⟩
/-- A work of one's own, stored in a new box. -/
theorem TickAt.put {T : TypeId} {m : Nat} {w5 : World} {s r : Int} {a5 : Option Addr} {N c5 b rr n : Nat} {Lc Lc' : Nat → Int} {g2 : Nat} {f : Nat → WK} {w w' : World} (h : TickAt T m w5 s r a5 N c5 b rr n Lc g2 f w) (ht : Turn (fun k => k = rr) w w') (hc : Ch CT w' b rr n Lc') {z0 z1 z2 z3 z4 z5 z6 z7 : Value} (hq : w'.heap[w.heap.size]? = some (.cells #[z0, z1, z2, z3, z4, z5, z6, z7] WT (0, 0))) (y0 y1 y2 y3 y4 y5 y6 y7 : Value) :
    TickAt T m w5 s r a5 N c5 b rr n Lc' g2 f ((((((((w'.setCell ⟨w.heap.size, 0, none⟩ y0).setCell ⟨w.heap.size, 1, none⟩ y1).setCell ⟨w.heap.size, 2, none⟩ y2).setCell ⟨w.heap.size, 3, none⟩ y3).setCell ⟨w.heap.size, 4, none⟩ y4).setCell ⟨w.heap.size, 5, none⟩ y5).setCell ⟨w.heap.size, 6, none⟩ y6).setCell ⟨w.heap.size, 7, none⟩ y7) ∧ ((((((((w'.setCell ⟨w.heap.size, 0, none⟩ y0).setCell ⟨w.heap.size, 1, none⟩ y1).setCell ⟨w.heap.size, 2, none⟩ y2).setCell ⟨w.heap.size, 3, none⟩ y3).setCell ⟨w.heap.size, 4, none⟩ y4).setCell ⟨w.heap.size, 5, none⟩ y5).setCell ⟨w.heap.size, 6, none⟩ y6).setCell ⟨w.heap.size, 7, none⟩ y7).heap[w.heap.size]? = some (.cells #[y0, y1, y2, y3, y4, y5, y6, y7] WT (0, 0)) := by
  have h1 := h.turn ht hc
  have l0 := lt_of_block h.sb
  have l1 := h.ch.lt
  have l2 := h.ar.lt
  have key : ∀ (o : Nat) (v : Value) (x : World), TickAt T m w5 s r a5 N c5 b rr n Lc' g2 f x → TickAt T m w5 s r a5 N c5 b rr n Lc' g2 f (x.setCell ⟨w.heap.size, o, none⟩ v) := fun o v x hx => hx.far (by omega) (by omega) (by omega) (by omega) o v
  exact ⟨key _ _ _ (key _ _ _ (key _ _ _ (key _ _ _ (key _ _ _ (key _ _ _ (key _ _ _ (key _ _ _ (h1)))))))), box_set8 hq y0 y1 y2 y3 y4 y5 y6 y7⟩
end Go.Proofs.Ytlglncnhhgofoaa

/-
  What the walk over the costs of preemptions carries: its boxes; a job's ticks beside others'.
-/
namespace Go.Proofs.Ytlglncnhhgofoaa
open Go.RowKit Go.Maps

abbrev AT6 : TypeId := 50
/-- The boxes of the statement: a system, a cache, others' works; a task, its work. -/
structure HoldAt (w5 : World) (s r : Int) (a5 : Option Addr) (N c5 b rr n : Nat) (Lc : Nat → Int) (g2 : Nat) (f : Nat → WK) (gt : Nat) (T : TV) (gw : Nat) (k : WK) (w : World) : Prop where
  t : TickAt AT6 6 w5 s r a5 N c5 b rr n Lc g2 f w
  tb : w.heap[gt]? = some (.cells #[.int .i64 T.id, .int .i64 T.c, .int .i64 T.d, .int .i64 T.t, .int .i64 T.p, .slice T.a1 T.ch.length T.c1, .slice T.a2 T.us.length T.c2] TT (0, 0))
  wb : w.heap[gw]? = some (.cells #[.int .i64 k.dn, .int .i64 k.dm, .int .i64 k.db, .int .i64 k.rl, .int .u64 (wd k.sn 0), .int .u64 (wd k.sn 1), .int .u64 (wd k.sn 2), .int .u64 (wd k.sn 3)] WT (0, 0))
  t1 : w5.heap.size < gt
  t2 : gt ≠ b
  t3 : gt ≠ rr
  t4 : gt ≠ g2
  w1 : w5.heap.size < gw
  w2 : gw ≠ b
  w3 : gw ≠ rr
  w4 : gw ≠ g2
  wt : gw ≠ gt
theorem HoldAt.below {w5 : World} {s r : Int} {a5 : Option Addr} {N c5 b rr n : Nat} {Lc : Nat → Int} {g2 : Nat} {f : Nat → WK} {gt : Nat} {T : TV} {gw : Nat} {k : WK} {w w' : World} (h : HoldAt w5 s r a5 N c5 b rr n Lc g2 f gt T gw k w) (hb : Below w.heap.size w w') : HoldAt w5 s r a5 N c5 b rr n Lc g2 f gt T gw k w' :=
  ⟨h.t.below hb, kept_obj hb h.tb, kept_obj hb h.wb, h.t1, h.t2, h.t3, h.t4, h.w1, h.w2, h.w3, h.w4, h.wt⟩
theorem HoldAt.turn {w5 : World} {s r : Int} {a5 : Option Addr} {N c5 b rr n : Nat} {Lc : Nat → Int} {g2 : Nat} {f : Nat → WK} {gt : Nat} {T : TV} {gw : Nat} {k : WK} {Lc' : Nat → Int} {w w' : World} (h : HoldAt w5 s r a5 N c5 b rr n Lc g2 f gt T gw k w) (ht : Turn (fun k => k = rr) w w') (hc : Ch CT w' b rr n Lc') : HoldAt w5 s r a5 N c5 b rr n Lc' g2 f gt T gw k w' :=
  ⟨h.t.turn ht hc, ht.obj h.tb h.t3, ht.obj h.wb h.w3, h.t1, h.t2, h.t3, h.t4, h.w1, h.w2, h.w3, h.w4, h.wt⟩
theorem HoldAt.congr {w5 : World} {s r : Int} {a5 : Option Addr} {N c5 b rr n : Nat} {Lc : Nat → Int} {g2 : Nat} {f : Nat → WK} {gt : Nat} {T : TV} {gw : Nat} {k : WK} {f' : Nat → WK} {w : World} (h : HoldAt w5 s r a5 N c5 b rr n Lc g2 f gt T gw k w) (he : ∀ k, k < 6 → f' k = f k) : HoldAt w5 s r a5 N c5 b rr n Lc g2 f' gt T gw k w :=
  ⟨h.t.congr he, h.tb, h.wb, h.t1, h.t2, h.t3, h.t4, h.w1, h.w2, h.w3, h.w4, h.wt⟩
/-- Another one's work, stored. -/
theorem HoldAt.set {w5 : World} {s r : Int} {a5 : Option Addr} {N c5 b rr n : Nat} {Lc : Nat → Int} {g2 : Nat} {f : Nat → WK} {gt : Nat} {T : TV} {gw : Nat} {k : WK} {w : World} (h : HoldAt w5 s r a5 N c5 b rr n Lc g2 f gt T gw k w) {j : Nat} (hj : j < 6) (x : WK) : HoldAt w5 s r a5 N c5 b rr n Lc g2 (setW f j x) gt T gw k ((((((((w.setCell ⟨g2, j * 8, none⟩ (.int .i64 x.dn)).setCell ⟨g2, j * 8 + 1, none⟩ (.int .i64 x.dm)).setCell ⟨g2, j * 8 + 2, none⟩ (.int .i64 x.db)).setCell ⟨g2, j * 8 + 3, none⟩ (.int .i64 x.rl)).setCell ⟨g2, j * 8 + 4, none⟩ (.int .u64 (wd x.sn 0))).setCell ⟨g2, j * 8 + 5, none⟩ (.int .u64 (wd x.sn 1))).setCell ⟨g2, j * 8 + 6, none⟩ (.int .u64 (wd x.sn 2))).setCell ⟨g2, j * 8 + 7, none⟩ (.int .u64 (wd x.sn 3))) := by
  refine ⟨h.t.set hj x, ?_, ?_, h.t1, h.t2, h.t3, h.t4, h.w1, h.w2, h.w3, h.w4, h.wt⟩
  · have hf : ∀ (o : Nat) (v : Value) (w : World), w.heap[gt]? = some (.cells #[.int .i64 T.id, .int .i64 T.c, .int .i64 T.d, .int .i64 T.t, .int .i64 T.p, .slice T.a1 T.ch.length T.c1, .slice T.a2 T.us.length T.c2] TT (0, 0)) → (w.setCell ⟨g2, o, none⟩ v).heap[gt]? = some (.cells #[.int .i64 T.id, .int .i64 T.c, .int .i64 T.d, .int .i64 T.t, .int .i64 T.p, .slice T.a1 T.ch.length T.c1, .slice T.a2 T.us.length T.c2] TT (0, 0)) := fun o v w hw => (blk_far (a := ⟨g2, o, none⟩) h.t4 v).trans hw
    exact hf _ _ _ (hf _ _ _ (hf _ _ _ (hf _ _ _ (hf _ _ _ (hf _ _ _ (hf _ _ _ (hf _ _ _ h.tb)))))))
  · have hf : ∀ (o : Nat) (v : Value) (w : World), w.heap[gw]? = some (.cells #[.int .i64 k.dn, .int .i64 k.dm, .int .i64 k.db, .int .i64 k.rl, .int .u64 (wd k.sn 0), .int .u64 (wd k.sn 1), .int .u64 (wd k.sn 2), .int .u64 (wd k.sn 3)] WT (0, 0)) → (w.setCell ⟨g2, o, none⟩ v).heap[gw]? = some (.cells #[.int .i64 k.dn, .int .i64 k.dm, .int .i64 k.db, .int .i64 k.rl, .int .u64 (wd k.sn 0), .int .u64 (wd k.sn 1), .int .u64 (wd k.sn 2), .int .u64 (wd k.sn 3)] WT (0, 0)) := fun o v w hw => (blk_far (a := ⟨g2, o, none⟩) h.w4 v).trans hw
    exact hf _ _ _ (hf _ _ _ (hf _ _ _ (hf _ _ _ (hf _ _ _ (hf _ _ _ (hf _ _ _ (hf _ _ _ h.wb)))))))
/-- Its own work, stored. -/
theorem HoldAt.own {w5 : World} {s r : Int} {a5 : Option Addr} {N c5 b rr n : Nat} {Lc : Nat → Int} {g2 : Nat} {f : Nat → WK} {gt : Nat} {T : TV} {gw : Nat} {k : WK} {w : World} (h : HoldAt w5 s r a5 N c5 b rr n Lc g2 f gt T gw k w) (x : WK) : HoldAt w5 s r a5 N c5 b rr n Lc g2 f gt T gw x ((((((((w.setCell ⟨gw, 0, none⟩ (.int .i64 x.dn)).setCell ⟨gw, 1, none⟩ (.int .i64 x.dm)).setCell ⟨gw, 2, none⟩ (.int .i64 x.db)).setCell ⟨gw, 3, none⟩ (.int .i64 x.rl)).setCell ⟨gw, 4, none⟩ (.int .u64 (wd x.sn 0))).setCell ⟨gw, 5, none⟩ (.int .u64 (wd x.sn 1))).setCell ⟨gw, 6, none⟩ (.int .u64 (wd x.sn 2))).setCell ⟨gw, 7, none⟩ (.int .u64 (wd x.sn 3))) := by
  have key : ∀ (o : Nat) (v : Value) (w : World), TickAt AT6 6 w5 s r a5 N c5 b rr n Lc g2 f w → TickAt AT6 6 w5 s r a5 N c5 b rr n Lc g2 f (w.setCell ⟨gw, o, none⟩ v) := fun o v w hw => hw.far h.w1 h.w2 h.w3 h.w4 o v
  have hf : ∀ (o : Nat) (v : Value) (w : World), w.heap[gt]? = some (.cells #[.int .i64 T.id, .int .i64 T.c, .int .i64 T.d, .int .i64 T.t, .int .i64 T.p, .slice T.a1 T.ch.length T.c1, .slice T.a2 T.us.length T.c2] TT (0, 0)) → (w.setCell ⟨gw, o, none⟩ v).heap[gt]? = some (.cells #[.int .i64 T.id, .int .i64 T.c, .int .i64 T.d, .int .i64 T.t, .int .i64 T.p, .slice T.a1 T.ch.length T.c1, .slice T.a2 T.us.length T.c2] TT (0, 0)) := fun o v w hw => (blk_far (a := ⟨gw, o, none⟩) h.wt.symm v).trans hw
  exact ⟨key _ _ _ (key _ _ _ (key _ _ _ (key _ _ _ (key _ _ _ (key _ _ _ (key _ _ _ (key _ _ _ h.t))))))), hf _ _ _ (hf _ _ _ (hf _ _ _ (hf _ _ _ (hf _ _ _ (hf _ _ _ (hf _ _ _ (hf _ _ _ h.tb))))))), box_set8 h.wb (.int .i64 x.dn) (.int .i64 x.dm) (.int .i64 x.db) (.int .i64 x.rl) (.int .u64 (wd x.sn 0)) (.int .u64 (wd x.sn 1)) (.int .u64 (wd x.sn 2)) (.int .u64 (wd x.sn 3)), h.t1, h.t2, h.t3, h.t4, h.w1, h.w2, h.w3, h.w4, h.wt⟩
/-- A work in a box of its own, behind a tick. -/
theorem HoldAt.put {w5 : World} {s r : Int} {a5 : Option Addr} {N c5 b rr n : Nat} {Lc : Nat → Int} {g2 : Nat} {f : Nat → WK} {gt : Nat} {T : TV} {gw : Nat} {k : WK} {Lc' : Nat → Int} {w w' : World} (h : HoldAt w5 s r a5 N c5 b rr n Lc g2 f gt T gw k w) (ht : Turn (fun k => k = rr) w w') (hc : Ch CT w' b rr n Lc') {z0 z1 z2 z3 z4 z5 z6 z7 : Value} (hq : w'.heap[w.heap.size]? = some (.cells #[z0, z1, z2, z3, z4, z5, z6, z7] WT (0, 0))) (y0 y1 y2 y3 y4 y5 y6 y7 : Value) :
    HoldAt w5 s r a5 N c5 b rr n Lc' g2 f gt T gw k ((((((((w'.setCell ⟨w.heap.size, 0, none⟩ y0).setCell ⟨w.heap.size, 1, none⟩ y1).setCell ⟨w.heap.size, 2, none⟩ y2).setCell ⟨w.heap.size, 3, none⟩ y3).setCell ⟨w.heap.size, 4, none⟩ y4).setCell ⟨w.heap.size, 5, none⟩ y5).setCell ⟨w.heap.size, 6, none⟩ y6).setCell ⟨w.heap.size, 7, none⟩ y7) ∧ ((((((((w'.setCell ⟨w.heap.size, 0, none⟩ y0).setCell ⟨w.heap.size, 1, none⟩ y1).setCell ⟨w.heap.size, 2, none⟩ y2).setCell ⟨w.heap.size, 3, none⟩ y3).setCell ⟨w.heap.size, 4, none⟩ y4).setCell ⟨w.heap.size, 5, none⟩ y5).setCell ⟨w.heap.size, 6, none⟩ y6).setCell ⟨w.heap.size, 7, none⟩ y7).heap[w.heap.size]? = some (.cells #[y0, y1, y2, y3, y4, y5, y6, y7] WT (0, 0)) := by
  have h1 := h.turn ht hc
  have l1 := lt_of_block h.tb
  have l2 := lt_of_block h.wb
  obtain ⟨p1, p2⟩ := h.t.put ht hc hq y0 y1 y2 y3 y4 y5 y6 y7
  have hf : ∀ (g : Nat) (ob : Obj) (hg : g < w.heap.size) (o : Nat) (v : Value) (w'' : World), w''.heap[g]? = some ob → (w''.setCell ⟨w.heap.size, o, none⟩ v).heap[g]? = some ob := fun g ob hg o v w'' hw => (blk_far (a := ⟨w.heap.size, o, none⟩) (Nat.ne_of_lt hg) v).trans hw
  refine ⟨⟨p1, ?_, ?_, h.t1, h.t2, h.t3, h.t4, h.w1, h.w2, h.w3, h.w4, h.wt⟩, p2⟩
  · exact hf _ _ l1 _ _ _ (hf _ _ l1 _ _ _ (hf _ _ l1 _ _ _ (hf _ _ l1 _ _ _ (hf _ _ l1 _ _ _ (hf _ _ l1 _ _ _ (hf _ _ l1 _ _ _ (hf _ _ l1 _ _ _ h1.tb)))))))
  · exact hf _ _ l2 _ _ _ (hf _ _ l2 _ _ _ (hf _ _ l2 _ _ _ (hf _ _ l2 _ _ _ (hf _ _ l2 _ _ _ (hf _ _ l2 _ _ _ (hf _ _ l2 _ _ _ (hf _ _ l2 _ _ _ h1.wb)))))))

/-! ### others' works -/
/-- How another one's work may stand. -/
structure OInv (c : Int) (k : WK) : Prop where
  d0 : 0 ≤ k.dn
  dm : k.dm = 0 ∨ k.dm = c
  b1 : k.db ≤ 1000
theorem oinv_none (c : Int) : OInv c noWork := ⟨Int.le_refl _, .inl rfl, by show (0 : Int) ≤ 1000; omega⟩
theorem oinv_fresh (c : Int) : OInv c (freshW c) := ⟨Int.le_refl _, .inr rfl, by show (0 : Int) ≤ 1000; omega⟩
theorem OInv.step {c : Int} {k : WK} (h : OInv c k) {rel : Int} (hr : rel ≤ 1000) (n : Nat) (L : Nat → Int) (id s : Int) (u : Bool) : OInv c (stepW n L id s u rel k).1 := by
  have h0 := h.d0; have h1 := h.dm; have h2 := h.b1
  unfold stepW
  split
  · split
    · exact ⟨h0, h1, by dsimp only; omega⟩
    · unfold workW
      split
      · split
        · exact ⟨h0, h1, by dsimp only; omega⟩
        · exact ⟨by dsimp only; omega, h1, h2⟩
      · exact ⟨by dsimp only; omega, h1, h2⟩
  · exact h
theorem allN_has {L : List TV} {id : Int} {x : Nat} {j : Nat} {T : TV} (hj : L[j]? = some T) (hid : ¬ T.id = id) (hx : inP T.us 0 T.c.toNat x = true) : ∀ k, j < k → allN L id k x = true
  | 0, h => absurd h (Nat.not_lt_zero _)
  | k + 1, h => by
    rcases Nat.lt_or_ge j k with q | q
    · have ih := allN_has hj hid hx k q
      cases hq : L[k]? with
      | none => rw [allN, hq]; exact ih
      | some T' =>
        by_cases e : T'.id = id
        · rw [allN_is hq e]; exact ih
        · rw [allN_not hq e]; unfold orP; rw [ih]; rfl
    · obtain rfl : j = k := by omega
      rw [allN_not hj hid]; unfold orP; rw [hx, Bool.or_true]
/-- What another one's tick takes, is used by it. -/
theorem other_takes {L : List TV} {id : Int} {j : Nat} {T : TV} (hj : L[j]? = some T) (hid : ¬ T.id = id) {n : Nat} {Lc : Nat → Int} {rel : Int} {k : WK} (h : OInv T.c k) (x : Nat) : stepL n Lc T.id (accOf T k.dn).1 (accOf T k.dn).2 rel k x = Lc x ∨ allN L id L.length x = true := by
  by_cases e : stepL n Lc T.id (accOf T k.dn).1 (accOf T k.dn).2 rel k x = Lc x
  · exact .inl e
  right
  obtain ⟨h1, h2⟩ := step_takes x e
  have hf : Fits T.id rel k := by
    by_cases q : Fits T.id rel k
    · exact q
    · exfalso
      apply e
      unfold stepL
      rw [if_neg (fun z => q z.1)]
  obtain ⟨_, _, _, f1, f2, _⟩ := hf
  obtain ⟨d, hd⟩ : ∃ d : Nat, k.dn = (d : Int) := ⟨k.dn.toNat, by omega⟩
  have hu : T.us ≠ [] := by
    intro z
    rw [acc_nil (by omega) z] at h1
    cases h1
  rw [hd, access_use T d hu] at h2
  have hc : k.dm = T.c := by
    rcases h.dm with q | q
    · omega
    · exact q
  exact allN_has hj hid (inP_iff.2 ⟨d, Nat.zero_le _, by omega, h2⟩) _ (List.getElem?_eq_some_iff.1 hj).1
/-- What others leave: behind any ticks of theirs. -/
def AwayFrom (O : Nat → Bool) (L0 L1 : Nat → Int) : Prop := ∀ x, L1 x = L0 x ∨ O x = true
theorem away_refl (O : Nat → Bool) (L : Nat → Int) : AwayFrom O L L := fun _ => .inl rfl
theorem AwayFrom.step {O : Nat → Bool} {L0 L1 L2 : Nat → Int} (h : AwayFrom O L0 L1) (h2 : ∀ x, L2 x = L1 x ∨ O x = true) : AwayFrom O L0 L2 := fun x => by
  rcases h2 x with e | e
  · rcases h x with q | q
    · exact .inl (e.trans q)
    · exact .inr q
  · exact .inr e

/-! ### its own ticks -/
/-- A job without sets: nothing is ever brought again. -/
theorem Held.tick0 {C : Nat} {id rel : Int} {M t : Nat} {L : Nat → Int} {d : Nat} {k : WK} {n : Nat} (h : Held [] C id rel M t L d k) (hf : Fits id rel k) (hd : d < C) (hr : k.rl ≤ 4611686018427387904) :
    ∃ d', Held [] C id rel M t (stepL n L id 0 false rel k) d' (stepW n L id 0 false rel k).1 ∧ (d' = d ∨ d' = d + 1) ∧ (stepW n L id 0 false rel k).1.rl ≤ k.rl + 1 := by
  have hL : stepL n L id 0 false rel k = L := by
    unfold stepL workL
    split
    · rw [if_neg (by rintro ⟨z, _⟩; cases z)]
    · rfl
  rw [hL]
  have hw := wUp_small h.r0 hr
  have hsum := h.sum
  unfold stepW
  rw [if_pos hf]
  by_cases hp : 0 < k.db
  · rw [if_pos hp]
    refine ⟨d, ⟨h.dn, h.le, h.dm, ?_, ?_, h.sn, ?_⟩, .inl rfl, ?_⟩
    · dsimp only; omega
    · dsimp only; rw [hw]; have := h.r0; omega
    · dsimp only; rw [hw]; omega
    · dsimp only; rw [hw]; omega
  · rw [if_neg hp]
    unfold workW
    rw [if_neg (by rintro ⟨z, _⟩; cases z)]
    have hsn : ∀ a b, inP [] a b = noneP := fun a b => by funext x; exact inP_nil a b x
    have hl : lostP [] C id L (d + 1) = lostP [] C id L d := by funext x; unfold lostP; simp only [hsn]
    refine ⟨d + 1, ⟨?_, hd, h.dm, h.b0, h.r0, ?_, ?_⟩, .inr rfl, ?_⟩
    · dsimp only; have := h.dn; omega
    · dsimp only; rw [h.sn, hsn, hsn]
    · dsimp only; rw [hl]; exact hsum
    · dsimp only; omega
/-- A tick of its own, whatever its sets. -/
theorem held_tick {T : TV} {i s : Int} {n : Nat} (hg : Good i s T) (hs : s = (n : Int)) (hn : n ≤ 256) {rel : Int} {M t : Nat} {L : Nat → Int} {d : Nat} {k : WK} (h : Held T.us T.c.toNat T.id rel M t L d k) (hf : Fits T.id rel k) (hd : d < T.c.toNat) (hr : k.rl ≤ 4611686018427387904) :
    ∃ d', Held T.us T.c.toNat T.id rel M t (stepL n L T.id (accOf T k.dn).1 (accOf T k.dn).2 rel k) d' (stepW n L T.id (accOf T k.dn).1 (accOf T k.dn).2 rel k).1 ∧ (d' = d ∨ d' = d + 1) ∧ (stepW n L T.id (accOf T k.dn).1 (accOf T k.dn).2 rel k).1.rl ≤ k.rl + 1 := by
  by_cases hu : T.us = []
  · rw [acc_nil (by rw [h.dn]; omega) hu]
    rw [hu] at h ⊢
    exact h.tick0 hf hd hr
  · rw [h.dn, access_use T d hu]
    have hm : useI T.us d ∈ T.us := by
      unfold useI
      rw [List.getD_eq_getElem?_getD, List.getElem?_eq_getElem (Nat.mod_lt _ (List.length_pos_iff.2 hu))]
      exact List.getElem_mem _
    have hr2 := hg.us _ hm
    exact h.tick hf hd hn hr2.1 (by omega) hr
/-- What the statement asks behind a tick. -/
theorem held_cost {us : List Int} {C : Nat} {id rel : Int} {M t : Nat} {L : Nat → Int} {d : Nat} {k : WK} (h : Held us C id rel M t L d k) (h0 : 0 ≤ rel) (h3 : rel ≤ 3) (hM : M ≤ 256) (ht : t ≤ 60) (hrl : k.rl ≤ 60) :
    IntKind.i64.wrap (k.rl + k.db) = k.rl + k.db ∧ IntKind.i64.wrap ((t : Int) * (rel * (M : Int))) = (t : Int) * (rel * (M : Int)) ∧ ¬ (t : Int) * (rel * (M : Int)) < k.rl + k.db := by
  have hc := h.cost h0
  have hb := h.b0; have hr := h.r0
  have h1 := mul_small h0 (show rel ≤ 1000 by omega) hM
  have h2 : (t : Int) * (rel * (M : Int)) ≤ 60 * 256000 := Int.mul_le_mul (by omega) h1.2 h1.1 (by omega)
  have h4 : 0 ≤ (t : Int) * (rel * (M : Int)) := Int.mul_nonneg (by omega) h1.1
  exact ⟨IntWalk.i64_in _ (by omega), IntWalk.i64_in _ (by omega), by omega⟩
end Go.Proofs.Ytlglncnhhgofoaa

/-
  The walk over the statement that a preemption costs no more.
-/
namespace Go.Proofs.Ytlglncnhhgofoaa
open Go.RowKit Go.Maps

theorem work_new (w : World) (c : Int) : (w.alloc (.cells #[.int .i64 0, .int .i64 c, .int .i64 0, .int .i64 0, .int .u64 0, .int .u64 0, .int .u64 0, .int .u64 0] WT)).heap[w.heap.size]? = some (.cells #[.int .i64 (freshW c).dn, .int .i64 (freshW c).dm, .int .i64 (freshW c).db, .int .i64 (freshW c).rl, .int .u64 (wd (freshW c).sn 0), .int .u64 (wd (freshW c).sn 1), .int .u64 (wd (freshW c).sn 2), .int .u64 (wd (freshW c).sn 3)] WT (0, 0)) := by
  unfold freshW
  dsimp only
  rw [wd_false, wd_false, wd_false, wd_false]
  exact heap_alloc_new w _
set_option maxRecDepth 100000 in
set_option maxHeartbeats 32000000 in
theorem law_holds (W : World) (S R : Int) (a : Option Addr) (n cap : Nat) (L : List NV) (hn : Nums W a n cap L) (which : Int) (x : Nat) (hx : x < 18446744073709551616) (a2 : Option Addr) (n2 cap2 : Nat) (l : Nat → Int × Int) (hp : Pairs W a2 n2 l) :
    Calls Try.prog 5 #[.agg #[.int .i64 S, .int .i64 R, .slice a n cap], .agg #[.int .i64 which, .int .u64 x, .slice a2 n2 cap2]] W fun e w' => e = .returned (.bool true) ∧ Below W.heap.size W w' := by
  have HPR := Lib.hid hp
  have hsm := hp.small
  have HN := Lib.hid hn
  have hz2 := zeroSys
  clear hn hp
  go_enter Try.func5, Try.ntmps5
  go_upto_region 1 with fail
  refine gen_world (fun v => Below W.heap.size W v ∧ v.heap[W.heap.size]? = some (.cells #[.int .i64 S, .int .i64 R, .slice a n cap] 24 (0, 0)) ∧ v.heap[W.heap.size + 1]? = some (.cells #[.int .i64 which, .int .u64 x, .slice a2 n2 cap2] 43 (0, 0))) ⟨(by repeat (first | exact Below.refl _ _ | (with_reducible assumption) | refine bw_alloc ?_ _ | refine bw_drew ?_)), (two_boxes W rfl _ _).1, (two_boxes W rfl _ _).2⟩ ?_
  intro W1 ⟨hl1, hb0, hb1⟩
  have HL1 := Lib.hid hl1
  have HB0 := Lib.hid hb0
  have HB1 := Lib.hid hb1
  clear hl1 hb0 hb1
  go_upto_region 2 with (go_at_call 8; (with_reducible refine (awake_any _).mono ?_); rintro e w1 ⟨rfl, b1⟩; have HL2 := Lib.hid (below_up HL1.out b1); have HB2 := Lib.hid (kept_obj b1 HB0.out); have HB3 := Lib.hid (kept_obj b1 HB1.out); clear b1)
  have d0 : w1.cell? ⟨W.heap.size, 0, none⟩ = some (.int .i64 S) := by rw [blk_cell HB2.out]; rfl
  have d1 : w1.cell? ⟨W.heap.size, 1, none⟩ = some (.int .i64 R) := by rw [blk_cell HB2.out]; rfl
  have d2 : w1.cell? ⟨W.heap.size, 2, none⟩ = some (.slice a n cap) := by rw [blk_cell HB2.out]; rfl
  have C := Lib.hid (made5_any S R (HN.out.below HL2.out))
  go_upto_region 3 with (go_at_call 10; (with_reducible refine (C.out).mono ?_); rintro e w5 ⟨s, r, a5, N, c5, M, rfl, ho5, hok5, hi5, hm5, b5⟩; have HT5 := Lib.hid (ho5.tasks hok5); have HM := Lib.hid hm5; have HL5 := Lib.hid (below_up HL2.out b5); have HRUN := Lib.hid (kept_obj b5 HB3.out); clear ho5 hok5 hi5 hm5 b5)
  have hN1 : 0 < N := by have := HM.out.pos; have := HT5.out.len; omega
  have hN6 : N ≤ 6 := by have := HM.out.six; have := HT5.out.len; omega
  obtain ⟨ns, rfl⟩ : ∃ ns : Nat, s = (ns : Int) := ⟨s.toNat, by have := HM.out.s1; omega⟩
  have hns : ns ≤ 8 := by have := HM.out.s8; omega
  have hr0 := HM.out.r0
  have hr3 := HM.out.r3
  obtain ⟨g5, o5, rfl⟩ : ∃ g o, a5 = some ⟨g, o, none⟩ := by
    obtain ⟨t0, ht0⟩ := nth_of HT5.out.len hN1
    obtain ⟨g, o, e, _⟩ := HT5.out.view.at_ ht0
    exact ⟨g, o, e⟩
  have HCK : Hid (checkOf (ns : Int) r M = 0) := check_made HM.out
  have HWF := Lib.hid (made_wf HM.out)
  have HPR5 := Lib.hid (HPR.out.below HL5.out)
  refine gen_world (fun v => Below w5.heap.size w5 v ∧ v.heap[w5.heap.size]? = some (.cells #[.int .i64 (ns : Int), .int .i64 r, .slice (some ⟨g5, o5, none⟩) N c5] 27 (0, 0))) ⟨(by repeat (first | exact Below.refl _ _ | (with_reducible assumption) | refine bw_alloc ?_ _ | refine bw_drew ?_)), heap_alloc_new w5 _⟩ ?_
  intro W6 ⟨hl6, hs6⟩
  have HL6 := Lib.hid hl6
  have HS6 := Lib.hid hs6
  clear hl6 hs6 C d0 d1 d2 HL1 HL2 HB0 HB1 HB2 HB3 HPR
  obtain ⟨t, k, e1, v2, v3, v4, v5⟩ : ∃ (t : Int) (k : Nat), which.tmod N = t ∧ -(N : Int) < t ∧ t < N ∧ (t + N) % N = (k : Int) ∧ k < N := by
    have a := Int.tmod_lt_of_pos which (show (0 : Int) < N by omega)
    have b := Int.lt_tmod_of_pos which (show (0 : Int) < N by omega)
    have c := Int.emod_nonneg (which.tmod N + N) (show (N : Int) ≠ 0 by omega)
    have d := Int.emod_lt_of_pos (which.tmod N + N) (show (0 : Int) < N by omega)
    exact ⟨which.tmod N, ((which.tmod N + N) % N).toNat, rfl, b, a, by omega, by omega⟩
  have x1 : IntKind.i64.wrap (t + (N : Int)) = t + N := IntWalk.i64_in _ (by omega)
  have x2 : (t + (N : Int)).tmod N = (k : Int) := by rw [Int.tmod_eq_emod_of_nonneg (by omega)]; exact v4
  have z1 : ((N : Int) == 0) = false := by rw [beq_eq_false_iff_ne]; omega
  have z2 : ¬ (N : Int) = 0 := by omega
  have z3 : ¬ N = 0 := by omega
  have z4 : 0 ≤ t + (N : Int) := by omega
  have s2 : W6.cell? ⟨w5.heap.size, 2, none⟩ = some (.slice (some ⟨g5, o5, none⟩) N c5) := by rw [blk_cell HS6.out]; rfl
  have u0 : W6.cell? ⟨W.heap.size + 1, 0, none⟩ = some (.int .i64 which) := by rw [blk_cell (kept_obj HL6.out HRUN.out)]; rfl
  clear v4
  go_upto_region 3 with fail
  go_quiet (fail)
  obtain ⟨T, hT⟩ := nth_of HT5.out.len v5
  have HTK := Lib.hid hT
  have HG := Lib.hid (HM.out.good k T hT)
  have HTO := Lib.hid (HT5.out.ok.at_ hT)
  have HVW : Hid (At w5 g5 (o5 + k * 7) T) := by
    obtain ⟨g, o, e, h⟩ := HT5.out.view.at_ hT
    cases e
    exact h
  have hk0 : (0 : Int) ≤ (k : Int) := by omega
  have hkN' : (k : Int) < (N : Int) := by omega
  clear e1 v2 v3 x1 x2 z1 z2 z3 z4 u0 s2 hT
  go_upto_region 4 with fail
  refine gen_world (fun v => Below W6.heap.size W6 v) ⟨rfl, rfl, rfl, Nat.le_refl _, fun _ _ => rfl⟩ ?_
  intro W7 hl7
  have HL7 := Lib.hid (below_up HL6.out hl7)
  have HS7 := Lib.hid (kept_obj hl7 HS6.out)
  clear hl7
  have s0 : W7.cell? ⟨w5.heap.size, 0, none⟩ = some (.int .i64 (ns : Int)) := by rw [blk_cell HS7.out]; rfl
  have s2 : W7.cell? ⟨w5.heap.size, 2, none⟩ = some (.slice (some ⟨g5, o5, none⟩) N c5) := by rw [blk_cell HS7.out]; rfl
  obtain ⟨t0, t1, t2, t3, t4, t5, t6⟩ := HVW.out.below HL7.out
  have e9 := block_of_cell s0
  have CN := Lib.hid (fun v => cnew_some ns (by omega) v)
  go_upto_region 6 with (go_at_call 16; (refine (CN.out _).mono ?_); rintro e w8 ⟨b, rr, rfl, hc, hb, hrr, b8⟩; have H8 := Lib.hid (And.intro hc (And.intro hb (And.intro hrr b8))); clear hc hb hrr b8)
  obtain ⟨hc, hb, hrr, b8⟩ := H8.out
  rw [World.size_alloc] at hb hrr
  have HCH := Lib.hid hc
  have HB8 := Lib.hid (below_up ((by repeat (first | exact Below.refl _ _ | (with_reducible assumption) | refine bw_alloc ?_ _ | refine bw_drew ?_)) : Below W7.heap.size W7 _) b8)
  have HTB := Lib.hid (kept_obj b8 (heap_alloc_new W7 (.cells #[.int .i64 T.id, .int .i64 T.c, .int .i64 T.d, .int .i64 T.t, .int .i64 T.p, .slice T.a1 T.ch.length T.c1, .slice T.a2 T.us.length T.c2] TT)))
  have HS8 := Lib.hid (kept_obj HB8.out HS7.out)
  have HD : Hid (W7.heap.size < b ∧ W7.heap.size < rr) := ⟨by omega, by omega⟩
  clear hc hb hrr b8 H8 CN s0 s2 t0 t1 t2 t3 t4 t5 t6 e9
  have s0 : w8.cell? ⟨w5.heap.size, 0, none⟩ = some (.int .i64 (ns : Int)) := by rw [blk_cell HS8.out]; rfl
  have s1 : w8.cell? ⟨w5.heap.size, 1, none⟩ = some (.int .i64 r) := by rw [blk_cell HS8.out]; rfl
  have s2 : w8.cell? ⟨w5.heap.size, 2, none⟩ = some (.slice (some ⟨g5, o5, none⟩) N c5) := by rw [blk_cell HS8.out]; rfl
  have t0 : w8.cell? ⟨W7.heap.size, 0, none⟩ = some (.int .i64 T.id) := by rw [blk_cell HTB.out]; rfl
  have OC := Lib.hid (fun v (hb : Below w5.heap.size w5 v) => cOf_any (ns : Int) r T.id (HT5.out.below hb) HWF.out)
  have hcg := check_find HCK.out (List.mem_of_getElem? HTK.out)
  unfold OneBack at OC
  rw [hcg] at OC
  obtain ⟨Mx, hMx⟩ : ∃ Mx : Nat, (mostOf T.us T.c.toNat (allN M T.id M.length)).1 = Mx := ⟨_, rfl⟩
  have HMX := Lib.hid hMx
  have hMxl : Mx ≤ 256 := by rw [← hMx]; exact most_le _ _ _
  rw [show cgB (some (cgOf r M T.tk)) = r * (Mx : Int) by show r * ((mostOf T.us T.c.toNat (allN M T.id M.length)).1 : Nat) = _; rw [hMx]] at OC
  simp only [Option.isSome] at OC
  obtain ⟨ga, hga⟩ : ∃ ga, r * (Mx : Int) = ga := ⟨_, rfl⟩
  have HGA := Lib.hid hga
  rw [hga] at OC
  clear hcg hMx hga
  go_upto_region 7 with (go_at_call 15; (with_reducible refine (OC.out _ (below_up HL7.out HB8.out)).mono ?_); rintro e w9 ⟨rfl, b9⟩; have HB9 := Lib.hid b9; clear b9)
  have t1 : w9.cell? ⟨W7.heap.size, 1, none⟩ = some (.int .i64 T.c) := by rw [blk_cell (kept_obj HB9.out HTB.out)]; rfl
  clear s0 s1 s2 t0 OC
  go_upto_region 12 with fail
  obtain ⟨V1, hV1⟩ : ∃ V1, w9.alloc (.cells #[.int .i64 0, .int .i64 T.c, .int .i64 0, .int .i64 0, .int .u64 0, .int .u64 0, .int .u64 0, .int .u64 0] WT) = V1 := ⟨_, rfl⟩
  have hV1s : V1.heap.size = w9.heap.size + 1 := by rw [← hV1, World.size_alloc]
  have hV1b : Below w9.heap.size w9 V1 := by rw [← hV1]; exact (Below.refl _ _).alloc (Nat.le_refl _) _
  have hV1w := work_new w9 T.c
  rw [hV1] at hV1w ⊢
  refine gen_world (HoldAt w5 (ns : Int) r (some ⟨g5, o5, none⟩) N c5 b rr ns (fun _ => 0) V1.heap.size (fun _ => noWork) W7.heap.size T w9.heap.size (freshW T.c)) ?_ ?_
  · have hb : Below w8.heap.size w8 V1 := below_up HB9.out hV1b
    have hs7 := lt_of_block HS7.out
    have hch := HCH.out.below HB9.out
    have hlt := hch.lt
    have h9 := HB9.out.size
    have h8 := lt_of_block HTB.out
    have hd := HD.out
    refine ⟨TickAt.new (below_up HL7.out (below_up HB8.out hb)) (kept_obj hb HS8.out) (HCH.out.below hb) (by omega) (by omega) (by repeat (first | exact Below.refl _ _ | (with_reducible assumption) | refine bw_alloc ?_ _ | refine bw_drew ?_)) (arr_new6 _ _), kept_obj (by repeat (first | exact Below.refl _ _ | (with_reducible assumption) | refine bw_alloc ?_ _ | refine bw_drew ?_)) (kept_obj hb HTB.out), kept_obj (by repeat (first | exact Below.refl _ _ | (with_reducible assumption) | refine bw_alloc ?_ _ | refine bw_drew ?_)) hV1w, hs7, by omega, by omega, by omega, by omega, by omega, by omega, by omega, by omega⟩
  intro V2 hv2
  have HV2 := Lib.hid hv2
  rw [hV1s] at HV2
  obtain ⟨g2, hg2⟩ : ∃ g2, w9.heap.size + 1 = g2 := ⟨_, rfl⟩
  obtain ⟨gt, hgt⟩ : ∃ gt, W7.heap.size = gt := ⟨_, rfl⟩
  obtain ⟨gw, hgw⟩ : ∃ gw, w9.heap.size = gw := ⟨_, rfl⟩
  rw [hg2] at HV2 ⊢
  rw [hgt, hgw] at HV2 ⊢
  obtain ⟨C, hC⟩ : ∃ C : Nat, T.c = (C : Int) := ⟨T.c.toNat, by have := HG.out.c1; omega⟩
  have hCn : T.c.toNat = C := by omega
  have hC24 : C ≤ 24 := by have := HG.out.cd; have := HG.out.dt; have := HG.out.t24; omega
  have HC := Lib.hid hC
  have H0 : Hid (Held T.us C T.id r Mx 0 (fun _ => 0) 0 (freshW T.c)) := by
    rw [hC]; exact held_new _ _ _ _ _ _
  have HUM : Hid (∀ p, 1 ≤ p → p < C → usefulN T.us C (allN M T.id M.length) p ≤ Mx) := fun p h1 h2 => by
    have := most_ge T.us (C := C) (allN M T.id M.length) h1 h2
    rw [← HMX.out, hCn]; exact this
  rw [hCn] at HMX
  clear hv2 hV1s hV1b hV1w hV1 hg2 hgt hgw hC HS8 HB8 HB9 HTB HCH HD HS7 HL7 HL6 HS6 t1 hCn
  go_wp2
  go_loopw [13, 15] (fun v u wr => ∃ (i tm : Nat) (Lc : Nat → Int) (d : Nat) (kw : WK) (f : Nat → WK), i ≤ 60 ∧ tm ≤ i ∧ u = .int .i64 i ∧ v = .int .i64 tm ∧ Hid (HoldAt w5 (ns : Int) r (some ⟨g5, o5, none⟩) N c5 b rr ns Lc g2 f gt T gw kw wr) ∧ Hid (Held T.us C T.id r Mx tm Lc d kw) ∧ Hid (kw.rl ≤ (i : Int)) ∧ Hid (∀ (j : Nat) (y : TV), M[j]? = some y → OInv y.c (f j))) (fun _ u _ => (60 - intOf u).toNat)
  case atStart => exact ⟨0, 0, _, 0, _, _, Nat.zero_le _, Nat.zero_le _, rfl, rfl, HV2, H0, (by show (0 : Int) ≤ 0; omega), fun j y hj => oinv_none _⟩
  case round =>
    obtain ⟨i, tm, Lc, d, kw, f, hi, htm, rfl, rfl, HP, HH, HRL, HO⟩ := hrel
    clear H0 HV2
    have hwb := HP.out.wb
    have htb := HP.out.tb
    have q0 : wr.cell? ⟨gw, 0, none⟩ = some (.int .i64 kw.dn) := by rw [blk_cell hwb]; rfl
    have p1 : wr.cell? ⟨gt, 1, none⟩ = some (.int .i64 T.c) := by rw [blk_cell htb]; rfl
    by_cases hlt : i < 60
    rotate_left
    · obtain rfl : i = 60 := by omega
      have HE := Lib.hid (below_up HL5.out HP.out.t.low)
      clear hwb htb hlt
      go_wp2
      go_ret
      exact ⟨rfl, HE.out⟩
    have hi1 : (i : Int) < 60 := by omega
    by_cases hdc : d < C
    rotate_left
    · have hq : ¬ kw.dn < T.c := by have := HH.out.dn; have := HC.out; omega
      have HE := Lib.hid (below_up HL5.out HP.out.t.low)
      clear hwb htb hlt hdc
      go_wp2
      go_ret
      exact ⟨rfl, HE.out⟩
    have hq : kw.dn < T.c := by have := HH.out.dn; have := HC.out; omega
    have hrun := (HP.out.t.low.block _ (lt_of_block HRUN.out)).trans HRUN.out
    have u1 : wr.cell? ⟨W.heap.size + 1, 1, none⟩ = some (.int .u64 x) := by rw [blk_cell hrun]; rfl
    have u2 : wr.cell? ⟨W.heap.size + 1, 2, none⟩ = some (.slice a2 n2 cap2) := by rw [blk_cell hrun]; rfl
    have s2 : wr.cell? ⟨w5.heap.size, 2, none⟩ = some (.slice (some ⟨g5, o5, none⟩) N c5) := by rw [blk_cell HP.out.t.sb]; rfl
    obtain ⟨kb, hkb, hkb2⟩ : ∃ kb, x / 2 ^ i % 2 = kb ∧ kb < 2 := ⟨_, rfl, Nat.mod_lt _ (by omega)⟩
    have hband := bit_and x i hx
    rw [hkb] at hband
    have hi2 : IntKind.u64.wrap (i : Int) = i := IntWalk.u64_in _ (by omega)
    clear hkb hwb htb
    go_upto_region 15 with fail
    go_cut [97] from 74 to 97 (fun u wx => (∃ q : Bool, u = .bool q ∧ (q = true → 0 < i ∧ 1 < N ∧ i < n2)) ∧ wx = wr)
    case first =>
      by_cases g1 : kb = 1
      · subst g1
        by_cases g2' : 0 < i
        · have e2 : (0 : Int) < (i : Int) := by omega
          by_cases g3 : 1 < N
          · have e3 : (1 : Int) < (N : Int) := by omega
            by_cases g4 : i < n2
            · have e4 : (i : Int) < (n2 : Int) := by omega
              go_wp2_with fail
              go_meet
              exact ⟨⟨true, by first | rfl | (simp; omega), fun _ => ⟨g2', g3, g4⟩⟩, rfl⟩
            · have e4 : ¬ (i : Int) < (n2 : Int) := by omega
              go_wp2_with fail
              go_meet
              exact ⟨⟨false, by first | rfl | (simp; omega), fun z => by cases z⟩, rfl⟩
          · have e3 : ¬ (1 : Int) < (N : Int) := by omega
            go_wp2_with fail
            go_meet
            exact ⟨⟨false, by first | rfl | (simp; omega), fun z => by cases z⟩, rfl⟩
        · have e2 : ¬ (0 : Int) < (i : Int) := by omega
          go_wp2_with fail
          go_meet
          exact ⟨⟨false, by first | rfl | simp, fun z => by cases z⟩, rfl⟩
      · obtain rfl : kb = 0 := by omega
        go_wp2_with fail
        go_meet
        exact ⟨⟨false, by first | rfl | simp, fun z => by cases z⟩, rfl⟩
    case rest =>
      obtain ⟨⟨q, rfl, hq2⟩, rfl⟩ := hcut
      clear hband hkb2 hi2 hq
      go_upto_if 97 with fail
      go_cut [13] (fun v wx => ∃ (tm' : Nat) (Lc' : Nat → Int) (f' : Nat → WK), v = .int .i64 tm' ∧ tm' ≤ i + 1 ∧ Hid (HoldAt w5 (ns : Int) r (some ⟨g5, o5, none⟩) N c5 b rr ns Lc' g2 f' gt T gw kw wx) ∧ Hid (Held T.us C T.id r Mx tm' Lc' d kw) ∧ Hid (∀ (j : Nat) (y : TV), M[j]? = some y → OInv y.c (f' j)))
      case first =>
        cases q with
        | false =>
          go_wp2_with fail
          go_meet
          exact ⟨tm, Lc, f, rfl, by omega, HP, HH, HO⟩
        | true =>
          obtain ⟨hi0, hN2, hin⟩ := hq2 rfl
          obtain ⟨ga0, oa0, ea, cw0, cw1⟩ := (HPR5.out.below HP.out.t.low).at_ i hin
          obtain rfl := ea
          obtain ⟨y0, hy, hy2⟩ := and_small (l i).1 15 (by omega)
          obtain ⟨z0, hz, hz2x⟩ := and_small (l i).2 7 (by omega)
          have hy3 : bits .and .i64 (l i).1 15 = (y0 : Int) := hy2
          have hz3 : bits .and .i64 (l i).2 7 = (z0 : Int) := hz2x
          obtain ⟨v, hv, hv2⟩ : ∃ v : Nat, y0 % (N - 1) = v ∧ v < N - 1 := ⟨_, rfl, Nat.mod_lt _ (by omega)⟩
          obtain ⟨j, hj, hjN, hjk⟩ : ∃ j : Nat, (k + 1 + v) % N = j ∧ j < N ∧ j ≠ k := by
            refine ⟨_, rfl, Nat.mod_lt _ (by omega), ?_⟩
            rcases Nat.lt_or_ge (k + 1 + v) N with q | q
            · rw [Nat.mod_eq_of_lt q]; omega
            · rw [Nat.mod_eq_sub_mod q, Nat.mod_eq_of_lt (by omega)]; omega
          have m1 : IntKind.i64.wrap ((k : Int) + 1) = (k : Int) + 1 := IntWalk.i64_in _ (by omega)
          have m2 : IntKind.i64.wrap ((N : Int) - 1) = ((N - 1 : Nat) : Int) := by rw [IntWalk.i64_in _ (by omega)]; omega
          have m3 : ((y0 : Nat) : Int).tmod ((N - 1 : Nat) : Int) = (v : Int) := by rw [Int.tmod_eq_emod_of_nonneg (by omega)]; omega
          have m4 : IntKind.i64.wrap ((k : Int) + 1 + (v : Int)) = (k : Int) + 1 + (v : Int) := IntWalk.i64_in _ (by omega)
          have m6 : ((k : Int) + 1 + (v : Int)) % (N : Int) = (j : Int) := by rw [← hj]; simp
          have m5 : ((k : Int) + 1 + (v : Int)).tmod (N : Int) = (j : Int) := by rw [Int.tmod_eq_emod_of_nonneg (by omega)]; exact m6
          have c1 : ((N : Int) == 0) = false := by rw [beq_eq_false_iff_ne]; omega
          have c2 : ¬ (N : Int) = 0 := by omega
          have c3 : ¬ N = 0 := by omega
          have c4 : (((N - 1 : Nat) : Int) == 0) = false := by rw [beq_eq_false_iff_ne]; omega
          have c5x : ¬ ((N - 1 : Nat) : Int) = 0 := by omega
          have c6 : ¬ N - 1 = 0 := by omega
          have hii : (i : Int) < (n2 : Int) := by omega
          have hi0' : (0 : Int) ≤ (i : Int) := by omega
          obtain ⟨wh, hwh⟩ : ∃ wh, (l i).1 = wh := ⟨_, rfl⟩
          obtain ⟨wl, hwl⟩ : ∃ wl, (l i).2 = wl := ⟨_, rfl⟩
          rw [hwh] at cw0 hy3
          rw [hwl] at cw1 hz3
          have HWL := Lib.hid hwl
          have hz7 : z0 ≤ 7 := hz
          clear hy hy2 hz hz2x hv hj hwh hwl hq2
          go_upto_region 16 with fail
          go_cut [16] (fun u wx => u = .int .i64 (j : Int) ∧ Hid (HoldAt w5 (ns : Int) r (some ⟨g5, o5, none⟩) N c5 b rr ns Lc g2 f gt T gw kw wx))
          case first =>
            go_quiet (fail)
            go_wp2_with fail
            go_meet
            exact ⟨by first | rfl | (simp; done) | (simp; exact m6), HP.out.below ⟨rfl, rfl, rfl, Nat.le_refl _, fun _ _ => rfl⟩⟩
          case rest =>
            obtain ⟨rfl, HP1⟩ := hcut
            obtain ⟨Y, hY⟩ := nth_of HT5.out.len hjN
            have HYM := Lib.hid hY
            have HYG := Lib.hid (HM.out.good j Y hY)
            have HYO := Lib.hid (HT5.out.ok.at_ hY)
            have HYW : Hid (At w5 g5 (o5 + j * 7) Y) := by
              obtain ⟨g, o, e, h⟩ := HT5.out.view.at_ hY
              cases e
              exact h
            have hYT : ¬ Y.id = T.id := by have := HYG.out.id; have := HG.out.id; omega
            have HYT := Lib.hid hYT
            have hj6 : j < 6 := by omega
            have hj0 : (0 : Int) ≤ (j : Int) := by omega
            have hj6' : (j : Int) < 6 := by omega
            have hjN' : (j : Int) < (N : Int) := by omega
            clear hY hYT m1 m2 m3 m4 m5 m6 c1 c2 c3 c4 c5x c6 hy3 cw0 cw1
            have CW1 := Lib.hid (fun (w' : World) (hb : Below w5.heap.size w5 w') => (HPR5.out.below hb).at_ i hin)
            go_upto_region 17 with fail
            go_wp2
            go_loopw [17] (fun u wm => ∃ (m : Nat) (L1 : Nat → Int) (f1 : Nat → WK), m ≤ z0 ∧ u = .int .i64 m ∧ Hid (HoldAt w5 (ns : Int) r (some ⟨g5, o5, none⟩) N c5 b rr ns L1 g2 f1 gt T gw kw wm) ∧ Hid (AwayFrom (allN M T.id M.length) Lc L1) ∧ Hid (∀ (j : Nat) (y : TV), M[j]? = some y → OInv y.c (f1 j))) (fun u _ => (z0 - intOf u).toNat)
            case atStart => exact ⟨0, Lc, f, Nat.zero_le _, rfl, HP1, away_refl _ _, HO⟩
            case round =>
              clear s2 u1 u2 q0 p1
              obtain ⟨m, L1, f1, hm, rfl, HQ, HAW, HO1⟩ := hrel
              have hrun := (HQ.out.t.low.block _ (lt_of_block HRUN.out)).trans HRUN.out
              have u2 : wr.cell? ⟨W.heap.size + 1, 2, none⟩ = some (.slice (some ⟨ga0, oa0, none⟩) n2 cap2) := by rw [blk_cell hrun]; rfl
              obtain ⟨ga1, oa1, ea1, cw0, cw1⟩ := CW1.out _ HQ.out.t.low
              cases ea1
              rw [HWL.out] at cw1
              by_cases hmz : m < z0
              · have hm1 : (m : Int) < (z0 : Int) := by omega
                go_upto_region 20 with fail
                have hP1x : Hid (HoldAt w5 (ns : Int) r (some ⟨g5, o5, none⟩) N c5 b rr ns L1 g2 f1 gt T gw kw wr) := HQ
                obtain ⟨wk0, hwk0⟩ : ∃ wk0, f1 j = wk0 := ⟨_, rfl⟩
                obtain ⟨a0, a1, _, _, _, _, _, _⟩ := HQ.out.t.ar.cells hj6
                rw [hwk0] at a0 a1
                have HOJ := Lib.hid (HO1.out j Y HYM.out)
                rw [hwk0] at HOJ
                obtain ⟨q, hq⟩ : ∃ q, decide (wk0.dm ≤ wk0.dn) = q := ⟨_, rfl⟩
                have HQQ := Lib.hid hq
                go_cut [136] (fun u wx => u = .bool q ∧ Hid (HoldAt w5 (ns : Int) r (some ⟨g5, o5, none⟩) N c5 b rr ns L1 g2 f1 gt T gw kw wx))
                case first =>
                  go_quiet (fail)
                  go_wp2_with fail
                  go_meet
                  exact ⟨rfl, HQ.out.below ⟨rfl, rfl, rfl, Nat.le_refl _, fun _ _ => rfl⟩⟩
                case rest =>
                  obtain ⟨rfl, H3⟩ := hcut
                  clear a0 a1 hq cw0 cw1 u2 hrun hP1x
                  have s2 : wc.cell? ⟨w5.heap.size, 2, none⟩ = some (.slice (some ⟨g5, o5, none⟩) N c5) := by rw [blk_cell H3.out.t.sb]; rfl
                  have t1 : wc.cell? ⟨g5, o5 + j * 7 + 1, none⟩ = some (.int .i64 Y.c) := kept_cellB H3.out.t.low (block_of_cell HYW.out.c1) HYW.out.c1
                  obtain ⟨a0, a1, a2, a3, a4, a5', a6, a7⟩ := H3.out.t.ar.cells hj6
                  have f0 := H3.out.t.ar.free (j * 8)
                  have f1x := H3.out.t.ar.free (j * 8 + 1)
                  have f2 := H3.out.t.ar.free (j * 8 + 2)
                  have f3 := H3.out.t.ar.free (j * 8 + 3)
                  have f4 := H3.out.t.ar.free (j * 8 + 4)
                  have f5 := H3.out.t.ar.free (j * 8 + 5)
                  have f6 := H3.out.t.ar.free (j * 8 + 6)
                  have f7 := H3.out.t.ar.free (j * 8 + 7)
                  go_upto_if 136 with fail
                  go_cut [] (fun wx => ∃ fb : Nat → WK, Hid (HoldAt w5 (ns : Int) r (some ⟨g5, o5, none⟩) N c5 b rr ns L1 g2 fb gt T gw kw wx) ∧ Hid (∀ (j : Nat) (y : TV), M[j]? = some y → OInv y.c (fb j)))
                  case first =>
                    cases q with
                    | false =>
                      go_wp2_with fail
                      go_meet
                      exact ⟨f1, H3, HO1⟩
                    | true =>
                      go_wp2_with fail
                      go_meet
                      refine ⟨setW f1 j (freshW Y.c), ?_, ?_⟩
                      · have := H3.out.set hj6 (freshW Y.c)
                        unfold freshW at this
                        dsimp only at this
                        rw [wd_false, wd_false, wd_false, wd_false] at this
                        exact this
                      · intro j' y hy
                        unfold setW
                        split
                        · rename_i e
                          subst e
                          rw [HYM.out] at hy; cases hy
                          exact oinv_fresh _
                        · exact HO1.out j' y hy
                  case rest =>
                    obtain ⟨fb, H4, HO2⟩ := hcut
                    obtain ⟨wk, hwk⟩ : ∃ wk, fb j = wk := ⟨_, rfl⟩
                    have HWK := Lib.hid hwk
                    have HOK2 := Lib.hid (HO2.out j Y HYM.out)
                    rw [hwk] at HOK2
                    have ST := Lib.hid (fun w (hw : Below wc.heap.size wc w) => cstep_any Y r wk.dn wk.dm wk.db wk.rl wk.sn w (H4.out.t.ch.below hw) (HYO.out.below (H4.out.t.low.trans (hw.mono H4.out.t.low.size))) (by have := HOK2.out.dm; have := HYG.out.cd; have := HYG.out.dt; have := HYG.out.t24; omega) (by have := HOK2.out.b1; omega))
                    have HTK2 : Hid (∀ x, stepL ns L1 Y.id (accOf Y wk.dn).1 (accOf Y wk.dn).2 r ⟨wk.dn, wk.dm, wk.db, wk.rl, wk.sn⟩ x = L1 x ∨ allN M T.id M.length x = true) := fun x => other_takes HYM.out HYT.out HOK2.out x
                    have HON : Hid (OInv Y.c (stepW ns L1 Y.id (accOf Y wk.dn).1 (accOf Y wk.dn).2 r ⟨wk.dn, wk.dm, wk.db, wk.rl, wk.sn⟩).1) := HOK2.out.step (by omega) _ _ _ _ _
                    obtain ⟨⟨o, q'⟩, hst⟩ : ∃ z, stepW ns L1 Y.id (accOf Y wk.dn).1 (accOf Y wk.dn).2 r ⟨wk.dn, wk.dm, wk.db, wk.rl, wk.sn⟩ = z := ⟨_, rfl⟩
                    rw [hst] at ST HON
                    unfold StepBack at ST
                    dsimp only at ST HON
                    generalize stepL ns L1 Y.id (accOf Y wk.dn).1 (accOf Y wk.dn).2 r ⟨wk.dn, wk.dm, wk.db, wk.rl, wk.sn⟩ = L2 at ST HTK2
                    have MK : Hid (∀ w', Turn (fun k => k = rr) wc w' → (w'.cell? ⟨w5.heap.size, 1, none⟩ = some (.int .i64 r) ∧ w'.cell? ⟨w5.heap.size, 2, none⟩ = some (.slice (some ⟨g5, o5, none⟩) N c5) ∧ w'.cell? ⟨g5, o5 + j * 7, none⟩ = some (.int .i64 Y.id) ∧ w'.cell? ⟨g5, o5 + j * 7 + 1, none⟩ = some (.int .i64 Y.c) ∧ w'.cell? ⟨g5, o5 + j * 7 + 2, none⟩ = some (.int .i64 Y.d) ∧ w'.cell? ⟨g5, o5 + j * 7 + 3, none⟩ = some (.int .i64 Y.t) ∧ w'.cell? ⟨g5, o5 + j * 7 + 4, none⟩ = some (.int .i64 Y.p) ∧ w'.cell? ⟨g5, o5 + j * 7 + 5, none⟩ = some (.slice Y.a1 Y.ch.length Y.c1) ∧ w'.cell? ⟨g5, o5 + j * 7 + 6, none⟩ = some (.slice Y.a2 Y.us.length Y.c2) ∧ w'.cell? ⟨g2, j * 8, none⟩ = some (.int .i64 wk.dn) ∧ w'.cell? ⟨g2, j * 8 + 1, none⟩ = some (.int .i64 wk.dm) ∧ w'.cell? ⟨g2, j * 8 + 2, none⟩ = some (.int .i64 wk.db) ∧ w'.cell? ⟨g2, j * 8 + 3, none⟩ = some (.int .i64 wk.rl) ∧ w'.cell? ⟨g2, j * 8 + 4, none⟩ = some (.int .u64 (wd wk.sn 0)) ∧ w'.cell? ⟨g2, j * 8 + 5, none⟩ = some (.int .u64 (wd wk.sn 1)) ∧ w'.cell? ⟨g2, j * 8 + 6, none⟩ = some (.int .u64 (wd wk.sn 2)) ∧ w'.cell? ⟨g2, j * 8 + 7, none⟩ = some (.int .u64 (wd wk.sn 3)))) := fun w' ht => by
                      have hsb := ht.obj H4.out.t.sb (Nat.ne_of_lt H4.out.t.lr)
                      have hlow := H4.out.t.low.trans (ht.below (B := w5.heap.size) H4.out.t.low.size (fun i q => by subst q; exact Nat.le_of_lt H4.out.t.lr))
                      obtain ⟨x0, x1, x2, x3, x4, x5, x6⟩ := HYW.out
                      obtain ⟨y0, y1, y2, y3, y4, y5, y6, y7⟩ := (H4.out.t.ar.turn ht H4.out.t.gr).cells hj6
                      rw [HWK.out] at y0 y1 y2 y3 y4 y5 y6 y7
                      exact ⟨by rw [blk_cell hsb]; rfl, by rw [blk_cell hsb]; rfl, kept_cellB hlow (block_of_cell x0) x0, kept_cellB hlow (block_of_cell x1) x1, kept_cellB hlow (block_of_cell x2) x2, kept_cellB hlow (block_of_cell x3) x3, kept_cellB hlow (block_of_cell x4) x4, kept_cellB hlow (block_of_cell x5) x5, kept_cellB hlow (block_of_cell x6) x6, y0, y1, y2, y3, y4, y5, y6, y7⟩
                    clear hst hwk a0 a1 a2 a3 a4 a5' a6 a7 f0 f1x f2 f3 f4 f5 f6 f7 s2 t1 H3
                    have tb := Turn.refl (fun k => k = rr) wc
                    have bb := Below.refl wc.heap.size wc
                    have HNE : Hid (wc.heap.size ≠ rr) := by have := H4.out.t.ch.lt.2; show _ ≠ _; omega
                    go_upto_region 22 with fail
                    go_cut [18, 19] (fun u v wx => ∃ gx : Nat, u = .pointer (some ⟨gx, 0, none⟩) ∧ v = .bool q' ∧ Hid (HoldAt w5 (ns : Int) r (some ⟨g5, o5, none⟩) N c5 b rr ns L2 g2 fb gt T gw kw wx) ∧ Hid (wx.heap[gx]? = some (.cells #[.int .i64 o.dn, .int .i64 o.dm, .int .i64 o.db, .int .i64 o.rl, .int .u64 (wd o.sn 0), .int .u64 (wd o.sn 1), .int .u64 (wd o.sn 2), .int .u64 (wd o.sn 3)] WT (0, 0))))
                    case first =>
                      go_region_held3 (fun w' => w'.cell? ⟨w5.heap.size, 1, none⟩ = some (.int .i64 r) ∧ w'.cell? ⟨w5.heap.size, 2, none⟩ = some (.slice (some ⟨g5, o5, none⟩) N c5) ∧ w'.cell? ⟨g5, o5 + j * 7, none⟩ = some (.int .i64 Y.id) ∧ w'.cell? ⟨g5, o5 + j * 7 + 1, none⟩ = some (.int .i64 Y.c) ∧ w'.cell? ⟨g5, o5 + j * 7 + 2, none⟩ = some (.int .i64 Y.d) ∧ w'.cell? ⟨g5, o5 + j * 7 + 3, none⟩ = some (.int .i64 Y.t) ∧ w'.cell? ⟨g5, o5 + j * 7 + 4, none⟩ = some (.int .i64 Y.p) ∧ w'.cell? ⟨g5, o5 + j * 7 + 5, none⟩ = some (.slice Y.a1 Y.ch.length Y.c1) ∧ w'.cell? ⟨g5, o5 + j * 7 + 6, none⟩ = some (.slice Y.a2 Y.us.length Y.c2) ∧ w'.cell? ⟨g2, j * 8, none⟩ = some (.int .i64 wk.dn) ∧ w'.cell? ⟨g2, j * 8 + 1, none⟩ = some (.int .i64 wk.dm) ∧ w'.cell? ⟨g2, j * 8 + 2, none⟩ = some (.int .i64 wk.db) ∧ w'.cell? ⟨g2, j * 8 + 3, none⟩ = some (.int .i64 wk.rl) ∧ w'.cell? ⟨g2, j * 8 + 4, none⟩ = some (.int .u64 (wd wk.sn 0)) ∧ w'.cell? ⟨g2, j * 8 + 5, none⟩ = some (.int .u64 (wd wk.sn 1)) ∧ w'.cell? ⟨g2, j * 8 + 6, none⟩ = some (.int .u64 (wd wk.sn 2)) ∧ w'.cell? ⟨g2, j * 8 + 7, none⟩ = some (.int .u64 (wd wk.sn 3))) (exact MK.out _ (by repeat (first | (with_reducible assumption) | (with_reducible refine Turn.drew ?_) | (with_reducible refine Turn.alloc ?_ _) | with_reducible refine Turn.setCell ?_ (fun q => absurd q (Nat.lt_irrefl _)) _))) (first | (go_at_call 17; (with_reducible refine (ST.out _ (by repeat (first | (with_reducible assumption) | refine Below.drew ?_ | refine Below.alloc ?_ (by first | omega | (simp; omega)) _))).mono ?_); rintro e wx ⟨rfl, hcx, htx⟩; have tx := Turn.then ((by repeat (first | (with_reducible assumption) | (with_reducible refine Turn.drew ?_) | (with_reducible refine Turn.alloc ?_ _) | with_reducible refine Turn.setCell ?_ (fun q => absurd q (Nat.lt_irrefl _)) _)) : Turn (fun k => k = rr) wc _) htx; have HCX := Lib.hid hcx; (try (have hq : wx.heap[wc.heap.size]? = _ := htx.obj (heap_alloc_new wc.drew _) HNE.out; have FB := Lib.hid (H4.out.put tx hcx hq (.int .i64 o.dn) (.int .i64 o.dm) (.int .i64 o.db) (.int .i64 o.rl) (.int .u64 (wd o.sn 0)) (.int .u64 (wd o.sn 1)) (.int .u64 (wd o.sn 2)) (.int .u64 (wd o.sn 3))); have p0 : wx.cell? ⟨wc.heap.size, 0, none⟩ = some (.int .i64 0) := (by rw [blk_cell hq]; rfl); have p1 : wx.cell? ⟨wc.heap.size, 1, none⟩ = some (.int .i64 0) := (by rw [blk_cell hq]; rfl); have p2 : wx.cell? ⟨wc.heap.size, 2, none⟩ = some (.int .i64 0) := (by rw [blk_cell hq]; rfl); have p3 : wx.cell? ⟨wc.heap.size, 3, none⟩ = some (.int .i64 0) := (by rw [blk_cell hq]; rfl); have p4 : wx.cell? ⟨wc.heap.size, 4, none⟩ = some (.int .u64 0) := (by rw [blk_cell hq]; rfl); have p5 : wx.cell? ⟨wc.heap.size, 5, none⟩ = some (.int .u64 0) := (by rw [blk_cell hq]; rfl); have p6 : wx.cell? ⟨wc.heap.size, 6, none⟩ = some (.int .u64 0) := (by rw [blk_cell hq]; rfl); have p7 : wx.cell? ⟨wc.heap.size, 7, none⟩ = some (.int .u64 0) := (by rw [blk_cell hq]; rfl); have fp0 : wx.frozen? ⟨wc.heap.size, 0, none⟩ = false := blk_free hq 0; have fp1 : wx.frozen? ⟨wc.heap.size, 1, none⟩ = false := blk_free hq 1; have fp2 : wx.frozen? ⟨wc.heap.size, 2, none⟩ = false := blk_free hq 2; have fp3 : wx.frozen? ⟨wc.heap.size, 3, none⟩ = false := blk_free hq 3; have fp4 : wx.frozen? ⟨wc.heap.size, 4, none⟩ = false := blk_free hq 4; have fp5 : wx.frozen? ⟨wc.heap.size, 5, none⟩ = false := blk_free hq 5; have fp6 : wx.frozen? ⟨wc.heap.size, 6, none⟩ = false := blk_free hq 6; have fp7 : wx.frozen? ⟨wc.heap.size, 7, none⟩ = false := blk_free hq 7; clear hq)); clear hcx htx))
                      all_goals
                        go_wp2_with fail
                        go_meet
                        first
                          | (have FB2 := FB
                             refine ⟨wc.heap.size, rfl, rfl, ?_, ?_⟩
                             · with_reducible exact Lib.hid FB2.out.1
                             · with_reducible exact Lib.hid FB2.out.2)
                          | (refine ⟨wx.heap.size, rfl, rfl, ?_, ?_⟩
                             · with_reducible exact Lib.hid (HoldAt.below (H4.out.turn tx HCX.out) (bw_alloc (Below.refl _ _) _))
                             · with_reducible exact Lib.hid (heap_alloc_new wx _))
                    case rest =>
                      obtain ⟨gx, rfl, rfl, H5, HX⟩ := hcut
                      clear MK ST tb bb HNE H4
                      have b0 : wc.cell? ⟨gx, 0, none⟩ = some (.int .i64 o.dn) := by rw [blk_cell HX.out]; rfl
                      have b1 : wc.cell? ⟨gx, 1, none⟩ = some (.int .i64 o.dm) := by rw [blk_cell HX.out]; rfl
                      have b2 : wc.cell? ⟨gx, 2, none⟩ = some (.int .i64 o.db) := by rw [blk_cell HX.out]; rfl
                      have b3 : wc.cell? ⟨gx, 3, none⟩ = some (.int .i64 o.rl) := by rw [blk_cell HX.out]; rfl
                      have b4 : wc.cell? ⟨gx, 4, none⟩ = some (.int .u64 (wd o.sn 0)) := by rw [blk_cell HX.out]; rfl
                      have b5 : wc.cell? ⟨gx, 5, none⟩ = some (.int .u64 (wd o.sn 1)) := by rw [blk_cell HX.out]; rfl
                      have b6 : wc.cell? ⟨gx, 6, none⟩ = some (.int .u64 (wd o.sn 2)) := by rw [blk_cell HX.out]; rfl
                      have b7 : wc.cell? ⟨gx, 7, none⟩ = some (.int .u64 (wd o.sn 3)) := by rw [blk_cell HX.out]; rfl
                      obtain ⟨a0, a1, a2, a3, a4, a5', a6, a7⟩ := H5.out.t.ar.cells hj6
                      have f0 := H5.out.t.ar.free (j * 8)
                      have f1x := H5.out.t.ar.free (j * 8 + 1)
                      have f2 := H5.out.t.ar.free (j * 8 + 2)
                      have f3 := H5.out.t.ar.free (j * 8 + 3)
                      have f4 := H5.out.t.ar.free (j * 8 + 4)
                      have f5 := H5.out.t.ar.free (j * 8 + 5)
                      have f6 := H5.out.t.ar.free (j * 8 + 6)
                      have f7 := H5.out.t.ar.free (j * 8 + 7)
                      have HSET := Lib.hid (H5.out.set hj6 o)
                      have HO3 : Hid (∀ (j' : Nat) (y : TV), M[j']? = some y → OInv y.c (setW fb j o j')) := fun j' y hy => by
                        unfold setW
                        split
                        · rename_i e
                          subst e
                          rw [HYM.out] at hy; cases hy
                          exact HON.out
                        · exact HO2.out j' y hy
                      have HAW2 := Lib.hid (HAW.out.step HTK2.out)
                      have hmm : IntKind.i64.wrap ((m : Int) + 1) = (m : Int) + 1 := IntWalk.i64_in _ (by omega)
                      go_wp2
                      go_roundw
                      case rel => exact ⟨m + 1, L2, setW fb j o, by omega, by go_num, HSET, HAW2, HO3⟩
                      case measure => simp [intOf]; omega
              · obtain rfl : m = z0 := by omega
                have htm1 : IntKind.i64.wrap ((tm : Int) + 1) = (tm : Int) + 1 := IntWalk.i64_in _ (by omega)
                have HHA : Hid (Held T.us C T.id r Mx (tm + 1) L1 d kw) := HH.out.away hr0 (allN M T.id M.length) hdc HUM.out (fun x _ => HAW.out x)
                go_wp2_with fail
                go_meet
                exact ⟨tm + 1, L1, f1, by go_num, by omega, HQ, HHA, HO1⟩
      case rest =>
        obtain ⟨tm', Lc', f', rfl, htm', HP', HH', HO'⟩ := hcut
        clear HP HH HO u1 u2 s2 q0 p1 hq2
        have hwb := HP'.out.wb
        have htb := HP'.out.tb
        have hsb := HP'.out.t.sb
        have s1 : wc.cell? ⟨w5.heap.size, 1, none⟩ = some (.int .i64 r) := by rw [blk_cell hsb]; rfl
        have t0 : wc.cell? ⟨gt, 0, none⟩ = some (.int .i64 T.id) := by rw [blk_cell htb]; rfl
        have t1 : wc.cell? ⟨gt, 1, none⟩ = some (.int .i64 T.c) := by rw [blk_cell htb]; rfl
        have t2 : wc.cell? ⟨gt, 2, none⟩ = some (.int .i64 T.d) := by rw [blk_cell htb]; rfl
        have t3 : wc.cell? ⟨gt, 3, none⟩ = some (.int .i64 T.t) := by rw [blk_cell htb]; rfl
        have t4 : wc.cell? ⟨gt, 4, none⟩ = some (.int .i64 T.p) := by rw [blk_cell htb]; rfl
        have t5 : wc.cell? ⟨gt, 5, none⟩ = some (.slice T.a1 T.ch.length T.c1) := by rw [blk_cell htb]; rfl
        have t6 : wc.cell? ⟨gt, 6, none⟩ = some (.slice T.a2 T.us.length T.c2) := by rw [blk_cell htb]; rfl
        have k0 : wc.cell? ⟨gw, 0, none⟩ = some (.int .i64 kw.dn) := by rw [blk_cell hwb]; rfl
        have k1 : wc.cell? ⟨gw, 1, none⟩ = some (.int .i64 kw.dm) := by rw [blk_cell hwb]; rfl
        have k2 : wc.cell? ⟨gw, 2, none⟩ = some (.int .i64 kw.db) := by rw [blk_cell hwb]; rfl
        have k3 : wc.cell? ⟨gw, 3, none⟩ = some (.int .i64 kw.rl) := by rw [blk_cell hwb]; rfl
        have k4 : wc.cell? ⟨gw, 4, none⟩ = some (.int .u64 (wd kw.sn 0)) := by rw [blk_cell hwb]; rfl
        have k5 : wc.cell? ⟨gw, 5, none⟩ = some (.int .u64 (wd kw.sn 1)) := by rw [blk_cell hwb]; rfl
        have k6 : wc.cell? ⟨gw, 6, none⟩ = some (.int .u64 (wd kw.sn 2)) := by rw [blk_cell hwb]; rfl
        have k7 : wc.cell? ⟨gw, 7, none⟩ = some (.int .u64 (wd kw.sn 3)) := by rw [blk_cell hwb]; rfl
        have hfit : Fits T.id r kw := ⟨⟨by have := HG.out.id; omega, by have := HG.out.id; omega⟩, by omega, by omega, by have := HH'.out.dn; omega, by have := HH'.out.dn; have := HH'.out.dm; omega, HH'.out.b0⟩
        have hHC := HH'.out
        rw [show C = T.c.toNat by have := HC.out; omega] at hHC
        obtain ⟨d', hd1, hd2, hd3⟩ := held_tick HG.out rfl (by omega) hHC hfit (by have := HC.out; omega) (by have := HRL.out; omega)
        rw [show T.c.toNat = C by have := HC.out; omega] at hd1
        have hdb : kw.db ≤ 9223372036854775807 := by
          have h1 := HH'.out.cost hr0
          have h2 := (held_cost HH'.out hr0 hr3 hMxl (by omega) (by have := HRL.out; omega)).2.2
          have h3 := mul_small hr0 (show r ≤ 1000 by omega) hMxl
          have h4 : (tm' : Int) * (r * (Mx : Int)) ≤ 60 * 256000 := Int.mul_le_mul (by omega) h3.2 h3.1 (by omega)
          have := HH'.out.r0
          omega
        have hdm : kw.dm ≤ 9223372036854775807 := by have := HH'.out.dm; omega
        have ST := Lib.hid (fun w (hw : Below wc.heap.size wc w) => cstep_any T r kw.dn kw.dm kw.db kw.rl kw.sn w (HP'.out.t.ch.below hw) (HTO.out.below (HP'.out.t.low.trans (hw.mono HP'.out.t.low.size))) hdm hdb)
        rw [show (⟨kw.dn, kw.dm, kw.db, kw.rl, kw.sn⟩ : WK) = kw from rfl] at ST
        have HD := Lib.hid hd1
        have hrl' : (stepW ns Lc' T.id (accOf T kw.dn).1 (accOf T kw.dn).2 r kw).1.rl ≤ ((i + 1 : Nat) : Int) := by have := HRL.out; omega
        obtain ⟨⟨o, q'⟩, hst⟩ : ∃ z, stepW ns Lc' T.id (accOf T kw.dn).1 (accOf T kw.dn).2 r kw = z := ⟨_, rfl⟩
        rw [hst] at ST HD hrl'
        unfold StepBack at ST
        dsimp only at ST HD hrl'
        generalize stepL ns Lc' T.id (accOf T kw.dn).1 (accOf T kw.dn).2 r kw = L2 at ST HD
        have HRL2 := Lib.hid hrl'
        have hcost := held_cost HD.out hr0 hr3 hMxl (by omega) (by omega)
        rw [HGA.out] at hcost
        obtain ⟨n1, n2x, n3⟩ := hcost
        have TT0 := Turn.refl (fun k => k = rr) wc
        clear hfit hHC hd1 hd2 hd3 hdb hst hwb htb hsb hrl'
        go_upto_region 26 with (go_at_call 17; (with_reducible refine (ST.out _ (Below.refl _ _)).mono ?_); rintro e wx ⟨rfl, hcx, htx⟩; have HTX := Lib.hid htx; have HCX := Lib.hid hcx; clear hcx htx)
        have hh := HP'.out.turn HTX.out HCX.out
        obtain ⟨gx, hgx⟩ : ∃ gx, wx.heap.size = gx := ⟨_, rfl⟩
        have hnew := heap_alloc_new wx (.cells #[.int .i64 o.dn, .int .i64 o.dm, .int .i64 o.db, .int .i64 o.rl, .int .u64 (wd o.sn 0), .int .u64 (wd o.sn 1), .int .u64 (wd o.sn 2), .int .u64 (wd o.sn 3)] WT)
        rw [hgx] at hnew ⊢
        refine gen_world (fun v => HoldAt w5 (ns : Int) r (some ⟨g5, o5, none⟩) N c5 b rr ns L2 g2 f' gt T gw kw v ∧ v.heap[gx]? = some (.cells #[.int .i64 o.dn, .int .i64 o.dm, .int .i64 o.db, .int .i64 o.rl, .int .u64 (wd o.sn 0), .int .u64 (wd o.sn 1), .int .u64 (wd o.sn 2), .int .u64 (wd o.sn 3)] WT (0, 0))) ⟨hh.below (by repeat (first | exact Below.refl _ _ | (with_reducible assumption) | refine bw_alloc ?_ _ | refine bw_drew ?_)), hnew⟩ ?_
        intro V5 ⟨hv5, hx5⟩
        have H5 := Lib.hid hv5
        have hwb5 := hv5.wb
        have b0 : V5.cell? ⟨gx, 0, none⟩ = some (.int .i64 o.dn) := by rw [blk_cell hx5]; rfl
        have b1 : V5.cell? ⟨gx, 1, none⟩ = some (.int .i64 o.dm) := by rw [blk_cell hx5]; rfl
        have b2 : V5.cell? ⟨gx, 2, none⟩ = some (.int .i64 o.db) := by rw [blk_cell hx5]; rfl
        have b3 : V5.cell? ⟨gx, 3, none⟩ = some (.int .i64 o.rl) := by rw [blk_cell hx5]; rfl
        have b4 : V5.cell? ⟨gx, 4, none⟩ = some (.int .u64 (wd o.sn 0)) := by rw [blk_cell hx5]; rfl
        have b5 : V5.cell? ⟨gx, 5, none⟩ = some (.int .u64 (wd o.sn 1)) := by rw [blk_cell hx5]; rfl
        have b6 : V5.cell? ⟨gx, 6, none⟩ = some (.int .u64 (wd o.sn 2)) := by rw [blk_cell hx5]; rfl
        have b7 : V5.cell? ⟨gx, 7, none⟩ = some (.int .u64 (wd o.sn 3)) := by rw [blk_cell hx5]; rfl
        have e0 : V5.cell? ⟨gw, 0, none⟩ = some (.int .i64 kw.dn) := by rw [blk_cell hwb5]; rfl
        have ef0 := blk_free hwb5 0
        have e1 : V5.cell? ⟨gw, 1, none⟩ = some (.int .i64 kw.dm) := by rw [blk_cell hwb5]; rfl
        have ef1 := blk_free hwb5 1
        have e2 : V5.cell? ⟨gw, 2, none⟩ = some (.int .i64 kw.db) := by rw [blk_cell hwb5]; rfl
        have ef2 := blk_free hwb5 2
        have e3 : V5.cell? ⟨gw, 3, none⟩ = some (.int .i64 kw.rl) := by rw [blk_cell hwb5]; rfl
        have ef3 := blk_free hwb5 3
        have e4 : V5.cell? ⟨gw, 4, none⟩ = some (.int .u64 (wd kw.sn 0)) := by rw [blk_cell hwb5]; rfl
        have ef4 := blk_free hwb5 4
        have e5 : V5.cell? ⟨gw, 5, none⟩ = some (.int .u64 (wd kw.sn 1)) := by rw [blk_cell hwb5]; rfl
        have ef5 := blk_free hwb5 5
        have e6 : V5.cell? ⟨gw, 6, none⟩ = some (.int .u64 (wd kw.sn 2)) := by rw [blk_cell hwb5]; rfl
        have ef6 := blk_free hwb5 6
        have e7 : V5.cell? ⟨gw, 7, none⟩ = some (.int .u64 (wd kw.sn 3)) := by rw [blk_cell hwb5]; rfl
        have ef7 := blk_free hwb5 7
        have HOWN := Lib.hid (hv5.own o)
        clear hh hnew hgx hv5 hx5 hwb5 s1 t0 t1 t2 t3 t4 t5 t6 k0 k1 k2 k3 k4 k5 k6 k7 TT0 ST
        go_upto_region 27 with fail
        refine gen_world (HoldAt w5 (ns : Int) r (some ⟨g5, o5, none⟩) N c5 b rr ns L2 g2 f' gt T gw o) HOWN.out ?_
        intro V6 hv6
        have H6 := Lib.hid hv6
        have hwb6 := hv6.wb
        have k2 : V6.cell? ⟨gw, 2, none⟩ = some (.int .i64 o.db) := by rw [blk_cell hwb6]; rfl
        have k3 : V6.cell? ⟨gw, 3, none⟩ = some (.int .i64 o.rl) := by rw [blk_cell hwb6]; rfl
        clear hv6 hwb6 HOWN
        have hii : IntKind.i64.wrap ((i : Int) + 1) = (i : Int) + 1 := IntWalk.i64_in _ (by omega)
        go_wp2
        go_roundw
        case rel => exact ⟨i + 1, tm', L2, d', o, f', by omega, htm', by go_num, rfl, H6, HD, HRL2, HO'⟩
        case measure => simp [intOf]; omega
end Go.Proofs.Ytlglncnhhgofoaa

/-
  What says who runs when, opened; the rows of the statements of charge.
-/
namespace Go.Proofs.Ytlglncnhhgofoaa
open Go.ChangeShapes Go.WideShapes Go.ChangeAt Go.RowKit
section
variable {H : Type} {enc : TypeId × Value → H} {W : World} {base : Nat} {spare : Nat → Bool} {held : Bool}
set_option maxRecDepth 100000 in
theorem open_pairs_t {fuel : Nat} {v : Value} {y : DataW H × List MemPlace} (h : DataW.trod enc Try.prog W base spare held fuel 41 [v] = some y) :
    ∃ (a : Option Addr) (n c : Nat) (l : Nat → Int × Int), v = .slice a n c ∧ Pairs W a n l := by
  have k1 : Try.prog.cellsOf 3 = 1 := by kernel_rfl
  have k2 : Try.prog.cellsOf 52 = 2 := by kernel_rfl
  rcases Go.Deep.open_slice Try.underlying41 h with ⟨hcs, _⟩ | ⟨a, len, cap, m, n, D, Pl, hcs, hb, hl, hm, hmm, hx, hi⟩
  · simp at hcs
    subst hcs
    exact ⟨none, 0, 0, fun _ => (0, 0), rfl, by omega, fun k hk => absurd hk (Nat.not_lt_zero _), fun k hk => absurd hk (Nat.not_lt_zero _)⟩
  · simp at hcs
    subst hcs
    have hlm : len ≤ m := by rw [hmm]; split <;> omega
    obtain ⟨O, hO⟩ := Go.Deep.choose_lt (n := len) (p := fun i (o : Int × Int) => (I64 o.1 ∧ I64 o.2) ∧ W.cell? (a.add (i * 2)) = some (.int .i64 o.1) ∧ W.cell? (a.add (i * 2 + 1)) = some (.int .i64 o.2)) (fun i hil => by
      obtain ⟨cs, hc, htr⟩ := hi i (by omega)
      rw [k2] at hc
      obtain ⟨_, hcl, hat⟩ := World.cells?_some hc
      obtain ⟨ys, m', _, _, hlen, hyl, hall⟩ := DataW.trod_array Try.underlying52 htr
      rw [k1] at hall
      match cs, hcl, ys, hyl with
      | [v0, v1], _, [y0, y1], _ =>
        have t0 : DataW.trod enc Try.prog W base spare held m' 3 [v0] = some y0 := by have q := hall 0 (by omega); simpa using q
        have t1 : DataW.trod enc Try.prog W base spare held m' 3 [v1] = some y1 := by have q := hall 1 (by omega); simpa using q
        obtain ⟨n0, e0, _, w0⟩ := DataW.trod_int Try.underlying3 t0
        obtain ⟨n1, e1, _, w1⟩ := DataW.trod_int Try.underlying3 t1
        simp at e0 e1
        subst e0 e1
        have c0 := hat 0 (by omega)
        have c1 := hat 1 (by omega)
        rw [Go.Deep.add_add] at c0 c1
        exact ⟨(n0, n1), ⟨i64_of_wf w0, i64_of_wf w1⟩, c0, c1⟩)
    refine ⟨some a, len, cap, O, rfl, by unfold maxLen at hm; omega, fun k hk => ?_, fun k hk => (hO k hk).1⟩
    obtain ⟨_, c0, c1⟩ := hO k hk
    have z0 := (hO 0 (by omega)).2.1
    rcases a with ⟨b, off, spot⟩
    have hs : spot = none := by
      cases spot with
      | none => rfl
      | some s => simp [World.cell?, Addr.add] at z0; split at z0 <;> simp at z0
    subst hs
    rw [addr_at] at c0 c1
    exact ⟨b, off, rfl, c0, c1⟩
set_option maxRecDepth 100000 in
/-- Which task runs, when it is preempted, by whom. -/
theorem open_run {r : Reach} {b0 : Nat} {v : Value} {d : DataW H} {p : List MemPlace} (hv : Value.okWide Try.prog W r b0 43 v) (h : DataW.Trod enc Try.prog W base spare held 43 v d p) :
    ∃ (which : Int) (x : Nat) (a : Option Addr) (n c : Nat) (l : Nat → Int × Int), v = .agg #[.int .i64 which, .int .u64 x, .slice a n c] ∧ x < 18446744073709551616 ∧ Pairs W a n l := by
  obtain ⟨v0, v1, v2, y0, y1, y2, n, rfl, o1, o2, t0, t1, t2⟩ := Go.Joins.open_agg3 Try.underlying43 (by kernel_rfl) (by kernel_rfl) hv h
  obtain ⟨n0, e0, _, _⟩ := DataW.trod_int Try.underlying3 t0
  obtain ⟨n1, e1, _, w1⟩ := DataW.trod_int Try.underlying40 t1
  simp at e0 e1
  subst e0 e1
  simp [Lit.wf, IntKind.min, IntKind.max, IntKind.signed, IntKind.bits] at w1
  obtain ⟨m, rfl⟩ : ∃ m : Nat, n1 = (m : Int) := ⟨n1.toNat, by omega⟩
  obtain ⟨a, n', c, l, rfl, hp⟩ := open_pairs_t t2
  exact ⟨n0, m, a, n', c, l, rfl, by omega, hp⟩
end
theorem row_least (W : World) (S R : Int) (a : Option Addr) (n cap : Nat) (L : List NV) (hn : Nums W a n cap L) :
    Calls Try.prog 4 #[.agg #[.int .i64 S, .int .i64 R, .slice a n cap]] W fun e w' => e = .returned (.bool true) ∧ Below W.heap.size W w' := law_least W S R a n cap L hn
theorem row_grows (W : World) (S R : Int) (a : Option Addr) (n cap : Nat) (L : List NV) (hn : Nums W a n cap L) :
    Calls Try.prog 6 #[.agg #[.int .i64 S, .int .i64 R, .slice a n cap]] W fun e w' => e = .returned (.bool true) ∧ Below W.heap.size W w' := law_grows W S R a n cap L hn
theorem row_apart (W : World) (S R : Int) (a : Option Addr) (n cap : Nat) (L : List NV) (hn : Nums W a n cap L) :
    Calls Try.prog 7 #[.agg #[.int .i64 S, .int .i64 R, .slice a n cap]] W fun e w' => e = .returned (.bool true) ∧ Below W.heap.size W w' := law_apart W S R a n cap L hn
theorem row_holds (W : World) (S R : Int) (a : Option Addr) (n cap : Nat) (L : List NV) (hn : Nums W a n cap L) (which : Int) (x : Nat) (a2 : Option Addr) (n2 cap2 : Nat) (l : Nat → Int × Int) (hx : x < 18446744073709551616) (hp : Pairs W a2 n2 l) :
    Calls Try.prog 5 #[.agg #[.int .i64 S, .int .i64 R, .slice a n cap], .agg #[.int .i64 which, .int .u64 x, .slice a2 n2 cap2]] W fun e w' => e = .returned (.bool true) ∧ Below W.heap.size W w' := law_holds W S R a n cap L hn which x hx a2 n2 cap2 l hp
end Go.Proofs.Ytlglncnhhgofoaa
