/-
  The walk over what tells a text's words one by one.
-/
import Derived.Test.YtbipjilpogbicaaDoorLDec
import Derived.Lib.OthersKept
import Derived.RangeFuncNested
import Derived.RangeFuncBound
import Derived.RangeFuncCalls
import Derived.RangeFuncLeaves
import Derived.RangeFuncBox
import Derived.Shelf.Abstract
import Derived.Shelf.RegionOpen
import Derived.OwnWalkIn
import Derived.TacticsInMore
import Derived.LoopNIn
import Derived.LoopIn
namespace Go.Proofs.YtbipjilpogbicaaDoor
open Go.RowKit Go.Maps Go.Shelf
attribute [local go_sem] Oper.semAt_some

theorem parts_any (r : Int) (B : Bool) (hB : decide (r = 32 ∨ r = 9 ∨ r = 10) = B) (w : World) : Calls Tryd.prog 37 #[.int .i32 r] w fun e w' => e = .returned (.bool B) ∧ w' = w := by
  have HB := Lib.hid hB
  clear hB
  go_enter Tryd.func37, Tryd.ntmps37
  by_cases h32 : r = 32
  · have HH : Hid (B = true) := by show _ = _; rw [← HB.out]; exact decide_eq_true (.inl h32)
    have d1 : (r == 32) = true := beq_iff_eq.2 h32
    clear h32
    go_wp2
    go_ret
    exact ⟨by rw [HH.out]; rfl, rfl⟩
  · have d1 : (r == 32) = false := beq_eq_false_iff_ne.2 h32
    by_cases h9 : r = 9
    · have HH : Hid (B = true) := by show _ = _; rw [← HB.out]; exact decide_eq_true (.inr (.inl h9))
      have d2 : (r == 9) = true := beq_iff_eq.2 h9
      clear h32 h9
      go_wp2
      go_ret
      exact ⟨by rw [HH.out]; rfl, rfl⟩
    · have d2 : (r == 9) = false := beq_eq_false_iff_ne.2 h9
      by_cases h10 : r = 10
      · have HH : Hid (B = true) := by show _ = _; rw [← HB.out]; exact decide_eq_true (.inr (.inr h10))
        have d3 : (r == 10) = true := beq_iff_eq.2 h10
        clear h32 h9 h10
        go_wp2
        go_ret
        exact ⟨by rw [HH.out]; rfl, rfl⟩
      · have HH : Hid (B = false) := by show _ = _; rw [← HB.out]; exact decide_eq_false (by rintro (z | z | z) <;> first | exact h32 z | exact h9 z | exact h10 z)
        have d3 : (r == 10) = false := beq_eq_false_iff_ne.2 h10
        clear h32 h9 h10
        go_wp2
        go_ret
        exact ⟨by rw [HH.out]; rfl, rfl⟩

theorem parts_fn : Fence.wide.fn 37 := trivial
/-- What a round keeps: what is walked over, and the box of the text. -/
def KpW (Bn : Nat) (s : ByteArray) (W W' : World) : Prop := KeepsWalks W W' ∧ (Boxed W Bn 9 (.string s) → Boxed W' Bn 9 (.string s))
theorem kpW_t {Bn : Nat} {s : ByteArray} {A B C : World} (h : KpW Bn s A B) (k : KpW Bn s B C) : KpW Bn s A C := ⟨h.1.trans k.1, fun z => k.2 (h.2 z)⟩
theorem kpW_b {Bn : Nat} {s : ByteArray} {B : Nat} (W : World) (l : Nat) (o o' : Obj) (_ : B ≤ l) (h : W.heap[l]? = some o) (hc : o.isCells = false) (hw : o.isWalk = false) : KpW Bn s W (W.putObj l o') := by
  refine ⟨KeepsWalks.putObj _ h hw, fun z => ?_⟩
  by_cases e : Bn = l
  · subst e
    rw [show W.heap[Bn]? = _ from z] at h
    cases h
    cases hc
  · exact (World.putObj_heap_other e).trans z

set_option maxRecDepth 100000 in
set_option maxHeartbeats 4000000 in
theorem words_in (n : Nat) (hn : 1 ≤ n) (l Bn : Nat) (s : ByteArray) (hs : s.size ≤ 900000) (J Jx : List WV → World → Prop) (W : World) (hJ : AbidesFrom W.heap.size J)
    (hY : ∀ pre x W1, 1 ≤ x.ln → J pre W1 → pre.length < s.size + 1 → YieldAt Fence.wide (n - 1) Tryd.prog l #[x.val] W1 fun e W' =>
      (e = .returned (.bool true) ∧ J (pre ++ [x]) W' ∧ KpW Bn s W1 W') ∨ (e = .returned (.bool false) ∧ Jx (pre ++ [x]) W'))
    (hB : Boxed W Bn 9 (.string s)) (h0 : J [] W) :
    CallsIn Fence.wide n Tryd.prog 36 #[.func (.yield l) #[] #[], .pointer (some ⟨Bn, 0, none⟩)] W fun e W' => (∃ v, e = .returned v) ∧
      ((∃ ys, ys = wordsOf s ∧ J ys W') ∨ (∃ pre, True ∧ Jx pre W')) := by
  have HY := Lib.hid hY
  have HJ := Lib.hid hJ
  have hb := hB.cell
  have HB0 := Lib.hid hB
  have H0 : Hid (J [] W) := h0
  clear hY hJ hB h0
  refine callsIn_of_wp Tryd.func36 rfl trivial ?_ rfl
  simp only [Tryd.ntmps36, List.size_toArray, List.length_cons, List.length_nil, Nat.reduceAdd, Nat.reduceSub, Array.replicate_succ, Array.replicate_zero, List.push_toArray, List.append_toArray, List.nil_append, List.cons_append]
  gi_wp2
  gi_loopw [3, 4, 5] (fun u v x wr => ∃ (p : Nat) (q : LS), p ≤ s.size ∧ u = .int .i64 q.ln ∧ v = .bool q.off ∧ x = .int .i64 q.fr ∧ 1 ≤ q.ln ∧ q.ln ≤ (p : Int) + 1 ∧ -1 ≤ q.fr ∧ q.fr < p ∧ Hid (wrun s p = q) ∧ Hid (J q.out wr) ∧ Hid (Boxed wr Bn 9 (.string s)) ∧ Hid (wr.heap[W.heap.size]? = some (.stringIter s p))) (fun _ _ _ wr => s.size - wr.iterPos W.heap.size)
  case atStart =>
    exact ⟨0, ⟨[], 1, -1, false⟩, by omega, rfl, rfl, rfl, by simp, by simp, by simp, by simp, rfl, HJ.out _ _ _ none H0.out (World.grownBy_alloc W (.stringIter s 0) none) (fun r e => by cases e), HB0.out.alloc _, World.iter_heap W s 0⟩
  case round =>
    obtain ⟨p, q, hp, rfl, rfl, rfl, hl1, hl2, hf1, hf2, HQ, HJ1, HB1, HIT⟩ := hrel
    clear hb
    by_cases hlt : p < s.size
    · obtain ⟨r, wd, hd⟩ : ∃ r wd, Utf8.decode s p = (r, wd) := ⟨_, _, rfl⟩
      have hnx : ∀ ty, (Instr.next (.pointer (some ⟨W.heap.size, 0, none⟩)) true ty).run Tryd.prog wr = _ := fun ty => Lib.run_next_any_at wr W.heap.size s p ty HIT.out hlt
      simp only [hd] at hnx
      have HK := Lib.hid (rune_step s p hlt hd HQ.out)
      have HO := Lib.hid (wrun_rem s p)
      rw [HQ.out] at HO
      have hlen := (wrun_inv s p (by omega)).1
      rw [HQ.out] at hlen
      have HLEN : Hid (q.out.length < s.size + 1) := by show _ < _; omega
      have hw1 := HK.out.1
      have hw2 := HK.out.2.1
      have HJ2 : Hid (J q.out (wr.iterAt W.heap.size s (p + wd))) := HJ.out _ _ _ (some W.heap.size) HJ1.out (grownBy_putObj' wr W.heap.size _) (fun r e => by cases e; exact ⟨Nat.le_refl _, _, HIT.out, rfl⟩)
      have HI2 : Hid ((wr.iterAt W.heap.size s (p + wd)).heap[W.heap.size]? = some (.stringIter s (p + wd))) := Lib.iterAt_heap _ _ _ _ _ HIT.out
      have HB2 : Hid (Boxed (wr.iterAt W.heap.size s (p + wd)) Bn 9 (.string s)) := by
        show _ = _
        rw [Lib.iterAt_other]
        · exact HB1.out
        · intro e
          have := HB1.out
          unfold Boxed at this
          rw [e, HIT.out] at this
          cases this
      have hb := HB2.out.cell
      have hwl : IntKind.i64.wrap (q.ln + 1) = q.ln + 1 := IntWalk.i64_in _ (by omega)
      have hp0 : (0 : Int) ≤ (p : Int) := by omega
      have hp1 : (p : Int) ≤ (s.size : Int) := by omega
      clear hd hlen HJ1 HB1
      obtain ⟨out, ln, fr, off⟩ := q
      simp only [] at hl1 hl2 hf1 hf2 hwl
      by_cases hr10 : r = 10
      · have d1 : ((r : Int) == 35) = false := by rw [beq_eq_false_iff_ne]; omega
        have d2 : ((r : Int) == 10) = true := by rw [beq_iff_eq]; omega
        have d3 : ((r : Int) != 10) = false := by rw [bne, d2]; rfl
        have PT := Lib.hid (fun w => parts_any (r : Int) true (decide_eq_true (.inr (.inr (by omega)))) w)
        have HR := Lib.hid (HK.out.2.2.1 hr10)
        clear hr10
        cases off with
        | true =>
          obtain rfl : fr = -1 := HO.out rfl
          have HS : Hid (wrun s (p + wd) = ⟨out, ln + 1, -1, false⟩) := HR.out
          gi_wp2_with ((with_reducible refine And.intro (a := Fence.wide.fn 37) parts_fn ?_); first | (gi_at_call 37; (with_reducible refine (callsIn_wide.2 (PT.out _)).mono ?_); rintro e w' ⟨rfl, rfl⟩) | skip)
          go_roundw
          case rel => exact ⟨p + wd, ⟨out, ln + 1, -1, false⟩, by omega, rfl, rfl, rfl, by first | omega | (simp only []; omega), by first | omega | (simp only []; omega), by first | omega | (simp only []; omega), by first | omega | (simp only []; omega), HS, HJ2, HB2, HI2⟩
          case measure =>
            simp only [World.iterPos, HI2.out, HIT.out]
            omega
        | false =>
          rcases (show fr = -1 ∨ 0 ≤ fr by omega) with hfr | hfr
          · subst hfr
            have HS : Hid (wrun s (p + wd) = ⟨out, ln + 1, -1, false⟩) := HR.out
            gi_wp2_with ((with_reducible refine And.intro (a := Fence.wide.fn 37) parts_fn ?_); first | (gi_at_call 37; (with_reducible refine (callsIn_wide.2 (PT.out _)).mono ?_); rintro e w' ⟨rfl, rfl⟩) | skip)
            go_roundw
            case rel => exact ⟨p + wd, ⟨out, ln + 1, -1, false⟩, by omega, rfl, rfl, rfl, by first | omega | (simp only []; omega), by first | omega | (simp only []; omega), by first | omega | (simp only []; omega), by first | omega | (simp only []; omega), HS, HJ2, HB2, HI2⟩
            case measure =>
              simp only [World.iterPos, HI2.out, HIT.out]
              omega
          · have hfq : (fr == -1) = false := by rw [beq_eq_false_iff_ne]; omega
            have hfn : (fr != -1) = true := by rw [bne, hfq]; rfl
            have hf8 : fr ≤ (p : Int) := by omega
            have hf7 : ¬ fr < 0 := by omega
            obtain ⟨fn, tmps, assign, body, hy, hR⟩ := HY.out out ⟨fr, ln, s.extract fr.toNat p⟩ _ hl1 HJ2.out HLEN.out
            have hR := Lib.hid hR
            dsimp only [WV.val] at hy
            gi_wp2_with ((with_reducible refine And.intro (a := Fence.wide.fn 37) parts_fn ?_); first | (gi_at_call 37; (with_reducible refine (callsIn_wide.2 (PT.out _)).mono ?_); rintro e w' ⟨rfl, rfl⟩) | skip)
            refine hR.out.mono ?_
            rintro e W3 (⟨rfl, hJ3, hk3⟩ | ⟨rfl, hJx3⟩)
            · have HJ3 : Hid (J (out ++ [⟨fr, ln, s.extract fr.toNat p⟩]) W3) := hJ3
              have HB3 : Hid (Boxed W3 Bn 9 (.string s)) := hk3.2 HB2.out
              have HI3 : Hid (W3.heap[W.heap.size]? = some (.stringIter s (p + wd))) := hk3.1.same _ _ HI2.out rfl
              have HS : Hid (wrun s (p + wd) = ⟨out ++ [⟨fr, ln, s.extract fr.toNat p⟩], ln + 1, -1, false⟩) := (by show _ = _; rw [HR.out]; unfold told; simp only []; rw [if_neg (by omega)])
              clear hJ3 hk3 hy
              gi_wp2
              go_roundw
              case rel => exact ⟨p + wd, ⟨out ++ [⟨fr, ln, s.extract fr.toNat p⟩], ln + 1, -1, false⟩, by omega, rfl, rfl, rfl, by first | omega | (simp only []; omega), by first | omega | (simp only []; omega), by first | omega | (simp only []; omega), by first | omega | (simp only []; omega), HS, HJ3, HB3, HI3⟩
              case measure =>
                simp only [World.iterPos, HI3.out, HIT.out]
                omega
            · have HJx : Hid (Jx (out ++ [⟨fr, ln, s.extract fr.toNat p⟩]) W3) := hJx3
              clear hJx3 hy
              gi_wp2
              refine bodyPost_ret (results_none rfl _ _ _) rfl ?_
              exact ⟨⟨_, rfl⟩, .inr ⟨_, trivial, HJx.out⟩⟩
      · by_cases hr35 : r = 35
        · have d1 : ((r : Int) == 35) = true := by rw [beq_iff_eq]; omega
          have d2 : ((r : Int) == 10) = false := by rw [beq_eq_false_iff_ne]; omega
          have d3 : ((r : Int) != 10) = true := by rw [bne, d2]; rfl
          have HR := Lib.hid (HK.out.2.2.2.1 hr10 (.inr hr35))
          have PT : Hid True := trivial
          clear hr10 hr35
          rcases (show fr = -1 ∨ 0 ≤ fr by omega) with hfr | hfr
          · subst hfr
            have HS : Hid (wrun s (p + wd) = ⟨out, ln, -1, true⟩) := HR.out
            gi_wp2_with ((with_reducible refine And.intro (a := Fence.wide.fn 37) parts_fn ?_); first | (gi_at_call 37; (with_reducible refine (callsIn_wide.2 (PT.out _)).mono ?_); rintro e w' ⟨rfl, rfl⟩) | skip)
            go_roundw
            case rel => exact ⟨p + wd, ⟨out, ln, -1, true⟩, by omega, rfl, rfl, rfl, by first | omega | (simp only []; omega), by first | omega | (simp only []; omega), by first | omega | (simp only []; omega), by first | omega | (simp only []; omega), HS, HJ2, HB2, HI2⟩
            case measure =>
              simp only [World.iterPos, HI2.out, HIT.out]
              omega
          · have hfq : (fr == -1) = false := by rw [beq_eq_false_iff_ne]; omega
            have hfn : (fr != -1) = true := by rw [bne, hfq]; rfl
            have hf8 : fr ≤ (p : Int) := by omega
            have hf7 : ¬ fr < 0 := by omega
            obtain ⟨fn, tmps, assign, body, hy, hR⟩ := HY.out out ⟨fr, ln, s.extract fr.toNat p⟩ _ hl1 HJ2.out HLEN.out
            have hR := Lib.hid hR
            dsimp only [WV.val] at hy
            gi_wp2_with ((with_reducible refine And.intro (a := Fence.wide.fn 37) parts_fn ?_); first | (gi_at_call 37; (with_reducible refine (callsIn_wide.2 (PT.out _)).mono ?_); rintro e w' ⟨rfl, rfl⟩) | skip)
            refine hR.out.mono ?_
            rintro e W3 (⟨rfl, hJ3, hk3⟩ | ⟨rfl, hJx3⟩)
            · have HJ3 : Hid (J (out ++ [⟨fr, ln, s.extract fr.toNat p⟩]) W3) := hJ3
              have HB3 : Hid (Boxed W3 Bn 9 (.string s)) := hk3.2 HB2.out
              have HI3 : Hid (W3.heap[W.heap.size]? = some (.stringIter s (p + wd))) := hk3.1.same _ _ HI2.out rfl
              have HS : Hid (wrun s (p + wd) = ⟨out ++ [⟨fr, ln, s.extract fr.toNat p⟩], ln, -1, true⟩) := (by show _ = _; rw [HR.out]; unfold told; simp only []; rw [if_neg (by omega)])
              clear hJ3 hk3 hy
              gi_wp2
              go_roundw
              case rel => exact ⟨p + wd, ⟨out ++ [⟨fr, ln, s.extract fr.toNat p⟩], ln, -1, true⟩, by omega, rfl, rfl, rfl, by first | omega | (simp only []; omega), by first | omega | (simp only []; omega), by first | omega | (simp only []; omega), by first | omega | (simp only []; omega), HS, HJ3, HB3, HI3⟩
              case measure =>
                simp only [World.iterPos, HI3.out, HIT.out]
                omega
            · have HJx : Hid (Jx (out ++ [⟨fr, ln, s.extract fr.toNat p⟩]) W3) := hJx3
              clear hJx3 hy
              gi_wp2
              refine bodyPost_ret (results_none rfl _ _ _) rfl ?_
              exact ⟨⟨_, rfl⟩, .inr ⟨_, trivial, HJx.out⟩⟩
        · have d1 : ((r : Int) == 35) = false := by rw [beq_eq_false_iff_ne]; omega
          have d2 : ((r : Int) == 10) = false := by rw [beq_eq_false_iff_ne]; omega
          have d3 : ((r : Int) != 10) = true := by rw [bne, d2]; rfl
          cases off with
          | true =>
            obtain rfl : fr = -1 := HO.out rfl
            have HR := Lib.hid (HK.out.2.2.2.1 hr10 (.inl rfl))
            have PT : Hid True := trivial
            clear hr10 hr35
            have HS : Hid (wrun s (p + wd) = ⟨out, ln, -1, true⟩) := HR.out
            gi_wp2_with ((with_reducible refine And.intro (a := Fence.wide.fn 37) parts_fn ?_); first | (gi_at_call 37; (with_reducible refine (callsIn_wide.2 (PT.out _)).mono ?_); rintro e w' ⟨rfl, rfl⟩) | skip)
            go_roundw
            case rel => exact ⟨p + wd, ⟨out, ln, -1, true⟩, by omega, rfl, rfl, rfl, by first | omega | (simp only []; omega), by first | omega | (simp only []; omega), by first | omega | (simp only []; omega), by first | omega | (simp only []; omega), HS, HJ2, HB2, HI2⟩
            case measure =>
              simp only [World.iterPos, HI2.out, HIT.out]
              omega
          | false =>
            by_cases hbl : r = 32 ∨ r = 9
            · have HR := Lib.hid (HK.out.2.2.2.2.1 rfl hbl)
              have PT := Lib.hid (fun w => parts_any (r : Int) true (decide_eq_true (by omega)) w)
              clear hr10 hr35 hbl
              rcases (show fr = -1 ∨ 0 ≤ fr by omega) with hfr | hfr
              · subst hfr
                have HS : Hid (wrun s (p + wd) = ⟨out, ln, -1, false⟩) := HR.out
                gi_wp2_with ((with_reducible refine And.intro (a := Fence.wide.fn 37) parts_fn ?_); first | (gi_at_call 37; (with_reducible refine (callsIn_wide.2 (PT.out _)).mono ?_); rintro e w' ⟨rfl, rfl⟩) | skip)
                go_roundw
                case rel => exact ⟨p + wd, ⟨out, ln, -1, false⟩, by omega, rfl, rfl, rfl, by first | omega | (simp only []; omega), by first | omega | (simp only []; omega), by first | omega | (simp only []; omega), by first | omega | (simp only []; omega), HS, HJ2, HB2, HI2⟩
                case measure =>
                  simp only [World.iterPos, HI2.out, HIT.out]
                  omega
              · have hfq : (fr == -1) = false := by rw [beq_eq_false_iff_ne]; omega
                have hfn : (fr != -1) = true := by rw [bne, hfq]; rfl
                have hf8 : fr ≤ (p : Int) := by omega
                have hf7 : ¬ fr < 0 := by omega
                obtain ⟨fn, tmps, assign, body, hy, hR⟩ := HY.out out ⟨fr, ln, s.extract fr.toNat p⟩ _ hl1 HJ2.out HLEN.out
                have hR := Lib.hid hR
                dsimp only [WV.val] at hy
                gi_wp2_with ((with_reducible refine And.intro (a := Fence.wide.fn 37) parts_fn ?_); first | (gi_at_call 37; (with_reducible refine (callsIn_wide.2 (PT.out _)).mono ?_); rintro e w' ⟨rfl, rfl⟩) | skip)
                refine hR.out.mono ?_
                rintro e W3 (⟨rfl, hJ3, hk3⟩ | ⟨rfl, hJx3⟩)
                · have HJ3 : Hid (J (out ++ [⟨fr, ln, s.extract fr.toNat p⟩]) W3) := hJ3
                  have HB3 : Hid (Boxed W3 Bn 9 (.string s)) := hk3.2 HB2.out
                  have HI3 : Hid (W3.heap[W.heap.size]? = some (.stringIter s (p + wd))) := hk3.1.same _ _ HI2.out rfl
                  have HS : Hid (wrun s (p + wd) = ⟨out ++ [⟨fr, ln, s.extract fr.toNat p⟩], ln, -1, false⟩) := (by show _ = _; rw [HR.out]; unfold told; simp only []; rw [if_neg (by omega)])
                  clear hJ3 hk3 hy
                  gi_wp2
                  go_roundw
                  case rel => exact ⟨p + wd, ⟨out ++ [⟨fr, ln, s.extract fr.toNat p⟩], ln, -1, false⟩, by omega, rfl, rfl, rfl, by first | omega | (simp only []; omega), by first | omega | (simp only []; omega), by first | omega | (simp only []; omega), by first | omega | (simp only []; omega), HS, HJ3, HB3, HI3⟩
                  case measure =>
                    simp only [World.iterPos, HI3.out, HIT.out]
                    omega
                · have HJx : Hid (Jx (out ++ [⟨fr, ln, s.extract fr.toNat p⟩]) W3) := hJx3
                  clear hJx3 hy
                  gi_wp2
                  refine bodyPost_ret (results_none rfl _ _ _) rfl ?_
                  exact ⟨⟨_, rfl⟩, .inr ⟨_, trivial, HJx.out⟩⟩
            · have HR := Lib.hid (HK.out.2.2.2.2.2 rfl hr10 hr35 (fun z => hbl (.inl z)) (fun z => hbl (.inr z)))
              have PT := Lib.hid (fun w => parts_any (r : Int) false (decide_eq_false (by omega)) w)
              clear hr10 hr35 hbl
              rcases (show fr = -1 ∨ 0 ≤ fr by omega) with hfr | hfr
              · subst hfr
                have HS : Hid (wrun s (p + wd) = ⟨out, ln, (p : Int), false⟩) := HR.out
                gi_wp2_with ((with_reducible refine And.intro (a := Fence.wide.fn 37) parts_fn ?_); first | (gi_at_call 37; (with_reducible refine (callsIn_wide.2 (PT.out _)).mono ?_); rintro e w' ⟨rfl, rfl⟩) | skip)
                go_roundw
                case rel => exact ⟨p + wd, ⟨out, ln, (p : Int), false⟩, by omega, rfl, rfl, rfl, by first | omega | (simp only []; omega), by first | omega | (simp only []; omega), by first | omega | (simp only []; omega), by first | omega | (simp only []; omega), HS, HJ2, HB2, HI2⟩
                case measure =>
                  simp only [World.iterPos, HI2.out, HIT.out]
                  omega
              · have hfq : (fr == -1) = false := by rw [beq_eq_false_iff_ne]; omega
                have hfn : (fr != -1) = true := by rw [bne, hfq]; rfl
                have hf8 : fr ≤ (p : Int) := by omega
                have hf7 : ¬ fr < 0 := by omega
                have HS : Hid (wrun s (p + wd) = ⟨out, ln, fr, false⟩) := (by show _ = _; rw [HR.out]; simp only []; rw [if_neg (by omega)])
                gi_wp2_with ((with_reducible refine And.intro (a := Fence.wide.fn 37) parts_fn ?_); first | (gi_at_call 37; (with_reducible refine (callsIn_wide.2 (PT.out _)).mono ?_); rintro e w' ⟨rfl, rfl⟩) | skip)
                go_roundw
                case rel => exact ⟨p + wd, ⟨out, ln, fr, false⟩, by omega, rfl, rfl, rfl, by first | omega | (simp only []; omega), by first | omega | (simp only []; omega), by first | omega | (simp only []; omega), by first | omega | (simp only []; omega), HS, HJ2, HB2, HI2⟩
                case measure =>
                  simp only [World.iterPos, HI2.out, HIT.out]
                  omega
    · obtain rfl : p = s.size := by omega
      have hnx : ∀ ty, (Instr.next (.pointer (some ⟨W.heap.size, 0, none⟩)) true ty).run Tryd.prog wr = _ := fun ty => Lib.run_next_end_at wr W.heap.size s s.size ty HIT.out hlt
      have HE := Lib.hid (rune_end s HQ.out)
      have hlen := (wrun_inv s s.size (by omega)).1
      rw [HQ.out] at hlen
      have HLEN : Hid (q.out.length < s.size + 1) := by show _ < _; omega
      have hb := HB1.out.cell
      clear hlen hlt hp
      obtain ⟨out, ln, fr, off⟩ := q
      simp only [] at hl1 hl2 hf1 hf2
      rcases (show fr = -1 ∨ 0 ≤ fr by omega) with hfr | hfr
      · subst hfr
        have HF : Hid (J (wordsOf s) wr) := by show J (wordsOf s) wr; rw [HE.out]; exact HJ1.out
        gi_wp2
        go_end0
        first | exact ⟨⟨_, rfl⟩, .inl ⟨_, rfl, HF.out⟩⟩ | exact ⟨⟨_, rfl⟩, .inl HF.out⟩
      · have hfq : (fr == -1) = false := by rw [beq_eq_false_iff_ne]; omega
        have hfn : (fr != -1) = true := by rw [bne, hfq]; rfl
        have hf8 : fr ≤ (s.size : Int) := by omega
        have hf7 : ¬ fr < 0 := by omega
        have HF : Hid (wordsOf s = out ++ [⟨fr, ln, s.extract fr.toNat s.size⟩]) := by show _ = _; rw [HE.out]; unfold told; simp only []; rw [if_neg (by omega)]
        obtain ⟨fn, tmps, assign, body, hy, hR⟩ := HY.out out ⟨fr, ln, s.extract fr.toNat s.size⟩ _ hl1 HJ1.out HLEN.out
        have hR := Lib.hid hR
        dsimp only [WV.val] at hy
        gi_wp2
        refine hR.out.mono ?_
        rintro e W3 (⟨rfl, hJ3, hk3⟩ | ⟨rfl, hJx3⟩)
        · have HG : Hid (J (wordsOf s) W3) := by show J _ _; rw [HF.out]; exact hJ3
          clear hJ3 hk3 hy
          gi_wp2
          go_end0
          first | exact ⟨⟨_, rfl⟩, .inl ⟨_, rfl, HG.out⟩⟩ | exact ⟨⟨_, rfl⟩, .inl HG.out⟩
        · have HG : Hid (Jx (out ++ [⟨fr, ln, s.extract fr.toNat s.size⟩]) W3) := hJx3
          clear hJx3 hy
          gi_wp2
          go_end0
          first | exact ⟨⟨_, rfl⟩, .inr ⟨_, trivial, HG.out⟩⟩ | exact ⟨⟨_, rfl⟩, .inr ⟨_, HG.out⟩⟩
end Go.Proofs.YtbipjilpogbicaaDoor
