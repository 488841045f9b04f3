/- Texts of this claim, put together: LP3, LWd1, LWd2, LBr, LLn1, LLines, YSysAt, YSys, YRead, YTry, ZTry, YAttempt, ZRead, ZAtt, YRef1, YRef2. -/
import Derived.Test.YtlpffgmfgkleiaaGreatDoorMZ3
import Derived.Lib.OthersKept
import Derived.RangeFuncNested
import Derived.RangeFuncBound
import Derived.RangeFuncCalls
import Derived.RangeFuncLeaves
import Derived.RangeFuncBox
import Derived.Shelf.Abstract
import Derived.Shelf.RegionOpen
import Derived.OwnWalkIn
import Derived.TacticsInMore
import Derived.LoopNIn
import Derived.LoopIn
import Derived.Maps.AppendAt
import Derived.Deep.RegionHeldLaw
import Derived.RegionDies
import Derived.Defers
set_option linter.unusedVariables false
set_option linter.unusedSimpArgs false

/-
  Where the words of a text stand, in plain words.
-/
namespace Go.Proofs.YtlpffgmfgkleiaaGreatDoor
open Go.RowKit Go.Maps

/-- A byte that no word has. -/
def Sep (c : Nat) : Prop := c = 10 ∨ c = 35 ∨ c = 32 ∨ c = 9
/-- A word that stands in a text, up to a place. -/
structure Stands (s : ByteArray) (i : Nat) (x : WV) : Prop where
  lo : 0 ≤ x.at_
  hi : x.at_.toNat + x.tx.size ≤ i
  is : x.tx = s.extract x.at_.toNat (x.at_.toNat + x.tx.size)
  some : 0 < x.tx.size
  ln : x.ln = 1 + (ends s x.at_.toNat : Nat)
  no : ∀ k, x.at_.toNat ≤ k → k < x.at_.toNat + x.tx.size → ¬ Sep (byteAt s k)
def WV.till (x : WV) : Nat := x.at_.toNat + x.tx.size
/-- Blanks and tabs alone. -/
def Blank (s : ByteArray) (f k : Nat) : Prop := ∀ j, f ≤ j → j < k → byteAt s j = 32 ∨ byteAt s j = 9
/-- What stands between a word and the next one. -/
structure Next (s : ByteArray) (x : WV) (p : Nat) (ln : Int) : Prop where
  le : x.till ≤ p
  lnle : x.ln ≤ ln
  same : x.ln = ln → x.till < p ∧ Blank s x.till p
theorem ends_mono (s : ByteArray) {i j : Nat} (h : i ≤ j) : ends s i ≤ ends s j := by
  induction j with
  | zero => have : i = 0 := by omega
            subst this; exact Nat.le_refl _
  | succ j ih =>
    rcases Nat.lt_or_ge j i with q | q
    · have : i = j + 1 := by omega
      subst this; exact Nat.le_refl _
    · rw [ends]; have := ih q; omega
theorem ends_same (s : ByteArray) (i : Nat) : ∀ k, (∀ j, i ≤ j → j < i + k → byteAt s j ≠ 10) → ends s (i + k) = ends s i
  | 0, _ => rfl
  | k + 1, h => by
    rw [← Nat.add_assoc, ends, ends_same s i k (fun j h1 h2 => h j h1 (by omega)), if_neg (h (i + k) (by omega) (by omega)), Nat.add_zero]
/-- What holds of the words at each place of the text. -/
structure l_Found (s : ByteArray) (i : Nat) (q : LS) : Prop where
  all : ∀ x ∈ q.out, Stands s i x
  row : ∀ (k : Nat) (x y : WV), q.out[k]? = some x → q.out[k + 1]? = some y → Next s x y.at_.toNat y.ln
  off : q.off = true → q.fr < 0
  run : 0 ≤ q.fr → q.fr < i ∧ (∀ j, q.fr.toNat ≤ j → j < i → ¬ Sep (byteAt s j)) ∧ ∀ x, q.out.getLast? = some x → Next s x q.fr.toNat q.ln
  rest : q.fr < 0 → ∀ x, q.out.getLast? = some x → x.till < i ∧ x.ln ≤ q.ln ∧ (x.ln = q.ln → q.off = false → Blank s x.till i)
theorem Stands.up {s : ByteArray} {i j : Nat} {x : WV} (h : Stands s i x) (hj : i ≤ j) : Stands s j x := ⟨h.lo, by have := h.hi; omega, h.is, h.some, h.ln, h.no⟩
theorem row_add {s : ByteArray} {l : List WV} {z : WV} (h : ∀ (k : Nat) (x y : WV), l[k]? = some x → l[k + 1]? = some y → Next s x y.at_.toNat y.ln) (hz : ∀ x, l.getLast? = some x → Next s x z.at_.toNat z.ln) :
    ∀ (k : Nat) (x y : WV), (l ++ [z])[k]? = some x → (l ++ [z])[k + 1]? = some y → Next s x y.at_.toNat y.ln := by
  intro k x y hx hy
  rcases Nat.lt_or_ge (k + 1) l.length with q | q
  · rw [List.getElem?_append_left (by omega)] at hx
    rw [List.getElem?_append_left q] at hy
    exact h k x y hx hy
  · have h2 : k + 1 = l.length := by
      have := (List.getElem?_eq_some_iff.1 hy).1
      simp at this; omega
    rw [List.getElem?_append_left (by omega)] at hx
    rw [h2, List.getElem?_append_right (Nat.le_refl _)] at hy
    simp at hy; subst hy
    refine hz x ?_
    rw [List.getLast?_eq_getElem?, show l.length - 1 = k by omega]; exact hx
theorem found (s : ByteArray) : ∀ i, i ≤ s.size + 1 → l_Found s i (wrun s i)
  | 0, _ => ⟨fun x h => by simp [wrun] at h, fun k x y h => by simp [wrun] at h, fun h => by simp [wrun] at h, fun h => by simp [wrun] at h, fun _ x h => by simp [wrun] at h⟩
  | i + 1, h => by
    have ih := found s i (by omega)
    have il := wrun_ln s i
    rw [wrun]
    generalize wrun s i = q at ih il ⊢
    obtain ⟨o, l, f, b⟩ := q
    obtain ⟨hall, hrow, hoff, hrun, hrest⟩ := ih
    simp only [] at hall hrow hoff hrun hrest il
    unfold wstep
    simp only []
    by_cases hc : byteAt s i = 10 ∨ (b || decide (byteAt s i = 35)) = true ∨ byteAt s i = 32 ∨ byteAt s i = 9
    · rw [if_pos hc]
      by_cases hf : f < 0
      · rw [if_pos hf]
        refine ⟨fun x hx => (hall x hx).up (by omega), hrow, fun _ => by simp only []; omega, fun z => by simp only [] at z; omega, fun _ x hx => ?_⟩
        obtain ⟨r1, r2, r3⟩ := hrest hf x hx
        simp only []
        by_cases h10 : byteAt s i = 10
        · rw [if_pos h10]
          exact ⟨by omega, by omega, fun z => by omega⟩
        · rw [if_neg h10, if_neg h10]
          refine ⟨by omega, r2, fun z zo => ?_⟩
          simp only [Bool.or_eq_false_iff, decide_eq_false_iff_not] at zo
          intro j hj1 hj2
          rcases Nat.lt_or_ge j i with q | q
          · exact r3 z zo.1 j hj1 q
          · have : j = i := by omega
            subst this
            rcases hc with g | g | g | g
            · exact absurd g h10
            · simp [zo] at g
            · exact .inl g
            · exact .inr g
      · rw [if_neg hf]
        obtain ⟨g1, g2, g3⟩ := hrun (by omega)
        obtain ⟨p, rfl⟩ : ∃ p : Nat, f = p := ⟨f.toNat, by omega⟩
        have hbf : b = false := by
          cases b with
          | false => rfl
          | true => have := hoff rfl; omega
        simp only [Int.toNat_natCast] at g2 g3 ⊢
        have hip : i ≤ s.size := by omega
        have hsz : (s.extract p i).size = i - p := by rw [ByteArray.size_extract]; omega
        have hend : ends s i = ends s p := by
          have := ends_same s p (i - p) (fun j h1 h2 q => g2 j h1 (by omega) (.inl q))
          rwa [show p + (i - p) = i by omega] at this
        have hnew : Stands s (i + 1) ⟨p, l, s.extract p i⟩ := by
          refine ⟨by simp, ?_, ?_, ?_, ?_, ?_⟩
          · simp only [Int.toNat_natCast, hsz]; omega
          · simp only [Int.toNat_natCast, hsz]; rw [show p + (i - p) = i by omega]
          · simp only [hsz]; omega
          · simp only [Int.toNat_natCast]; rw [il, hend]
          · simp only [Int.toNat_natCast, hsz]; exact fun k h1 h2 => g2 k h1 (by omega)
        have htill : WV.till ⟨p, l, s.extract p i⟩ = i := by
          unfold WV.till; simp only [Int.toNat_natCast, hsz]; omega
        refine ⟨fun x hx => ?_, row_add hrow (fun x hx => by simpa using g3 x hx), fun _ => by simp only []; omega, fun z => by simp only [] at z; omega, fun _ x hx => ?_⟩
        · rcases List.mem_append.1 hx with q | q
          · exact (hall x q).up (by omega)
          · simp at q; subst q; exact hnew
        · simp only [List.getLast?_append, List.getLast?_singleton, Option.some_or, Option.some.injEq] at hx
          subst hx
          simp only []
          rw [htill]
          by_cases h10 : byteAt s i = 10
          · rw [if_pos h10]
            exact ⟨by omega, by omega, fun z => by omega⟩
          · rw [if_neg h10, if_neg h10]
            refine ⟨by omega, Int.le_refl _, fun z zo => ?_⟩
            simp only [Bool.or_eq_false_iff, decide_eq_false_iff_not] at zo
            intro j hj1 hj2
            have : j = i := by omega
            subst this
            rcases hc with g | g | g | g
            · exact absurd g h10
            · simp [zo] at g
            · exact .inl g
            · exact .inr g
    · rw [if_neg hc]
      simp only [not_or, Bool.or_eq_true, decide_eq_true_eq] at hc
      obtain ⟨n1, ⟨n2, n3⟩, n4, n5⟩ := hc
      have hbf : b = false := by simpa using n2
      have hns : ¬ Sep (byteAt s i) := by
        rintro (g | g | g | g)
        · exact n1 g
        · exact n3 g
        · exact n4 g
        · exact n5 g
      by_cases hf : f < 0
      · rw [if_pos hf]
        refine ⟨fun x hx => (hall x hx).up (by omega), hrow, (fun z => by simp only [] at z; rw [hbf] at z; cases z), fun _ => ?_, fun z => by simp only [] at z; omega⟩
        simp only [Int.toNat_natCast]
        refine ⟨by omega, fun j h1 h2 => ?_, fun x hx => ?_⟩
        · have : j = i := by omega
          subst this; exact hns
        · obtain ⟨r1, r2, r3⟩ := hrest hf x hx
          exact ⟨by omega, r2, fun z => ⟨r1, r3 z hbf⟩⟩
      · rw [if_neg hf]
        obtain ⟨g1, g2, g3⟩ := hrun (by omega)
        refine ⟨fun x hx => (hall x hx).up (by omega), hrow, (fun z => by simp only [] at z; rw [hbf] at z; cases z), fun _ => ?_, fun z => by simp only [] at z; omega⟩
        simp only []
        refine ⟨by omega, fun j h1 h2 => ?_, g3⟩
        rcases Nat.lt_or_ge j i with q | q
        · exact g2 j h1 q
        · have : j = i := by omega
          subst this; exact hns
theorem Stands.in_ {s : ByteArray} {i : Nat} {x : WV} (h : Stands s i x) : x.till ≤ s.size := by
  have h1 := h.is
  have h2 := h.some
  have h3 : x.tx.size = min (x.at_.toNat + x.tx.size) s.size - x.at_.toNat := by
    have := congrArg ByteArray.size h1
    rwa [ByteArray.size_extract] at this
  unfold WV.till; omega
/-- Where the words of a text stand. -/
theorem words_found (s : ByteArray) : (∀ x ∈ wordsOf s, Stands s (s.size + 1) x) ∧ ∀ (k : Nat) (x y : WV), (wordsOf s)[k]? = some x → (wordsOf s)[k + 1]? = some y → Next s x y.at_.toNat y.ln :=
  ⟨(found s (s.size + 1) (Nat.le_refl _)).all, (found s (s.size + 1) (Nat.le_refl _)).row⟩
end Go.Proofs.YtlpffgmfgkleiaaGreatDoor

/-
  The walk over what tells a text's words one by one.
-/
namespace Go.Proofs.YtlpffgmfgkleiaaGreatDoor
open Go.RowKit Go.Maps Go.Shelf
attribute [local go_sem] Oper.semAt_some

theorem parts_any (r : Int) (B : Bool) (hB : decide (r = 32 ∨ r = 9 ∨ r = 10) = B) (w : World) : Calls Tryz.prog 94 #[.int .i32 r] w fun e w' => e = .returned (.bool B) ∧ w' = w := by
  have HB := Lib.hid hB
  clear hB
  go_enter Tryz.func94, Tryz.ntmps94
  by_cases h32 : r = 32
  · have HH : Hid (B = true) := by show _ = _; rw [← HB.out]; exact decide_eq_true (.inl h32)
    have d1 : (r == 32) = true := beq_iff_eq.2 h32
    clear h32
    go_wp2
    go_ret
    exact ⟨by rw [HH.out]; rfl, rfl⟩
  · have d1 : (r == 32) = false := beq_eq_false_iff_ne.2 h32
    by_cases h9 : r = 9
    · have HH : Hid (B = true) := by show _ = _; rw [← HB.out]; exact decide_eq_true (.inr (.inl h9))
      have d2 : (r == 9) = true := beq_iff_eq.2 h9
      clear h32 h9
      go_wp2
      go_ret
      exact ⟨by rw [HH.out]; rfl, rfl⟩
    · have d2 : (r == 9) = false := beq_eq_false_iff_ne.2 h9
      by_cases h10 : r = 10
      · have HH : Hid (B = true) := by show _ = _; rw [← HB.out]; exact decide_eq_true (.inr (.inr h10))
        have d3 : (r == 10) = true := beq_iff_eq.2 h10
        clear h32 h9 h10
        go_wp2
        go_ret
        exact ⟨by rw [HH.out]; rfl, rfl⟩
      · have HH : Hid (B = false) := by show _ = _; rw [← HB.out]; exact decide_eq_false (by rintro (z | z | z) <;> first | exact h32 z | exact h9 z | exact h10 z)
        have d3 : (r == 10) = false := beq_eq_false_iff_ne.2 h10
        clear h32 h9 h10
        go_wp2
        go_ret
        exact ⟨by rw [HH.out]; rfl, rfl⟩

theorem parts_fn : Fence.wide.fn 94 := trivial
/-- What a round keeps: what is walked over, and the box of the text. -/
def KpW (Bn : Nat) (s : ByteArray) (W W' : World) : Prop := KeepsWalks W W' ∧ (Go.Boxed W Bn 9 (.string s) → Go.Boxed W' Bn 9 (.string s))
theorem kpW_t {Bn : Nat} {s : ByteArray} {A B C : World} (h : KpW Bn s A B) (k : KpW Bn s B C) : KpW Bn s A C := ⟨h.1.trans k.1, fun z => k.2 (h.2 z)⟩
theorem kpW_b {Bn : Nat} {s : ByteArray} {B : Nat} (W : World) (l : Nat) (o o' : Obj) (_ : B ≤ l) (h : W.heap[l]? = some o) (hc : o.isCells = false) (hw : o.isWalk = false) : KpW Bn s W (W.putObj l o') := by
  refine ⟨KeepsWalks.putObj _ h hw, fun z => ?_⟩
  by_cases e : Bn = l
  · subst e
    rw [show W.heap[Bn]? = _ from z] at h
    cases h
    cases hc
  · exact (World.putObj_heap_other e).trans z

set_option maxRecDepth 100000 in
set_option maxHeartbeats 4000000 in
theorem words_in (n : Nat) (hn : 1 ≤ n) (l Bn : Nat) (s : ByteArray) (hs : s.size ≤ 1050000) (J Jx : List WV → World → Prop) (W : World) (hJ : AbidesFrom W.heap.size J)
    (hY : ∀ pre x W1, 1 ≤ x.ln → J pre W1 → pre.length < s.size + 1 → YieldAt Fence.wide (n - 1) Tryz.prog l #[x.val] W1 fun e W' =>
      (e = .returned (.bool true) ∧ J (pre ++ [x]) W' ∧ KpW Bn s W1 W') ∨ (e = .returned (.bool false) ∧ Jx (pre ++ [x]) W'))
    (hB : Go.Boxed W Bn 9 (.string s)) (h0 : J [] W) :
    CallsIn Fence.wide n Tryz.prog 93 #[.func (.yield l) #[] #[], .pointer (some ⟨Bn, 0, none⟩)] W fun e W' => (∃ v, e = .returned v) ∧
      ((∃ ys, ys = wordsOf s ∧ J ys W') ∨ (∃ pre, True ∧ Jx pre W')) := by
  have HY := Lib.hid hY
  have HJ := Lib.hid hJ
  have hb := hB.cell
  have HB0 := Lib.hid hB
  have H0 : Hid (J [] W) := h0
  clear hY hJ hB h0
  refine callsIn_of_wp Tryz.func93 rfl trivial ?_ rfl
  simp only [Tryz.ntmps93, List.size_toArray, List.length_cons, List.length_nil, Nat.reduceAdd, Nat.reduceSub, Array.replicate_succ, Array.replicate_zero, List.push_toArray, List.append_toArray, List.nil_append, List.cons_append]
  gi_wp2
  gi_loopw [3, 4, 5] (fun u v x wr => ∃ (p : Nat) (q : LS), p ≤ s.size ∧ u = .int .i64 q.ln ∧ v = .bool q.off ∧ x = .int .i64 q.fr ∧ 1 ≤ q.ln ∧ q.ln ≤ (p : Int) + 1 ∧ -1 ≤ q.fr ∧ q.fr < p ∧ Hid (wrun s p = q) ∧ Hid (J q.out wr) ∧ Hid (Go.Boxed wr Bn 9 (.string s)) ∧ Hid (wr.heap[W.heap.size]? = some (.stringIter s p))) (fun _ _ _ wr => s.size - wr.iterPos W.heap.size)
  case atStart =>
    exact ⟨0, ⟨[], 1, -1, false⟩, by omega, rfl, rfl, rfl, by simp, by simp, by simp, by simp, rfl, HJ.out _ _ _ none H0.out (World.grownBy_alloc W (.stringIter s 0) none) (fun r e => by cases e), HB0.out.alloc _, World.iter_heap W s 0⟩
  case round =>
    obtain ⟨p, q, hp, rfl, rfl, rfl, hl1, hl2, hf1, hf2, HQ, HJ1, HB1, HIT⟩ := hrel
    clear hb
    by_cases hlt : p < s.size
    · obtain ⟨r, wd, hd⟩ : ∃ r wd, Utf8.decode s p = (r, wd) := ⟨_, _, rfl⟩
      have hnx : ∀ ty, (Instr.next (.pointer (some ⟨W.heap.size, 0, none⟩)) true ty).run Tryz.prog wr = _ := fun ty => Lib.run_next_any_at wr W.heap.size s p ty HIT.out hlt
      simp only [hd] at hnx
      have HK := Lib.hid (rune_step s p hlt hd HQ.out)
      have HO := Lib.hid (wrun_rem s p)
      rw [HQ.out] at HO
      have hlen := (wrun_inv s p (by omega)).1
      rw [HQ.out] at hlen
      have HLEN : Hid (q.out.length < s.size + 1) := by show _ < _; omega
      have hw1 := HK.out.1
      have hw2 := HK.out.2.1
      have HJ2 : Hid (J q.out (wr.iterAt W.heap.size s (p + wd))) := HJ.out _ _ _ (some W.heap.size) HJ1.out (grownBy_putObj' wr W.heap.size _) (fun r e => by cases e; exact ⟨Nat.le_refl _, _, HIT.out, rfl⟩)
      have HI2 : Hid ((wr.iterAt W.heap.size s (p + wd)).heap[W.heap.size]? = some (.stringIter s (p + wd))) := Lib.iterAt_heap _ _ _ _ _ HIT.out
      have HB2 : Hid (Go.Boxed (wr.iterAt W.heap.size s (p + wd)) Bn 9 (.string s)) := by
        show _ = _
        rw [Lib.iterAt_other]
        · exact HB1.out
        · intro e
          have := HB1.out
          unfold Go.Boxed at this
          rw [e, HIT.out] at this
          cases this
      have hb := HB2.out.cell
      have hwl : IntKind.i64.wrap (q.ln + 1) = q.ln + 1 := IntWalk.i64_in _ (by omega)
      have hp0 : (0 : Int) ≤ (p : Int) := by omega
      have hp1 : (p : Int) ≤ (s.size : Int) := by omega
      clear hd hlen HJ1 HB1
      obtain ⟨out, ln, fr, off⟩ := q
      simp only [] at hl1 hl2 hf1 hf2 hwl
      by_cases hr10 : r = 10
      · have d1 : ((r : Int) == 35) = false := by rw [beq_eq_false_iff_ne]; omega
        have d2 : ((r : Int) == 10) = true := by rw [beq_iff_eq]; omega
        have d3 : ((r : Int) != 10) = false := by rw [bne, d2]; rfl
        have PT := Lib.hid (fun w => parts_any (r : Int) true (decide_eq_true (.inr (.inr (by omega)))) w)
        have HR := Lib.hid (HK.out.2.2.1 hr10)
        clear hr10
        cases off with
        | true =>
          obtain rfl : fr = -1 := HO.out rfl
          have HS : Hid (wrun s (p + wd) = ⟨out, ln + 1, -1, false⟩) := HR.out
          gi_wp2_with ((with_reducible refine And.intro (a := Fence.wide.fn 94) parts_fn ?_); first | (gi_at_call 94; (with_reducible refine (callsIn_wide.2 (PT.out _)).mono ?_); rintro e w' ⟨rfl, rfl⟩) | skip)
          go_roundw
          case rel => exact ⟨p + wd, ⟨out, ln + 1, -1, false⟩, by omega, rfl, rfl, rfl, by first | omega | (simp only []; omega), by first | omega | (simp only []; omega), by first | omega | (simp only []; omega), by first | omega | (simp only []; omega), HS, HJ2, HB2, HI2⟩
          case measure =>
            simp only [World.iterPos, HI2.out, HIT.out]
            omega
        | false =>
          rcases (show fr = -1 ∨ 0 ≤ fr by omega) with hfr | hfr
          · subst hfr
            have HS : Hid (wrun s (p + wd) = ⟨out, ln + 1, -1, false⟩) := HR.out
            gi_wp2_with ((with_reducible refine And.intro (a := Fence.wide.fn 94) parts_fn ?_); first | (gi_at_call 94; (with_reducible refine (callsIn_wide.2 (PT.out _)).mono ?_); rintro e w' ⟨rfl, rfl⟩) | skip)
            go_roundw
            case rel => exact ⟨p + wd, ⟨out, ln + 1, -1, false⟩, by omega, rfl, rfl, rfl, by first | omega | (simp only []; omega), by first | omega | (simp only []; omega), by first | omega | (simp only []; omega), by first | omega | (simp only []; omega), HS, HJ2, HB2, HI2⟩
            case measure =>
              simp only [World.iterPos, HI2.out, HIT.out]
              omega
          · have hfq : (fr == -1) = false := by rw [beq_eq_false_iff_ne]; omega
            have hfn : (fr != -1) = true := by rw [bne, hfq]; rfl
            have hf8 : fr ≤ (p : Int) := by omega
            have hf7 : ¬ fr < 0 := by omega
            obtain ⟨fn, tmps, assign, body, hy, hR⟩ := HY.out out ⟨fr, ln, s.extract fr.toNat p⟩ _ hl1 HJ2.out HLEN.out
            have hR := Lib.hid hR
            dsimp only [WV.val] at hy
            gi_wp2_with ((with_reducible refine And.intro (a := Fence.wide.fn 94) parts_fn ?_); first | (gi_at_call 94; (with_reducible refine (callsIn_wide.2 (PT.out _)).mono ?_); rintro e w' ⟨rfl, rfl⟩) | skip)
            refine hR.out.mono ?_
            rintro e W3 (⟨rfl, hJ3, hk3⟩ | ⟨rfl, hJx3⟩)
            · have HJ3 : Hid (J (out ++ [⟨fr, ln, s.extract fr.toNat p⟩]) W3) := hJ3
              have HB3 : Hid (Go.Boxed W3 Bn 9 (.string s)) := hk3.2 HB2.out
              have HI3 : Hid (W3.heap[W.heap.size]? = some (.stringIter s (p + wd))) := hk3.1.same _ _ HI2.out rfl
              have HS : Hid (wrun s (p + wd) = ⟨out ++ [⟨fr, ln, s.extract fr.toNat p⟩], ln + 1, -1, false⟩) := (by show _ = _; rw [HR.out]; unfold told; simp only []; rw [if_neg (by omega)])
              clear hJ3 hk3 hy
              gi_wp2
              go_roundw
              case rel => exact ⟨p + wd, ⟨out ++ [⟨fr, ln, s.extract fr.toNat p⟩], ln + 1, -1, false⟩, by omega, rfl, rfl, rfl, by first | omega | (simp only []; omega), by first | omega | (simp only []; omega), by first | omega | (simp only []; omega), by first | omega | (simp only []; omega), HS, HJ3, HB3, HI3⟩
              case measure =>
                simp only [World.iterPos, HI3.out, HIT.out]
                omega
            · have HJx : Hid (Jx (out ++ [⟨fr, ln, s.extract fr.toNat p⟩]) W3) := hJx3
              clear hJx3 hy
              gi_wp2
              refine bodyPost_ret (results_none rfl _ _ _) rfl ?_
              exact ⟨⟨_, rfl⟩, .inr ⟨_, trivial, HJx.out⟩⟩
      · by_cases hr35 : r = 35
        · have d1 : ((r : Int) == 35) = true := by rw [beq_iff_eq]; omega
          have d2 : ((r : Int) == 10) = false := by rw [beq_eq_false_iff_ne]; omega
          have d3 : ((r : Int) != 10) = true := by rw [bne, d2]; rfl
          have HR := Lib.hid (HK.out.2.2.2.1 hr10 (.inr hr35))
          have PT : Hid True := trivial
          clear hr10 hr35
          rcases (show fr = -1 ∨ 0 ≤ fr by omega) with hfr | hfr
          · subst hfr
            have HS : Hid (wrun s (p + wd) = ⟨out, ln, -1, true⟩) := HR.out
            gi_wp2_with ((with_reducible refine And.intro (a := Fence.wide.fn 94) parts_fn ?_); first | (gi_at_call 94; (with_reducible refine (callsIn_wide.2 (PT.out _)).mono ?_); rintro e w' ⟨rfl, rfl⟩) | skip)
            go_roundw
            case rel => exact ⟨p + wd, ⟨out, ln, -1, true⟩, by omega, rfl, rfl, rfl, by first | omega | (simp only []; omega), by first | omega | (simp only []; omega), by first | omega | (simp only []; omega), by first | omega | (simp only []; omega), HS, HJ2, HB2, HI2⟩
            case measure =>
              simp only [World.iterPos, HI2.out, HIT.out]
              omega
          · have hfq : (fr == -1) = false := by rw [beq_eq_false_iff_ne]; omega
            have hfn : (fr != -1) = true := by rw [bne, hfq]; rfl
            have hf8 : fr ≤ (p : Int) := by omega
            have hf7 : ¬ fr < 0 := by omega
            obtain ⟨fn, tmps, assign, body, hy, hR⟩ := HY.out out ⟨fr, ln, s.extract fr.toNat p⟩ _ hl1 HJ2.out HLEN.out
            have hR := Lib.hid hR
            dsimp only [WV.val] at hy
            gi_wp2_with ((with_reducible refine And.intro (a := Fence.wide.fn 94) parts_fn ?_); first | (gi_at_call 94; (with_reducible refine (callsIn_wide.2 (PT.out _)).mono ?_); rintro e w' ⟨rfl, rfl⟩) | skip)
            refine hR.out.mono ?_
            rintro e W3 (⟨rfl, hJ3, hk3⟩ | ⟨rfl, hJx3⟩)
            · have HJ3 : Hid (J (out ++ [⟨fr, ln, s.extract fr.toNat p⟩]) W3) := hJ3
              have HB3 : Hid (Go.Boxed W3 Bn 9 (.string s)) := hk3.2 HB2.out
              have HI3 : Hid (W3.heap[W.heap.size]? = some (.stringIter s (p + wd))) := hk3.1.same _ _ HI2.out rfl
              have HS : Hid (wrun s (p + wd) = ⟨out ++ [⟨fr, ln, s.extract fr.toNat p⟩], ln, -1, true⟩) := (by show _ = _; rw [HR.out]; unfold told; simp only []; rw [if_neg (by omega)])
              clear hJ3 hk3 hy
              gi_wp2
              go_roundw
              case rel => exact ⟨p + wd, ⟨out ++ [⟨fr, ln, s.extract fr.toNat p⟩], ln, -1, true⟩, by omega, rfl, rfl, rfl, by first | omega | (simp only []; omega), by first | omega | (simp only []; omega), by first | omega | (simp only []; omega), by first | omega | (simp only []; omega), HS, HJ3, HB3, HI3⟩
              case measure =>
                simp only [World.iterPos, HI3.out, HIT.out]
                omega
            · have HJx : Hid (Jx (out ++ [⟨fr, ln, s.extract fr.toNat p⟩]) W3) := hJx3
              clear hJx3 hy
              gi_wp2
              refine bodyPost_ret (results_none rfl _ _ _) rfl ?_
              exact ⟨⟨_, rfl⟩, .inr ⟨_, trivial, HJx.out⟩⟩
        · have d1 : ((r : Int) == 35) = false := by rw [beq_eq_false_iff_ne]; omega
          have d2 : ((r : Int) == 10) = false := by rw [beq_eq_false_iff_ne]; omega
          have d3 : ((r : Int) != 10) = true := by rw [bne, d2]; rfl
          cases off with
          | true =>
            obtain rfl : fr = -1 := HO.out rfl
            have HR := Lib.hid (HK.out.2.2.2.1 hr10 (.inl rfl))
            have PT : Hid True := trivial
            clear hr10 hr35
            have HS : Hid (wrun s (p + wd) = ⟨out, ln, -1, true⟩) := HR.out
            gi_wp2_with ((with_reducible refine And.intro (a := Fence.wide.fn 94) parts_fn ?_); first | (gi_at_call 94; (with_reducible refine (callsIn_wide.2 (PT.out _)).mono ?_); rintro e w' ⟨rfl, rfl⟩) | skip)
            go_roundw
            case rel => exact ⟨p + wd, ⟨out, ln, -1, true⟩, by omega, rfl, rfl, rfl, by first | omega | (simp only []; omega), by first | omega | (simp only []; omega), by first | omega | (simp only []; omega), by first | omega | (simp only []; omega), HS, HJ2, HB2, HI2⟩
            case measure =>
              simp only [World.iterPos, HI2.out, HIT.out]
              omega
          | false =>
            by_cases hbl : r = 32 ∨ r = 9
            · have HR := Lib.hid (HK.out.2.2.2.2.1 rfl hbl)
              have PT := Lib.hid (fun w => parts_any (r : Int) true (decide_eq_true (by omega)) w)
              clear hr10 hr35 hbl
              rcases (show fr = -1 ∨ 0 ≤ fr by omega) with hfr | hfr
              · subst hfr
                have HS : Hid (wrun s (p + wd) = ⟨out, ln, -1, false⟩) := HR.out
                gi_wp2_with ((with_reducible refine And.intro (a := Fence.wide.fn 94) parts_fn ?_); first | (gi_at_call 94; (with_reducible refine (callsIn_wide.2 (PT.out _)).mono ?_); rintro e w' ⟨rfl, rfl⟩) | skip)
                go_roundw
                case rel => exact ⟨p + wd, ⟨out, ln, -1, false⟩, by omega, rfl, rfl, rfl, by first | omega | (simp only []; omega), by first | omega | (simp only []; omega), by first | omega | (simp only []; omega), by first | omega | (simp only []; omega), HS, HJ2, HB2, HI2⟩
                case measure =>
                  simp only [World.iterPos, HI2.out, HIT.out]
                  omega
              · have hfq : (fr == -1) = false := by rw [beq_eq_false_iff_ne]; omega
                have hfn : (fr != -1) = true := by rw [bne, hfq]; rfl
                have hf8 : fr ≤ (p : Int) := by omega
                have hf7 : ¬ fr < 0 := by omega
                obtain ⟨fn, tmps, assign, body, hy, hR⟩ := HY.out out ⟨fr, ln, s.extract fr.toNat p⟩ _ hl1 HJ2.out HLEN.out
                have hR := Lib.hid hR
                dsimp only [WV.val] at hy
                gi_wp2_with ((with_reducible refine And.intro (a := Fence.wide.fn 94) parts_fn ?_); first | (gi_at_call 94; (with_reducible refine (callsIn_wide.2 (PT.out _)).mono ?_); rintro e w' ⟨rfl, rfl⟩) | skip)
                refine hR.out.mono ?_
                rintro e W3 (⟨rfl, hJ3, hk3⟩ | ⟨rfl, hJx3⟩)
                · have HJ3 : Hid (J (out ++ [⟨fr, ln, s.extract fr.toNat p⟩]) W3) := hJ3
                  have HB3 : Hid (Go.Boxed W3 Bn 9 (.string s)) := hk3.2 HB2.out
                  have HI3 : Hid (W3.heap[W.heap.size]? = some (.stringIter s (p + wd))) := hk3.1.same _ _ HI2.out rfl
                  have HS : Hid (wrun s (p + wd) = ⟨out ++ [⟨fr, ln, s.extract fr.toNat p⟩], ln, -1, false⟩) := (by show _ = _; rw [HR.out]; unfold told; simp only []; rw [if_neg (by omega)])
                  clear hJ3 hk3 hy
                  gi_wp2
                  go_roundw
                  case rel => exact ⟨p + wd, ⟨out ++ [⟨fr, ln, s.extract fr.toNat p⟩], ln, -1, false⟩, by omega, rfl, rfl, rfl, by first | omega | (simp only []; omega), by first | omega | (simp only []; omega), by first | omega | (simp only []; omega), by first | omega | (simp only []; omega), HS, HJ3, HB3, HI3⟩
                  case measure =>
                    simp only [World.iterPos, HI3.out, HIT.out]
                    omega
                · have HJx : Hid (Jx (out ++ [⟨fr, ln, s.extract fr.toNat p⟩]) W3) := hJx3
                  clear hJx3 hy
                  gi_wp2
                  refine bodyPost_ret (results_none rfl _ _ _) rfl ?_
                  exact ⟨⟨_, rfl⟩, .inr ⟨_, trivial, HJx.out⟩⟩
            · have HR := Lib.hid (HK.out.2.2.2.2.2 rfl hr10 hr35 (fun z => hbl (.inl z)) (fun z => hbl (.inr z)))
              have PT := Lib.hid (fun w => parts_any (r : Int) false (decide_eq_false (by omega)) w)
              clear hr10 hr35 hbl
              rcases (show fr = -1 ∨ 0 ≤ fr by omega) with hfr | hfr
              · subst hfr
                have HS : Hid (wrun s (p + wd) = ⟨out, ln, (p : Int), false⟩) := HR.out
                gi_wp2_with ((with_reducible refine And.intro (a := Fence.wide.fn 94) parts_fn ?_); first | (gi_at_call 94; (with_reducible refine (callsIn_wide.2 (PT.out _)).mono ?_); rintro e w' ⟨rfl, rfl⟩) | skip)
                go_roundw
                case rel => exact ⟨p + wd, ⟨out, ln, (p : Int), false⟩, by omega, rfl, rfl, rfl, by first | omega | (simp only []; omega), by first | omega | (simp only []; omega), by first | omega | (simp only []; omega), by first | omega | (simp only []; omega), HS, HJ2, HB2, HI2⟩
                case measure =>
                  simp only [World.iterPos, HI2.out, HIT.out]
                  omega
              · have hfq : (fr == -1) = false := by rw [beq_eq_false_iff_ne]; omega
                have hfn : (fr != -1) = true := by rw [bne, hfq]; rfl
                have hf8 : fr ≤ (p : Int) := by omega
                have hf7 : ¬ fr < 0 := by omega
                have HS : Hid (wrun s (p + wd) = ⟨out, ln, fr, false⟩) := (by show _ = _; rw [HR.out]; simp only []; rw [if_neg (by omega)])
                gi_wp2_with ((with_reducible refine And.intro (a := Fence.wide.fn 94) parts_fn ?_); first | (gi_at_call 94; (with_reducible refine (callsIn_wide.2 (PT.out _)).mono ?_); rintro e w' ⟨rfl, rfl⟩) | skip)
                go_roundw
                case rel => exact ⟨p + wd, ⟨out, ln, fr, false⟩, by omega, rfl, rfl, rfl, by first | omega | (simp only []; omega), by first | omega | (simp only []; omega), by first | omega | (simp only []; omega), by first | omega | (simp only []; omega), HS, HJ2, HB2, HI2⟩
                case measure =>
                  simp only [World.iterPos, HI2.out, HIT.out]
                  omega
    · obtain rfl : p = s.size := by omega
      have hnx : ∀ ty, (Instr.next (.pointer (some ⟨W.heap.size, 0, none⟩)) true ty).run Tryz.prog wr = _ := fun ty => Lib.run_next_end_at wr W.heap.size s s.size ty HIT.out hlt
      have HE := Lib.hid (rune_end s HQ.out)
      have hlen := (wrun_inv s s.size (by omega)).1
      rw [HQ.out] at hlen
      have HLEN : Hid (q.out.length < s.size + 1) := by show _ < _; omega
      have hb := HB1.out.cell
      clear hlen hlt hp
      obtain ⟨out, ln, fr, off⟩ := q
      simp only [] at hl1 hl2 hf1 hf2
      rcases (show fr = -1 ∨ 0 ≤ fr by omega) with hfr | hfr
      · subst hfr
        have HF : Hid (J (wordsOf s) wr) := by show J (wordsOf s) wr; rw [HE.out]; exact HJ1.out
        gi_wp2
        go_end0
        first | exact ⟨⟨_, rfl⟩, .inl ⟨_, rfl, HF.out⟩⟩ | exact ⟨⟨_, rfl⟩, .inl HF.out⟩
      · have hfq : (fr == -1) = false := by rw [beq_eq_false_iff_ne]; omega
        have hfn : (fr != -1) = true := by rw [bne, hfq]; rfl
        have hf8 : fr ≤ (s.size : Int) := by omega
        have hf7 : ¬ fr < 0 := by omega
        have HF : Hid (wordsOf s = out ++ [⟨fr, ln, s.extract fr.toNat s.size⟩]) := by show _ = _; rw [HE.out]; unfold told; simp only []; rw [if_neg (by omega)]
        obtain ⟨fn, tmps, assign, body, hy, hR⟩ := HY.out out ⟨fr, ln, s.extract fr.toNat s.size⟩ _ hl1 HJ1.out HLEN.out
        have hR := Lib.hid hR
        dsimp only [WV.val] at hy
        gi_wp2
        refine hR.out.mono ?_
        rintro e W3 (⟨rfl, hJ3, hk3⟩ | ⟨rfl, hJx3⟩)
        · have HG : Hid (J (wordsOf s) W3) := by show J _ _; rw [HF.out]; exact hJ3
          clear hJ3 hk3 hy
          gi_wp2
          go_end0
          first | exact ⟨⟨_, rfl⟩, .inl ⟨_, rfl, HG.out⟩⟩ | exact ⟨⟨_, rfl⟩, .inl HG.out⟩
        · have HG : Hid (Jx (out ++ [⟨fr, ln, s.extract fr.toNat s.size⟩]) W3) := hJx3
          clear hJx3 hy
          gi_wp2
          go_end0
          first | exact ⟨⟨_, rfl⟩, .inr ⟨_, trivial, HG.out⟩⟩ | exact ⟨⟨_, rfl⟩, .inr ⟨_, HG.out⟩⟩
end Go.Proofs.YtlpffgmfgkleiaaGreatDoor

/-
  The walk over a text's words, collected in a row.
-/
namespace Go.Proofs.YtlpffgmfgkleiaaGreatDoor
open Go.RowKit Go.Maps Go.Shelf
attribute [local go_sem] Oper.semAt_some

theorem words_stops (n : Nat) (hn : 1 ≤ n) (Bn : Nat) (s : ByteArray) (hs : s.size ≤ 1050000) (w : World) (hB : Go.Boxed w Bn 9 (.string s)) :
    SeqStopsK Fence.wide n Tryz.prog 93 #[.pointer (some ⟨Bn, 0, none⟩)] (fun x : WV => #[x.val]) (KpW Bn s) (fun ys => ys = wordsOf s) (fun _ => True) (s.size + 1) w :=
  fun l J Jx W hW hJ _ hY h0 => words_in n hn l Bn s hs J Jx W hJ (fun pre x W1 _ h hl => hY pre x W1 h hl) (kept_obj hW hB) h0
/-- Where a text's function value lies. -/
theorem words_val (s : ByteArray) (n : Nat) (w : World) :
    CallsIn Fence.wide n Tryz.prog 75 #[.string s] w fun e w' => e = .returned (.func (.func 93) #[] #[.pointer (some ⟨w.heap.size, 0, none⟩)]) ∧ w' = w.alloc (.cells #[.string s] 9) := by
  have hmf : ∀ (fn : Fn) (first cap : Array Value) (w : World), (Instr.makeFunc fn first cap).run Tryz.prog w = .ok (.func fn first cap) w := fun _ _ _ _ => rfl
  refine callsIn_of_wp Tryz.func75 rfl trivial ?_ rfl
  simp only [Tryz.ntmps75, List.size_toArray, List.length_cons, List.length_nil, Nat.reduceAdd, Nat.reduceSub, Array.replicate_succ, Array.replicate_zero, List.push_toArray, List.append_toArray, List.nil_append, List.cons_append]
  gi_wp2
  go_ret
  exact ⟨rfl, rfl⟩
theorem keepsWalks_of {W W' : World} (h : KeepsOthers W W') : KeepsWalks W W' := ⟨h.size, fun k o hk ho => h.same k o hk (Obj.not_cells_of_walk ho)⟩
theorem wnews_of {w : World} {x : Addr} {l : List WV} (hv : WView w (some x) l) : ∀ j u, (wflat l)[j]? = some u → w.cell? (x.add j) = some u := by
  intro j u hj
  rcases hv with rfl | ⟨g, o, e, hc⟩
  · simp [wflat] at hj
  · cases e
    rw [addr_at]; exact hc j u hj
/-- A word in a box of a round's own. -/
def BoxW (W : World) (B : Nat) (x : WV) : Prop := W.heap[B]? = some (.cells #[.int .i64 x.at_, .int .i64 x.ln, .string x.tx] WT (0, 0))
theorem BoxW.wat {W : World} {B : Nat} {x : WV} (h : BoxW W B x) : WAt W B 0 x := ⟨by rw [blk_cell h]; rfl, by rw [blk_cell h]; rfl, by rw [blk_cell h]; rfl⟩
theorem BoxW.own {B : Nat} {x : WV} : Own (fun (_ : Unit) W => BoxW W B x) := fun s X Y row hs hg hrow => by
  refine (hg.block B (lt_of_block hs) (fun e => ?_)).trans hs
  obtain ⟨o, ho, hc⟩ := hrow B e.symm
  rw [show X.heap[B]? = _ from hs] at ho
  cases ho
  cases hc

end Go.Proofs.YtlpffgmfgkleiaaGreatDoor

/-
  A region that draws its order, in a round of a range over a function.
-/
namespace Go.Proofs.YtlpffgmfgkleiaaGreatDoor
open Go.RowKit Go.Maps

section
variable {P : Program} {ops : Array Oper} {Q : Exit → Act → World → Prop} {l n : Nat}
theorem rows_round {row : String} {args : Array Value} {w : World} {R R' : Value → World → Prop} (h : _root_.Go.Rows P row args w R) (hr : ∀ v w, R v w → R' v w) : RowsIn (Fence.wide.inRound l) n P row args w R' := fun c cs _ => by
  obtain ⟨v, w', h1, h2⟩ := h c cs
  exact ⟨v, w', hr _ _ h1, stepsIn_wide.2 h2⟩
theorem oper_round {o : Oper} {a : Act} {w : World} {K K' : Act → World → Prop} (hd : ∀ c, o.op ≠ .defer c) (hK : ∀ a w, K a w → K' a w) (hlo : ¬ LetsOut Q) (h : o.wp P a w K Q) : o.wpIn (Fence.wide.inRound l) n P a w K' Q := by
  refine ⟨fun _ _ => trivial, ?_⟩
  unfold Oper.wp at h
  rw [show (o.semAt (Fence.wide.inRound l).round a.eval) = execOp a.eval o from Oper.semAt_eq _ _ _ hd]
  generalize (execOp a.eval o).run P w = r at h ⊢
  cases r with
  | ok x w' =>
    cases x with
    | value v => exact hK _ _ h
    | skip => exact hK _ _ h
    | defer d => exact hK _ _ h
    | enter f args =>
      refine ⟨(fun z => by cases z), CallsIn.inRound l (callsIn_wide.2 (Calls.mono h fun e w'' he => ?_))⟩
      cases e with
      | returned v => exact hK _ _ he
      | panicked c => exact he
      | outgrown => exact absurd he hlo
    | row name args => exact ⟨(fun z => by cases z), rows_round h (fun _ _ => hK _ _)⟩
    | _ => exact h.elim
  | halt x w' =>
    cases x with
    | panic v => exact h
    | _ => exact h.elim
theorem any_round {md : Region.Mode} (hd : ∀ (i : Nat) (o : Oper), ops[i]? = some o → ∀ c, o.op ≠ .defer c) (hlo : ¬ LetsOut Q) : ∀ (fuel : Nat) (listed : Array Bool) (a : Act) (w : World), wpAny P md ops Q fuel listed a w → wpAnyIn (Fence.wide.inRound l) n P md ops Q fuel listed a w
  | 0, _, _, _, h => h
  | fuel + 1, listed, a, w, h => by
    refine ⟨h.1, fun i hi => ?_⟩
    have hs := h.2 i hi
    unfold wpOp at hs
    unfold wpOpIn
    cases ho : ops[i]? with
    | none =>
      rw [ho] at hs
      exact any_round hd hlo fuel _ a w hs
    | some o =>
      rw [ho] at hs
      simp only [] at hs ⊢
      split
      · rename_i hw
        rw [if_pos hw] at hs
        rcases hs with hs | ⟨_, hs⟩
        · exact oper_round (hd i o ho) (fun a w => any_round hd hlo fuel _ a w) hlo hs
        · exact absurd hs hlo
      · rename_i hw
        rw [if_neg hw] at hs
        exact ⟨fun _ _ => trivial, any_round hd hlo fuel _ _ w hs⟩
def noDefer (ops : Array Oper) : Bool := ops.all fun o => match o.op with
  | .defer _ => false
  | _ => true
theorem noDefer_spec (h : noDefer ops = true) : ∀ (i : Nat) (o : Oper), ops[i]? = some o → ∀ c, o.op ≠ .defer c := fun i o ho c e => by
  have h1 := Array.all_eq_true_iff_forall_mem.1 h o (Array.mem_of_getElem? ho)
  rw [e] at h1
  cases h1
theorem region_round {id : Nat} {a : Act} {w : World} (S : World → Prop) (hm : P.follows .mixedOrders = true) (hd : noDefer ops = true) (hlo : ¬ LetsOut Q)
    (h : wpAnyH P .any ops Q S ops.size (Array.replicate ops.size false) a w.drew) : (Code.region id ops true).wpIn (Fence.wide.inRound l) n P Q a w :=
  wpIn_region_any hm (any_round (noDefer_spec hd) hlo _ _ _ _ (wpAny_of_held _ _ _ _ h))
end
end Go.Proofs.YtlpffgmfgkleiaaGreatDoor

/-
  Lines of words, as they grow word by word.
-/
namespace Go.Proofs.YtlpffgmfgkleiaaGreatDoor
open Go.RowKit Go.Maps Go.Shelf

theorem lnAt_app (L t : List WV) {i : Nat} (h : i < L.length) : lnAt (L ++ t) i = lnAt L i := by unfold lnAt; rw [List.getElem?_append_left h]
theorem lrun_app (L t : List WV) : ∀ i, i ≤ L.length → lrun (L ++ t) i = lrun L i
  | 0, _ => rfl
  | i + 1, h => by
    rw [lrun, lrun, lrun_app L t i (by omega), List.getElem?_append_left (by omega), lnAt_app L t (show i < L.length by omega), lnAt_app L t (show i - 1 < L.length by omega)]
/-- The lines of the words that have come, and the last one's line. -/
def LG (L : List WV) : List (List WV) := lrun L L.length
def lineNo (L : List WV) : Int := (L.getLast?.map WV.ln).getD 0
theorem lg_step (L : List WV) (x : WV) (hx : 1 ≤ x.ln) {N : Bool} (hN : decide (¬ x.ln = lineNo L) = N) : ∃ G0 y, LG (L ++ [x]) = G0 ++ [y ++ [x]] ∧ if N = true then G0 = LG L ∧ y = [] else LG L = G0 ++ [y] := by
  have hg : (L ++ [x])[L.length]? = some x := by simp
  have hl : lnAt (L ++ [x]) L.length = x.ln := lnAt_of hg
  have hN2 : decide (L.length = 0 ∨ lnAt (L ++ [x]) L.length ≠ lnAt (L ++ [x]) (L.length - 1)) = N := by
    rw [← hN, hl]
    rcases List.eq_nil_or_concat L with rfl | ⟨L0, z, rfl⟩
    · have : ¬ x.ln = lineNo [] := by unfold lineNo; simp; omega
      simp [this]
    · rw [List.concat_eq_append] at hg ⊢
      have e : lnAt (L0 ++ [z] ++ [x]) ((L0 ++ [z]).length - 1) = z.ln := lnAt_of (by simp)
      have e2 : lineNo (L0 ++ [z]) = z.ln := by unfold lineNo; simp
      rw [e, e2]
      simp
  obtain ⟨G0, y, h1, h2⟩ := next_row (L ++ [x]) L.length x hg N hN2
  refine ⟨G0, y, ?_, ?_⟩
  · unfold LG; rw [List.length_append, List.length_singleton]; exact h1
  · have e : lrun (L ++ [x]) L.length = LG L := lrun_app L [x] L.length (Nat.le_refl _)
    cases N with
    | true => rw [if_pos rfl] at h2 ⊢; rw [← e]; exact h2
    | false => rw [if_neg (by simp)] at h2 ⊢; rw [← e]; exact h2.2.2
theorem lineNo_snoc (L : List WV) (x : WV) : lineNo (L ++ [x]) = x.ln := by unfold lineNo; simp

/-! ### rows of rows through others' steps -/
theorem Rows.keep {X Y : World} {B : Nat} {v : Value} {cs : List Value} {G : List (List WV)} {row : Option Nat} (h : Rows X B v cs G) (hg : X.grownBy Y row) (hr2 : ∀ r, row = some r → ∀ c T fr, X.heap[r]? = some (.cells c T fr) → T ≠ RTy ∧ T ≠ WT) : Rows Y B v cs G := by
  refine ⟨h.own.grown hg (fun k hk e => ?_), h.len, fun j x hx => ?_, h.apart⟩
  · obtain ⟨c, hc⟩ := h.own.blk hk
    exact (hr2 k e _ _ _ hc).1 rfl
  · obtain ⟨a, c, h1, h2⟩ := h.each j x hx
    refine ⟨a, c, h1, h2.grown hg (fun k hk e => ?_)⟩
    obtain ⟨c', hc⟩ := h2.blk hk
    exact (hr2 k e _ _ _ hc).2 rfl
theorem Rows.aside {X Y : World} {B : Nat} {v : Value} {cs : List Value} {G : List (List WV)} {row : Option Nat} (h : Rows X B v cs G) (hg : X.grownBy Y row) (hr : ∀ r, row = some r → ∃ o : Obj, X.heap[r]? = some o ∧ o.isCells = false) : Rows Y B v cs G :=
  h.keep hg (fun r e c T fr hc => by
    obtain ⟨o, ho, hn⟩ := hr r e
    rw [ho] at hc; cases hc; cases hn)
theorem Rows.box {X : World} {B b : Nat} {T : TypeId} {u u' : Value} {v : Value} {cs : List Value} {G : List (List WV)} (h : Rows X B v cs G) (hb : Go.Boxed X b T u) (h1 : T ≠ RTy) (h2 : T ≠ WT) : Rows (X.setCell ⟨b, 0, none⟩ u') B v cs G :=
  h.keep (grownBy_setCell' X b u') (fun r e c T' fr hc => by cases e; rw [show X.heap[b]? = _ from hb] at hc; cases hc; exact ⟨h1, h2⟩)
theorem ownR_same {w : World} {B B' : Nat} {v : Value} {cs cs' : List Value} (h : OwnR w B v cs) (h' : OwnR w B' v cs') : cs = cs' := by
  obtain ⟨a, c, e, _, _, hj⟩ := h.slice
  obtain ⟨a', c', e', _, _, hj'⟩ := h'.slice
  rw [e] at e'
  simp only [Value.slice.injEq] at e'
  obtain ⟨rfl, hl, _⟩ := e'
  apply List.ext_getElem?
  intro j
  rcases Nat.lt_or_ge j cs.length with q | q
  · obtain ⟨g, e1, h1, _⟩ := hj j cs[j] (List.getElem?_eq_getElem q)
    obtain ⟨g', e2, h2, _⟩ := hj' j (cs'[j]'(by omega)) (List.getElem?_eq_getElem (by omega))
    rw [e1] at e2
    simp only [Option.some.injEq, Addr.mk.injEq] at e2
    obtain ⟨rfl, _⟩ := e2
    rw [h1] at h2
    rw [List.getElem?_eq_getElem q, List.getElem?_eq_getElem (show j < cs'.length by omega)]
    exact h2
  · rw [List.getElem?_eq_none q, List.getElem?_eq_none (by omega)]
end Go.Proofs.YtlpffgmfgkleiaaGreatDoor

/-
  The walk over a text's lines, as the program tells them.
-/
namespace Go.Proofs.YtlpffgmfgkleiaaGreatDoor
open Go.RowKit Go.Maps Go.Shelf
attribute [local go_sem] Oper.semAt_some

abbrev WX := { x : WV // 1 ≤ x.ln }
theorem words_stopsX (n : Nat) (hn : 1 ≤ n) (Bn : Nat) (s : ByteArray) (hs : s.size ≤ 1050000) (w : World) (hB : Go.Boxed w Bn 9 (.string s)) :
    SeqStopsK Fence.wide n Tryz.prog 93 #[.pointer (some ⟨Bn, 0, none⟩)] (fun x : WX => #[x.1.val]) (KpW Bn s) (fun ys => ys.map (·.1) = wordsOf s) (fun _ => True) (s.size + 1) w :=
  fun l J Jx W hW hJ _ hY h0 =>
    (words_in n hn l Bn s hs (fun q W => ∃ q' : List WX, q'.map (·.1) = q ∧ J q' W) (fun q W => ∃ q' : List WX, q'.map (·.1) = q ∧ Jx q' W) W
      (fun q X Y row ⟨q', e, h⟩ hg hr => ⟨q', e, hJ _ _ _ _ h hg hr⟩)
      (fun pre x W1 hx ⟨q', e, h⟩ hlen => by
        subst e
        obtain ⟨fn, tmps, assign, body, hy, hR⟩ := hY q' ⟨x, hx⟩ W1 h (by simpa using hlen)
        refine ⟨fn, tmps, assign, body, hy, hR.mono ?_⟩
        rintro e W' (⟨rfl, hj, hk⟩ | ⟨rfl, hj⟩)
        · exact .inl ⟨rfl, ⟨_, by simp, hj⟩, hk⟩
        · exact .inr ⟨rfl, _, by simp, hj⟩)
      (kept_obj hW hB) ⟨[], rfl, h0⟩).mono fun e W' ⟨hv, h⟩ => ⟨hv, by
        rcases h with ⟨ys, rfl, q', e, hj⟩ | ⟨pre, _, q', e, hj⟩
        · exact .inl ⟨q', e, hj⟩
        · exact .inr ⟨q', trivial, hj⟩⟩

/-- What the lines hold between two words. -/
structure LI (w W : World) (pre : List WV) : Prop where
  row : ∃ v cs, Go.Boxed W w.heap.size 115 v ∧ Rows W w.heap.size v cs (LG pre)
  line : Go.Boxed W (w.heap.size + 1) 3 (.int .i64 (lineNo pre))
  low : Below w.heap.size w W
theorem boxed_aside {X Y : World} {B : Nat} {T : TypeId} {v : Value} {row : Option Nat} (h : Go.Boxed X B T v) (hg : X.grownBy Y row) (hr : ∀ r, row = some r → ∃ o : Obj, X.heap[r]? = some o ∧ o.isCells = false) : Go.Boxed Y B T v :=
  boxed_own (β := Unit) B T (fun _ => v) () X Y row h hg hr
theorem LI.own (w : World) {β : Type} (f : β → List WV) {B : Nat} (hB : w.heap.size ≤ B) : OwnFrom B (fun s W => LI w W (f s)) := fun s X Y row hs hg hr => by
  have hc : ∀ r, row = some r → ∃ o : Obj, X.heap[r]? = some o ∧ o.isCells = false := fun r e => (hr r e).2
  obtain ⟨⟨v, cs, h1, h2⟩, h3, h4⟩ := hs
  exact ⟨⟨v, cs, boxed_aside h1 hg hc, h2.aside hg hc⟩, boxed_aside h3 hg hc, ownFrom_below (β := Unit) (Nat.le_refl _) hB () X Y row h4 hg hr⟩
theorem LI.alloc {w W : World} {pre : List WV} (h : LI w W pre) (o : Obj) : LI w (W.alloc o) pre :=
  LI.own w (fun _ : Unit => pre) (B := w.heap.size) (Nat.le_refl _) () W _ none h (World.grownBy_alloc W o none) (fun r e => by cases e)

theorem BoxW.kept {X Y : World} {B B' : Nat} {x : WV} {v : Value} {cs : List Value} (h : BoxW X B x) (r : OwnR X B' v cs) (hg : X.grownBy Y v.ownBlock) : BoxW Y B x := by
  refine (hg.block B (lt_of_block h) (fun e => ?_)).trans h
  obtain ⟨c, hc⟩ := r.blk e.symm
  rw [show X.heap[B]? = _ from h] at hc
  simp only [Option.some.injEq, Obj.cells.injEq] at hc
  exact absurd hc.2.1 (by decide)
theorem BoxW.alloc {X : World} {B : Nat} {x : WV} (h : BoxW X B x) (o : Obj) : BoxW (X.alloc o) B x := (Below.heap_alloc X o B (lt_of_block h)).trans h
theorem BoxW.set {X : World} {B b : Nat} {x : WV} (h : BoxW X B x) (hb : B ≠ b) (u : Value) : BoxW (X.setCell ⟨b, 0, none⟩ u) B x := (blk_far hb u).trans h
theorem boxw_ne {X : World} {B b : Nat} {x : WV} {T : TypeId} {v : Value} (h : BoxW X B x) (k : Go.Boxed X b T v) (hT : T ≠ WT) : B ≠ b := fun e => by
  subst e
  unfold Go.Boxed at k
  rw [show X.heap[B]? = _ from h] at k
  simp only [Option.some.injEq, Obj.cells.injEq] at k
  exact hT k.2.1.symm

theorem box_ne_row {X : World} {b g n c B : Nat} {T : TypeId} {v : Value} {cs : List Value} (h : Go.Boxed X b T v) (r : OwnR X B (.slice (some ⟨g, 0, none⟩) n c) cs) (hT : T ≠ RTy) : b ≠ g := fun e => by
  subst e
  obtain ⟨cs', hc⟩ := r.blk (k := b) rfl
  rw [show X.heap[b]? = _ from h] at hc
  simp only [Option.some.injEq, Obj.cells.injEq] at hc
  exact hT hc.2.1
theorem keepsOthers_below {X Y : World} (hb : Below X.heap.size X Y) : KeepsOthers X Y := ⟨hb.size, fun k o hk _ => kept_obj hb hk⟩
theorem keepsOthers_grown {X Y : World} {B : Nat} {u : Value} {l : List WV} (h : OwnW X B u l) (hg : X.grownBy Y u.ownBlock) : KeepsOthers X Y :=
  KeepsOthers.of_grownBy hg fun j o ej hj => by
    obtain ⟨c, hc⟩ := h.blk ej
    rw [hj] at hc
    cases hc
    rfl
theorem boxed_grown {X Y : World} {b B : Nat} {T : TypeId} {v u : Value} {l : List WV} (h : Go.Boxed X b T v) (hu : OwnW X B u l) (hg : X.grownBy Y u.ownBlock) (hT : T ≠ WT) : Go.Boxed Y b T v :=
  h.kept hg (h.not_row hT hu)
/-- Where the last line is about to grow. -/
structure Mid (w W V : World) (s : ByteArray) (B0 : Nat) (x : WV) (g c p : Nat) (cs1 : List Value) (u : Value) (G0 : List (List WV)) (y : List WV) : Prop where
  hv : Go.Boxed V w.heap.size 115 (.slice (some ⟨g, 0, none⟩) (p + 1) c)
  rows : Rows V w.heap.size (.slice (some ⟨g, 0, none⟩) (p + 1) c) (cs1 ++ [u]) (G0 ++ [y])
  len : G0.length = p
  line : Go.Boxed V (w.heap.size + 1) 3 (.int .i64 x.ln)
  low : Below w.heap.size w V
  kf : KeepsFrom B0 W V
  kw : KpW (w.heap.size + 2) s W V
theorem Mid.last {w W V : World} {s : ByteArray} {B0 : Nat} {x : WV} {g c p : Nat} {cs1 : List Value} {u : Value} {G0 : List (List WV)} {y : List WV} (m : Mid w W V s B0 x g c p cs1 u G0 y) :
    ∃ a d, u = .slice a y.length d ∧ OwnW V w.heap.size u y ∧ V.cell? ⟨g, p, none⟩ = some u := by
  have hcl : cs1.length = p := by have := m.rows.len; simp at this; rw [this, m.len]
  obtain ⟨au, du, e5, ou⟩ := m.rows.each p y (by rw [← m.len]; simp)
  rw [← hcl] at e5
  simp only [List.getElem?_concat_length, Option.some.injEq] at e5
  subst e5
  obtain ⟨g5, c5, e6, f1, f2⟩ := rows_at m.rows
  simp only [Value.slice.injEq, Option.some.injEq, Addr.mk.injEq] at e6
  obtain ⟨⟨rfl, -⟩, -⟩ := e6
  rw [hcl] at f1
  exact ⟨_, _, rfl, ou, f1⟩
theorem Mid.grow {w W V X w3 : World} {s : ByteArray} {B0 : Nat} {x : WV} {g c p n : Nat} {cs1 : List Value} {u : Value} {G0 : List (List WV)} {y L : List WV} (m : Mid w W V s B0 x g c p cs1 u G0 y) (hX : Below V.heap.size V X) {a3 : Option Addr} {k3 : Nat}
    (o3 : OwnW w3 w.heap.size (.slice a3 n k3) (y ++ [x])) (g3 : X.grownBy w3 u.ownBlock) (l3 : ∀ k, (Value.slice a3 n k3).ownBlock = some k → u.ownBlock = some k ∨ X.heap.size ≤ k) (hL : LG L = G0 ++ [y ++ [x]]) (hl : lineNo L = x.ln) :
    w3.cell? ⟨w.heap.size, 0, none⟩ = some (.slice (some ⟨g, 0, none⟩) (p + 1) c) ∧ w3.cell? ⟨g, p, none⟩ = some u ∧ w3.frozen? ⟨g, p, none⟩ = false ∧
      (w3.setCell ⟨g, p, none⟩ (.slice a3 n k3)).cell? ⟨w.heap.size, 0, none⟩ = some (.slice (some ⟨g, 0, none⟩) (p + 1) c) ∧
      KeepsFrom B0 W (w3.setCell ⟨g, p, none⟩ (.slice a3 n k3)) ∧ KpW (w.heap.size + 2) s W (w3.setCell ⟨g, p, none⟩ (.slice a3 n k3)) ∧ LI w (w3.setCell ⟨g, p, none⟩ (.slice a3 n k3)) L := by
  obtain ⟨au, du, eu, ou, _⟩ := m.last
  have hR := m.rows.below hX
  have hu := ou.below hX
  have hvX : Go.Boxed X w.heap.size 115 (.slice (some ⟨g, 0, none⟩) (p + 1) c) := kept_obj hX m.hv
  have hlX : Go.Boxed X (w.heap.size + 1) 3 (.int .i64 x.ln) := kept_obj hX m.line
  obtain ⟨q1, q2, q3, q4⟩ := row_grow (below_up m.low hX) hR m.len (by simp) o3 g3 l3
  have b1 := boxed_grown hvX hu g3 (by decide)
  have b2 := boxed_grown hlX hu g3 (by decide)
  have n1 := box_ne_row m.hv m.rows.own (by decide)
  have n2 := box_ne_row m.line m.rows.own (by decide)
  have ko : KeepsOthers V (w3.setCell ⟨g, p, none⟩ (.slice a3 n k3)) := ((keepsOthers_below hX).trans (keepsOthers_grown hu g3)).trans (KeepsOthers.setCell _ _ _)
  have c1 : Go.Boxed (w3.setCell ⟨g, p, none⟩ (.slice a3 n k3)) w.heap.size 115 (.slice (some ⟨g, 0, none⟩) (p + 1) c) := (blk_far n1 _).trans b1
  have c2 : Go.Boxed (w3.setCell ⟨g, p, none⟩ (.slice a3 n k3)) (w.heap.size + 1) 3 (.int .i64 x.ln) := (blk_far n2 _).trans b2
  refine ⟨b1.cell, q1, q2, c1.cell, m.kf.trans (ko.from _), kpW_t m.kw ⟨keepsWalks_of ko, fun z => ?_⟩, ⟨⟨_, _, c1, by rw [hL]; exact q3⟩, by rw [hl]; exact c2, q4⟩⟩
  exact (blk_far (box_ne_row z m.rows.own (by decide)) _).trans (boxed_grown (kept_obj hX z) hu g3 (by decide))

set_option maxRecDepth 100000 in
set_option maxHeartbeats 4000000 in
theorem lines_any (s : ByteArray) (hs : s.size ≤ 1050000) (w : World) : Calls Tryz.prog 58 #[.string s] w (LinesBack (linesOf s) w) := by
  have NU := Lib.hid (fun n w => words_val s n w)
  have IT := Lib.hid (fun n hn Bn w => words_stopsX n hn Bn s hs w)
  obtain ⟨i0, hi, hz0, hz1, hz2⟩ := rinfoParts
  have hz := fun w : World => zeroWord w
  refine (callsIn_wide (n := 3)).1 ?_
  refine callsIn_of_wp_marks Tryz.func58 rfl trivial ?_ rfl
  simp only [Tryz.ntmps58, List.size_toArray, List.length_cons, List.length_nil, Nat.reduceAdd, Nat.reduceSub, Array.replicate_succ, Array.replicate_zero, List.push_toArray, List.append_toArray, List.nil_append, List.cons_append]
  gi_wp2_with (refine ⟨trivial, ?_⟩; gi_at_call 75; (refine (NU.out _ _).mono ?_); rintro e w' ⟨rfl, rfl⟩)
  obtain ⟨W0, hW0⟩ : ∃ W0, ((w.alloc (.cells #[.slice none 0 0] 115)).alloc (.cells #[.int .i64 0] 3)).alloc (.cells #[.string s] 9) = W0 := ⟨_, rfl⟩
  have hsz : W0.heap.size = w.heap.size + 3 := by rw [← hW0]; simp
  have c0 : Go.Boxed W0 w.heap.size 115 (.slice none 0 0) := by rw [← hW0]; exact (((Go.Boxed.new w _ _).alloc _).alloc _)
  have c1 : Go.Boxed W0 (w.heap.size + 1) 3 (.int .i64 0) := by
    rw [← hW0]
    have := Go.Boxed.new (w.alloc (.cells #[.slice none 0 0] 115)) 3 (.int .i64 0)
    rw [World.size_alloc] at this
    exact this.alloc _
  have c2 : Go.Boxed W0 (w.heap.size + 2) 9 (.string s) := by
    rw [← hW0]
    have := Go.Boxed.new ((w.alloc (.cells #[.slice none 0 0] 115)).alloc (.cells #[.int .i64 0] 3)) 9 (.string s)
    rw [World.size_alloc, World.size_alloc] at this
    exact this
  have cb : Below w.heap.size w W0 := by rw [← hW0]; exact bw_alloc (bw_alloc (bw_alloc (Below.refl _ _) _) _) _
  rw [hW0]
  clear NU hW0
  refine wpIn_rangeFunc_ownH rfl (by omega) (gf := 93) (lb := #[.pointer (some ⟨w.heap.size + 2, 0, none⟩)]) rfl trivial (enters_of Tryz.func93 (by kernel_rfl) rfl)
    (IT.out _ (by omega) (w.heap.size + 2) _ c2) kpW_t (kpW_b (s := s) (Bn := w.heap.size + 2)) (Below.refl _ _) (fun _ => rfl)
    (fun pre W => LI w W (pre.map (·.1)))
    (fun _ _ _ => False)
    (LI.own w (fun pre : List WX => pre.map (·.1)) (by omega))
    (fun _ _ _ _ _ hs _ _ => hs)
    ⟨⟨_, _, c0, Rows.nil _ _⟩, c1, cb⟩
    (fun x a' W => ∃ Bx, BoxW W Bx x.1 ∧ a' = { tmps := #[.string s, undef, .slice none 0 0, .pointer (some ⟨w.heap.size, 0, none⟩), .pointer (some ⟨w.heap.size + 1, 0, none⟩), .pointer (some ⟨Bx, 0, none⟩), undef, .string s, .func (.func 93) #[] #[.pointer (some ⟨w.heap.size + 2, 0, none⟩)], x.1.val, undef, undef, undef, undef, undef, undef, undef, undef, undef, undef, undef, undef, undef, undef, undef, undef, undef, undef, undef, undef, undef, undef, undef], defers := [] })
    ?_ ?assign ?body ?done ?stop
  · rintro x a' u X Y row ⟨Bx, hb, ha⟩ hg hrow
    exact ⟨Bx, BoxW.own () X Y row hb hg (fun r e => (hrow r e).2), ha⟩
  case assign =>
    rintro l pre x W K hI hK
    dsimp only [WV.val]
    clear IT
    gi_wp2
    exact hK _ _ ((KeepsOthers.alloc _ _).from _) ⟨keepsWalks_of (KeepsOthers.alloc _ _), fun z => z.alloc _⟩ (hI.alloc _) ⟨W.heap.size, World.alloc_heap_new W _, rfl⟩
  case body =>
    rintro l pre x a' W hl hr ⟨⟨v, cs, hv, hR⟩, hline, hB⟩ ⟨Bx, bX, rfl⟩ hlt
    obtain ⟨N, hN⟩ : ∃ N, decide (¬ x.1.ln = lineNo (pre.map (·.1))) = N := ⟨_, rfl⟩
    obtain ⟨G0, y, hG, hG2⟩ := lg_step (pre.map (·.1)) x.1 x.2 hN
    have HG : Hid (LG ((pre ++ [x]).map (·.1)) = G0 ++ [y ++ [x.1]]) := by show _ = _; rw [List.map_append, List.map_singleton]; exact hG
    have HLN : Hid (lineNo ((pre ++ [x]).map (·.1)) = x.1.ln) := by show _ = _; rw [List.map_append, List.map_singleton]; exact lineNo_snoc _ _
    clear hG
    have hcl : cs.length ≤ 1050001 := by
      have h1 := lrun_len (pre.map (·.1)) (pre.map (·.1)).length
      have h2 := hR.len
      unfold LG at h2
      rw [List.length_map] at h1 h2
      omega
    obtain ⟨ln, hln⟩ : ∃ z, lineNo (pre.map (·.1)) = z := ⟨_, rfl⟩
    rw [hln] at hline hN
    have hc := hv.cell
    have hn := hline.cell
    have hfn := hline.frozen
    obtain ⟨x0, x1, x2⟩ := bX.wat
    have hrow : W.ownsRow w.heap.size RTy 1 v cs.length cs := hR.own
    have hw9 : IntKind.i64.wrap (cs.length : Int) = (cs.length : Int) := IntWalk.i64_in _ (by omega)
    clear IT c0 c1 c2 cb
    cases N with
    | true =>
      have d1 : (x.1.ln != ln) = true := by rw [bne_iff_ne]; exact of_decide_eq_true hN
      rw [if_pos rfl] at hG2
      obtain ⟨hG0, hy0⟩ := hG2
      gi_wp2_with (gi_at_builtin; refine wpListIn_append_own _ rfl _ _ 115 rfl w.heap.size RTy i0 _ 1 24 Tryz.underlying115 hi hz0 hz1 hz2 rfl (by decide) _ _ _ rfl (hrow.alloc _) ⟨W.heap.size, 0, none⟩ 1 1 [.slice none 0 0] rfl rfl (cell_one_new _ _ _) (by simp [Value.oneCell']) (by unfold maxLen; omega) (by omega) (by have := hB.size; simp; omega) ?_; intro v' w3 hown' hgrow _; obtain ⟨g, c, rfl⟩ := ownsRow_succ hown'; obtain ⟨hv1, hv2, hr2, hk2, hb2⟩ := hv.appended (by decide) hrow hB.size (by omega) hown' hgrow; have hc1 := hv1.cell; have hf1 := hv1.frozen; have bX1 := (bX.alloc (.cells #[.slice none 0 0] RTy)).kept (OwnR.below hR.own (bw_alloc (Below.refl _ _) _)) hgrow; have bL1 := (hline.alloc (.cells #[.slice none 0 0] RTy)).kept hgrow (hline.not_row (by decide) hrow); have x1' := bX1.wat.c1; have hn1 := bL1.cell; have hfn1 := bL1.frozen)
      have hne := boxw_ne bX1 hv1 (by decide)
      have hne2 := boxw_ne bX1 bL1 (by decide)
      have hcs : (cs ++ [Value.slice none 0 0]).length = cs.length + 1 := by simp
      have hRm : Rows w3 w.heap.size (.slice (some ⟨g, 0, none⟩) (cs.length + 1) c) (cs ++ [.slice none 0 0]) (LG (pre.map (·.1)) ++ [[]]) :=
        (Rows.below hR (bw_alloc (Below.refl _ _) (.cells #[.slice none 0 0] RTy))).more (by unfold OwnR; rw [hcs]; exact hown') hgrow
      obtain ⟨u, hu⟩ : ∃ u : Value, u = .slice none 0 0 := ⟨_, rfl⟩
      have bL2 := bL1.other (show w.heap.size + 1 ≠ w.heap.size by omega) (.slice (some ⟨g, 0, none⟩) (cs.length + 1) c)
      have HM := Lib.hid (show Mid w W ((w3.setCell ⟨w.heap.size, 0, none⟩ (.slice (some ⟨g, 0, none⟩) (cs.length + 1) c)).setCell ⟨w.heap.size + 1, 0, none⟩ (.int .i64 x.1.ln)) s W0.heap.size x.1 g c cs.length cs u G0 y from
        ⟨hv2.other (by omega) _, (by rw [hG0, hy0, hu]; exact (hRm.box hv1 (by decide) (by decide)).box bL2 (by decide) (by decide)), (by rw [hG0]; exact hR.len.symm), bL2.set _, (hB.trans hb2).setCell (p := ⟨w.heap.size + 1, 0, none⟩) (by simp) _, (hk2.trans (KeepsOthers.setCell _ _ _)).from _,
          keepsWalks_of (hk2.trans (KeepsOthers.setCell _ _ _)), fun z => (((z.alloc _).kept hgrow (z.not_row (by decide) hrow)).other (by omega) _).other (by omega) _⟩)
      have HX : Hid (BoxW ((w3.setCell ⟨w.heap.size, 0, none⟩ (.slice (some ⟨g, 0, none⟩) (cs.length + 1) c)).setCell ⟨w.heap.size + 1, 0, none⟩ (.int .i64 x.1.ln)) Bx x.1) := (bX1.set hne _).set hne2 _
      generalize ((w3.setCell ⟨w.heap.size, 0, none⟩ (.slice (some ⟨g, 0, none⟩) (cs.length + 1) c)).setCell ⟨w.heap.size + 1, 0, none⟩ (.int .i64 x.1.ln)) = V at HM HX ⊢
      generalize cs.length = p at *
      clear hown' hgrow hv1 hv2 hr2 hk2 hb2 hc1 hf1 bX1 bL1 bL2 x1' hn1 hfn1 hRm hcs hne hne2 hc hn hfn x0 x1 x2 hrow hw9 d1 hv hR hline hB bX hG0 hy0 hu
      obtain ⟨a5, d5, rfl, ou, hgc⟩ := HM.out.last
      obtain ⟨n5, hn5⟩ : ∃ n5, y.length = n5 := ⟨_, rfl⟩
      rw [hn5] at hgc ou HM
      have HU := Lib.hid ou
      have HYL : Hid (y.length + 1 ≤ 2000000) := by
        show _ ≤ _
        have := lrun_each ((pre ++ [x]).map (·.1)) ((pre ++ [x]).map (·.1)).length (y ++ [x.1]) (by have h := HG.out; unfold LG at h; rw [h]; simp)
        rw [List.length_append, List.length_map, List.length_append, List.length_singleton] at this
        simp at this
        omega
      have HN5 : Hid (y.length + 1 = n5 + 1) := by show _ = _; rw [hn5]
      have hSV := HM.out.hv.cell
      have hS : (fun w' : World => w'.cell? ⟨w.heap.size, 0, none⟩ = some (Value.slice (some ⟨g, 0, none⟩) (p + 1) c)) V.drew := hSV
      obtain ⟨x0, x1, x2⟩ := HX.out.wat
      have hgl := block_of_cell hgc
      have hxl := block_of_cell x0
      have hp1 : (p : Int) < (p : Int) + 1 := by omega
      have hp0 : (0 : Int) ≤ (p : Int) := by omega
      clear ou hn5
      refine region_round (fun w' : World => w'.cell? ⟨w.heap.size, 0, none⟩ = some (Value.slice (some ⟨g, 0, none⟩) (p + 1) c)) (by kernel_rfl) (by kernel_rfl) (by rintro ⟨_, _, h⟩; exact h) ?_
      refine wpAnyH_take (i := 0) (oi := { dst := some 22, op := .load 115 (.tmp 3), type := 115, pos := _, after := _, guard := none }) (v := Value.slice (some ⟨g, 0, none⟩) (p + 1) c) rfl (by kernel_rfl) (by kernel_rfl) (by kernel_rfl) (fun _ _ _ h => h) (Or.inl ⟨by rfl, ?_⟩) hS ?_
      · intro w' hw'
        have hw'' : w'.cell? ⟨w.heap.size, 0, none⟩ = some (Value.slice (some ⟨g, 0, none⟩) (p + 1) c) := hw'
        clear hw'
        go_simp
      simp only [Act.put, List.setIfInBounds_toArray, List.set_cons_zero, List.set_cons_succ]
      refine wpAnyH_take (i := 1) (oi := { dst := some 23, op := .move (.tmp 6), type := 3, pos := _, after := _, guard := none }) (v := .int .i64 p) rfl (by kernel_rfl) (by kernel_rfl) (by kernel_rfl) (fun _ _ _ h => h) (Or.inl ⟨by rfl, ?_⟩) hS ?_
      · intro w' hw'
        have hw'' : w'.cell? ⟨w.heap.size, 0, none⟩ = some (Value.slice (some ⟨g, 0, none⟩) (p + 1) c) := hw'
        clear hw'
        go_simp
      simp only [Act.put, List.setIfInBounds_toArray, List.set_cons_zero, List.set_cons_succ]
      refine wpAnyH_take (i := 2) (oi := { dst := some 24, op := .load 115 (.tmp 3), type := 115, pos := _, after := _, guard := none }) (v := Value.slice (some ⟨g, 0, none⟩) (p + 1) c) rfl (by kernel_rfl) (by kernel_rfl) (by kernel_rfl) (fun _ _ _ h => h) (Or.inl ⟨by rfl, ?_⟩) hS ?_
      · intro w' hw'
        have hw'' : w'.cell? ⟨w.heap.size, 0, none⟩ = some (Value.slice (some ⟨g, 0, none⟩) (p + 1) c) := hw'
        clear hw'
        go_simp
      simp only [Act.put, List.setIfInBounds_toArray, List.set_cons_zero, List.set_cons_succ]
      refine wpAnyH_take (i := 3) (oi := { dst := some 25, op := .move (.tmp 6), type := 3, pos := _, after := _, guard := none }) (v := .int .i64 p) rfl (by kernel_rfl) (by kernel_rfl) (by kernel_rfl) (fun _ _ _ h => h) (Or.inl ⟨by rfl, ?_⟩) hS ?_
      · intro w' hw'
        have hw'' : w'.cell? ⟨w.heap.size, 0, none⟩ = some (Value.slice (some ⟨g, 0, none⟩) (p + 1) c) := hw'
        clear hw'
        go_simp
      simp only [Act.put, List.setIfInBounds_toArray, List.set_cons_zero, List.set_cons_succ]
      refine wpAnyH_take (i := 4) (oi := { dst := some 26, op := .indexAddr 115 (.tmp 24) (.tmp 25), type := 0, pos := _, after := _, guard := none }) (v := .pointer (some ⟨g, p, none⟩)) rfl (by kernel_rfl) (by kernel_rfl) (by kernel_rfl) (fun _ _ _ h => h) (Or.inl ⟨by rfl, ?_⟩) hS ?_
      · intro w' hw'
        have hw'' : w'.cell? ⟨w.heap.size, 0, none⟩ = some (Value.slice (some ⟨g, 0, none⟩) (p + 1) c) := hw'
        clear hw'
        go_simp
      simp only [Act.put, List.setIfInBounds_toArray, List.set_cons_zero, List.set_cons_succ]
      refine wpAnyH_ready (rs := [5, 6]) (by kernel_rfl) (by simp) ?_
      refine AllReadyH.cons (o := { dst := some 27, op := .load 22 (.tmp 26), type := 22, pos := _, after := _, guard := none }) rfl (fun K hK => ?_) (AllReadyH.cons (o := { dst := some 28, op := .load WT (.tmp 5), type := WT, pos := _, after := _, guard := none }) rfl (fun K hK => ?_) AllReadyH.nil)
      · go_simp
        refine hK.out _ _ (by first | exact hS | exact (kept_cell ((by repeat (first | exact Below.refl _ _ | (with_reducible assumption) | refine bw_alloc ?_ _ | refine bw_drew ?_)) : Below V.heap.size V _) hSV)) (fun _ => ?_)
        clear hK K
        try simp only [Act.put, List.setIfInBounds_toArray, List.set_cons_zero, List.set_cons_succ]
        refine wpAnyH_ready (rs := [6]) (by kernel_rfl) (by simp) ?_
        refine AllReadyH.cons (o := { dst := some 28, op := .load WT (.tmp 5), type := WT, pos := _, after := _, guard := none }) rfl (fun K hK => ?_) AllReadyH.nil
        go_simp
        refine hK.out _ _ (by first | exact hS | exact (kept_cell ((by repeat (first | exact Below.refl _ _ | (with_reducible assumption) | refine bw_alloc ?_ _ | refine bw_drew ?_)) : Below V.heap.size V _) hSV)) (fun _ => ?_)
        clear hK K
        try simp only [Act.put, List.setIfInBounds_toArray, List.set_cons_zero, List.set_cons_succ]
        refine wpAnyH_ready (rs := [7]) (by kernel_rfl) (by simp) ?_
        refine AllReadyH.cons (o := { dst := some 29, op := .buildSlice 22 1 #[(0, .tmp 28)], type := 22, pos := _, after := _, guard := none }) rfl (fun K hK => ?_) AllReadyH.nil
        go_simp
        refine hK.out _ _ (by first | exact hS | exact (kept_cell ((by repeat (first | exact Below.refl _ _ | (with_reducible assumption) | refine bw_alloc ?_ _ | refine bw_drew ?_)) : Below V.heap.size V _) hSV)) (fun _ => ?_)
        clear hK K
        try simp only [Act.put, List.setIfInBounds_toArray, List.set_cons_zero, List.set_cons_succ]
        refine wpAnyH_ready (rs := [8]) (by kernel_rfl) (by simp) ?_
        refine AllReadyH.cons (o := { dst := some 30, op := .call { callee := .builtin .append, args := #[.tmp 27, .tmp 29], argTypes := #[22, 22] }, type := 22, pos := _, after := _, guard := none }) rfl (fun K hK => ?_) AllReadyH.nil
        refine step_wappend (m := 1) (l := [x.1]) rfl (.tmp 27) (.tmp 29) rfl (by rfl) (by rfl) (HU.out.below (by repeat (first | exact Below.refl _ _ | (with_reducible assumption) | refine bw_alloc ?_ _ | refine bw_drew ?_))) (Nat.le_trans HM.out.low.size ((by repeat (first | exact Below.refl _ _ | (with_reducible assumption) | refine bw_alloc ?_ _ | refine bw_drew ?_)) : Below V.heap.size V _).size) (by first | exact WView.of_at (wat_new _ x.1 _) | exact (WView.of_at (wat_new _ x.1 _)).below (by repeat (first | exact Below.refl _ _ | (with_reducible assumption) | refine bw_alloc ?_ _ | refine bw_drew ?_))) rfl HYL.out (fun z => by cases z) (n5 + 1) HN5.out ?_
        intro a3 k3 w3 o3 g3 l3
        obtain ⟨s1, q1, q2, s2, f1, f2, f3⟩ := HM.out.grow ((by repeat (first | exact Below.refl _ _ | (with_reducible assumption) | refine bw_alloc ?_ _ | refine bw_drew ?_)) : Below V.heap.size V _) o3 g3 l3 HG.out HLN.out
        refine hK.out _ _ s1 (fun _ => ?_)
        clear hK K
        try simp only [Act.put, List.setIfInBounds_toArray, List.set_cons_zero, List.set_cons_succ]
        have F1 := Lib.hid f1
        have F2 := Lib.hid f2
        have F3 := Lib.hid f3
        clear f1 f2 f3 o3 g3 l3
        refine wpAnyH_ready (rs := [9]) (by kernel_rfl) (by simp) ?_
        refine AllReadyH.cons (o := { dst := some 31, op := .indexAddr 115 (.tmp 22) (.tmp 23), type := 0, pos := _, after := _, guard := none }) rfl (fun K hK => ?_) AllReadyH.nil
        go_simp
        refine hK.out _ _ (s1) (fun _ => ?_)
        clear hK K
        try simp only [Act.put, List.setIfInBounds_toArray, List.set_cons_zero, List.set_cons_succ]
        refine wpAnyH_ready (rs := [10]) (by kernel_rfl) (by simp) ?_
        refine AllReadyH.cons (o := { dst := none, op := .store 22 (.tmp 31) (.tmp 30), type := 0, pos := _, after := _, guard := none }) rfl (fun K hK => ?_) AllReadyH.nil
        go_simp
        refine hK.out _ _ (s2) (fun _ => ?_)
        clear hK K
        try simp only [Act.put, List.setIfInBounds_toArray, List.set_cons_zero, List.set_cons_succ]
        refine wpAnyH_done (by kernel_rfl) ?_ _
        gi_wp2
        exact ⟨by first | exact F1.out | (rw [← hsz]; exact F1.out), F2.out, F3.out⟩
      · go_simp
        refine hK.out _ _ (by first | exact hS | exact (kept_cell ((by repeat (first | exact Below.refl _ _ | (with_reducible assumption) | refine bw_alloc ?_ _ | refine bw_drew ?_)) : Below V.heap.size V _) hSV)) (fun _ => ?_)
        clear hK K
        try simp only [Act.put, List.setIfInBounds_toArray, List.set_cons_zero, List.set_cons_succ]
        refine wpAnyH_ready (rs := [5, 7]) (by kernel_rfl) (by simp) ?_
        refine AllReadyH.cons (o := { dst := some 27, op := .load 22 (.tmp 26), type := 22, pos := _, after := _, guard := none }) rfl (fun K hK => ?_) (AllReadyH.cons (o := { dst := some 29, op := .buildSlice 22 1 #[(0, .tmp 28)], type := 22, pos := _, after := _, guard := none }) rfl (fun K hK => ?_) AllReadyH.nil)
        · go_simp
          refine hK.out _ _ (by first | exact hS | exact (kept_cell ((by repeat (first | exact Below.refl _ _ | (with_reducible assumption) | refine bw_alloc ?_ _ | refine bw_drew ?_)) : Below V.heap.size V _) hSV)) (fun _ => ?_)
          clear hK K
          try simp only [Act.put, List.setIfInBounds_toArray, List.set_cons_zero, List.set_cons_succ]
          refine wpAnyH_ready (rs := [7]) (by kernel_rfl) (by simp) ?_
          refine AllReadyH.cons (o := { dst := some 29, op := .buildSlice 22 1 #[(0, .tmp 28)], type := 22, pos := _, after := _, guard := none }) rfl (fun K hK => ?_) AllReadyH.nil
          go_simp
          refine hK.out _ _ (by first | exact hS | exact (kept_cell ((by repeat (first | exact Below.refl _ _ | (with_reducible assumption) | refine bw_alloc ?_ _ | refine bw_drew ?_)) : Below V.heap.size V _) hSV)) (fun _ => ?_)
          clear hK K
          try simp only [Act.put, List.setIfInBounds_toArray, List.set_cons_zero, List.set_cons_succ]
          refine wpAnyH_ready (rs := [8]) (by kernel_rfl) (by simp) ?_
          refine AllReadyH.cons (o := { dst := some 30, op := .call { callee := .builtin .append, args := #[.tmp 27, .tmp 29], argTypes := #[22, 22] }, type := 22, pos := _, after := _, guard := none }) rfl (fun K hK => ?_) AllReadyH.nil
          refine step_wappend (m := 1) (l := [x.1]) rfl (.tmp 27) (.tmp 29) rfl (by rfl) (by rfl) (HU.out.below (by repeat (first | exact Below.refl _ _ | (with_reducible assumption) | refine bw_alloc ?_ _ | refine bw_drew ?_))) (Nat.le_trans HM.out.low.size ((by repeat (first | exact Below.refl _ _ | (with_reducible assumption) | refine bw_alloc ?_ _ | refine bw_drew ?_)) : Below V.heap.size V _).size) (by first | exact WView.of_at (wat_new _ x.1 _) | exact (WView.of_at (wat_new _ x.1 _)).below (by repeat (first | exact Below.refl _ _ | (with_reducible assumption) | refine bw_alloc ?_ _ | refine bw_drew ?_))) rfl HYL.out (fun z => by cases z) (n5 + 1) HN5.out ?_
          intro a3 k3 w3 o3 g3 l3
          obtain ⟨s1, q1, q2, s2, f1, f2, f3⟩ := HM.out.grow ((by repeat (first | exact Below.refl _ _ | (with_reducible assumption) | refine bw_alloc ?_ _ | refine bw_drew ?_)) : Below V.heap.size V _) o3 g3 l3 HG.out HLN.out
          refine hK.out _ _ s1 (fun _ => ?_)
          clear hK K
          try simp only [Act.put, List.setIfInBounds_toArray, List.set_cons_zero, List.set_cons_succ]
          have F1 := Lib.hid f1
          have F2 := Lib.hid f2
          have F3 := Lib.hid f3
          clear f1 f2 f3 o3 g3 l3
          refine wpAnyH_ready (rs := [9]) (by kernel_rfl) (by simp) ?_
          refine AllReadyH.cons (o := { dst := some 31, op := .indexAddr 115 (.tmp 22) (.tmp 23), type := 0, pos := _, after := _, guard := none }) rfl (fun K hK => ?_) AllReadyH.nil
          go_simp
          refine hK.out _ _ (s1) (fun _ => ?_)
          clear hK K
          try simp only [Act.put, List.setIfInBounds_toArray, List.set_cons_zero, List.set_cons_succ]
          refine wpAnyH_ready (rs := [10]) (by kernel_rfl) (by simp) ?_
          refine AllReadyH.cons (o := { dst := none, op := .store 22 (.tmp 31) (.tmp 30), type := 0, pos := _, after := _, guard := none }) rfl (fun K hK => ?_) AllReadyH.nil
          go_simp
          refine hK.out _ _ (s2) (fun _ => ?_)
          clear hK K
          try simp only [Act.put, List.setIfInBounds_toArray, List.set_cons_zero, List.set_cons_succ]
          refine wpAnyH_done (by kernel_rfl) ?_ _
          gi_wp2
          exact ⟨by first | exact F1.out | (rw [← hsz]; exact F1.out), F2.out, F3.out⟩
        · go_simp
          refine hK.out _ _ (by first | exact hS | exact (kept_cell ((by repeat (first | exact Below.refl _ _ | (with_reducible assumption) | refine bw_alloc ?_ _ | refine bw_drew ?_)) : Below V.heap.size V _) hSV)) (fun _ => ?_)
          clear hK K
          try simp only [Act.put, List.setIfInBounds_toArray, List.set_cons_zero, List.set_cons_succ]
          refine wpAnyH_ready (rs := [5]) (by kernel_rfl) (by simp) ?_
          refine AllReadyH.cons (o := { dst := some 27, op := .load 22 (.tmp 26), type := 22, pos := _, after := _, guard := none }) rfl (fun K hK => ?_) AllReadyH.nil
          go_simp
          refine hK.out _ _ (by first | exact hS | exact (kept_cell ((by repeat (first | exact Below.refl _ _ | (with_reducible assumption) | refine bw_alloc ?_ _ | refine bw_drew ?_)) : Below V.heap.size V _) hSV)) (fun _ => ?_)
          clear hK K
          try simp only [Act.put, List.setIfInBounds_toArray, List.set_cons_zero, List.set_cons_succ]
          refine wpAnyH_ready (rs := [8]) (by kernel_rfl) (by simp) ?_
          refine AllReadyH.cons (o := { dst := some 30, op := .call { callee := .builtin .append, args := #[.tmp 27, .tmp 29], argTypes := #[22, 22] }, type := 22, pos := _, after := _, guard := none }) rfl (fun K hK => ?_) AllReadyH.nil
          refine step_wappend (m := 1) (l := [x.1]) rfl (.tmp 27) (.tmp 29) rfl (by rfl) (by rfl) (HU.out.below (by repeat (first | exact Below.refl _ _ | (with_reducible assumption) | refine bw_alloc ?_ _ | refine bw_drew ?_))) (Nat.le_trans HM.out.low.size ((by repeat (first | exact Below.refl _ _ | (with_reducible assumption) | refine bw_alloc ?_ _ | refine bw_drew ?_)) : Below V.heap.size V _).size) (by first | exact WView.of_at (wat_new _ x.1 _) | exact (WView.of_at (wat_new _ x.1 _)).below (by repeat (first | exact Below.refl _ _ | (with_reducible assumption) | refine bw_alloc ?_ _ | refine bw_drew ?_))) rfl HYL.out (fun z => by cases z) (n5 + 1) HN5.out ?_
          intro a3 k3 w3 o3 g3 l3
          obtain ⟨s1, q1, q2, s2, f1, f2, f3⟩ := HM.out.grow ((by repeat (first | exact Below.refl _ _ | (with_reducible assumption) | refine bw_alloc ?_ _ | refine bw_drew ?_)) : Below V.heap.size V _) o3 g3 l3 HG.out HLN.out
          refine hK.out _ _ s1 (fun _ => ?_)
          clear hK K
          try simp only [Act.put, List.setIfInBounds_toArray, List.set_cons_zero, List.set_cons_succ]
          have F1 := Lib.hid f1
          have F2 := Lib.hid f2
          have F3 := Lib.hid f3
          clear f1 f2 f3 o3 g3 l3
          refine wpAnyH_ready (rs := [9]) (by kernel_rfl) (by simp) ?_
          refine AllReadyH.cons (o := { dst := some 31, op := .indexAddr 115 (.tmp 22) (.tmp 23), type := 0, pos := _, after := _, guard := none }) rfl (fun K hK => ?_) AllReadyH.nil
          go_simp
          refine hK.out _ _ (s1) (fun _ => ?_)
          clear hK K
          try simp only [Act.put, List.setIfInBounds_toArray, List.set_cons_zero, List.set_cons_succ]
          refine wpAnyH_ready (rs := [10]) (by kernel_rfl) (by simp) ?_
          refine AllReadyH.cons (o := { dst := none, op := .store 22 (.tmp 31) (.tmp 30), type := 0, pos := _, after := _, guard := none }) rfl (fun K hK => ?_) AllReadyH.nil
          go_simp
          refine hK.out _ _ (s2) (fun _ => ?_)
          clear hK K
          try simp only [Act.put, List.setIfInBounds_toArray, List.set_cons_zero, List.set_cons_succ]
          refine wpAnyH_done (by kernel_rfl) ?_ _
          gi_wp2
          exact ⟨by first | exact F1.out | (rw [← hsz]; exact F1.out), F2.out, F3.out⟩
    | false =>
      have d1 : (x.1.ln != ln) = false := by rw [bne_eq_false_iff_eq]; have := of_decide_eq_false hN; omega
      rw [if_neg (by simp)] at hG2
      have hxl9 : x.1.ln = ln := Decidable.byContradiction fun z => absurd hN (by rw [decide_eq_true z]; simp)
      rw [hG2] at hR
      obtain ⟨cs0, u, rfl, hc0⟩ := rows_split hR
      obtain ⟨g, c, e6, _, _⟩ := rows_at hR
      obtain ⟨p, hp⟩ : ∃ p, G0.length = p := ⟨_, rfl⟩
      rw [List.length_append, List.length_singleton, hp] at e6
      subst e6
      have hw9 : IntKind.i64.wrap (p : Int) = (p : Int) := by
        rw [List.length_append, List.length_singleton, hc0, hp] at hcl
        exact IntWalk.i64_in _ (by omega)
      have HM := Lib.hid (show Mid w W W s W0.heap.size x.1 g c p cs0 u G0 y from ⟨hv, hR, hp, by rw [hxl9]; exact hline, hB, KeepsFrom.refl _ _, KeepsWalks.refl _, fun z => z⟩)
      have HX : Hid (BoxW W Bx x.1) := bX
      clear hR hrow hp hcl hc0 hG2 hxl9 hN
      gi_wp2
      clear hc hn hfn x0 x1 x2 hw9 d1 hv hline hB bX
      obtain ⟨a5, d5, rfl, ou, hgc⟩ := HM.out.last
      obtain ⟨n5, hn5⟩ : ∃ n5, y.length = n5 := ⟨_, rfl⟩
      rw [hn5] at hgc ou HM
      have HU := Lib.hid ou
      have HYL : Hid (y.length + 1 ≤ 2000000) := by
        show _ ≤ _
        have := lrun_each ((pre ++ [x]).map (·.1)) ((pre ++ [x]).map (·.1)).length (y ++ [x.1]) (by have h := HG.out; unfold LG at h; rw [h]; simp)
        rw [List.length_append, List.length_map, List.length_append, List.length_singleton] at this
        simp at this
        omega
      have HN5 : Hid (y.length + 1 = n5 + 1) := by show _ = _; rw [hn5]
      have hSV := HM.out.hv.cell
      have hS : (fun w' : World => w'.cell? ⟨w.heap.size, 0, none⟩ = some (Value.slice (some ⟨g, 0, none⟩) (p + 1) c)) W.drew := hSV
      obtain ⟨x0, x1, x2⟩ := HX.out.wat
      have hgl := block_of_cell hgc
      have hxl := block_of_cell x0
      have hp1 : (p : Int) < (p : Int) + 1 := by omega
      have hp0 : (0 : Int) ≤ (p : Int) := by omega
      clear ou hn5
      refine region_round (fun w' : World => w'.cell? ⟨w.heap.size, 0, none⟩ = some (Value.slice (some ⟨g, 0, none⟩) (p + 1) c)) (by kernel_rfl) (by kernel_rfl) (by rintro ⟨_, _, h⟩; exact h) ?_
      refine wpAnyH_take (i := 0) (oi := { dst := some 22, op := .load 115 (.tmp 3), type := 115, pos := _, after := _, guard := none }) (v := Value.slice (some ⟨g, 0, none⟩) (p + 1) c) rfl (by kernel_rfl) (by kernel_rfl) (by kernel_rfl) (fun _ _ _ h => h) (Or.inl ⟨by rfl, ?_⟩) hS ?_
      · intro w' hw'
        have hw'' : w'.cell? ⟨w.heap.size, 0, none⟩ = some (Value.slice (some ⟨g, 0, none⟩) (p + 1) c) := hw'
        clear hw'
        go_simp
      simp only [Act.put, List.setIfInBounds_toArray, List.set_cons_zero, List.set_cons_succ]
      refine wpAnyH_take (i := 1) (oi := { dst := some 23, op := .move (.tmp 6), type := 3, pos := _, after := _, guard := none }) (v := .int .i64 p) rfl (by kernel_rfl) (by kernel_rfl) (by kernel_rfl) (fun _ _ _ h => h) (Or.inl ⟨by rfl, ?_⟩) hS ?_
      · intro w' hw'
        have hw'' : w'.cell? ⟨w.heap.size, 0, none⟩ = some (Value.slice (some ⟨g, 0, none⟩) (p + 1) c) := hw'
        clear hw'
        go_simp
      simp only [Act.put, List.setIfInBounds_toArray, List.set_cons_zero, List.set_cons_succ]
      refine wpAnyH_take (i := 2) (oi := { dst := some 24, op := .load 115 (.tmp 3), type := 115, pos := _, after := _, guard := none }) (v := Value.slice (some ⟨g, 0, none⟩) (p + 1) c) rfl (by kernel_rfl) (by kernel_rfl) (by kernel_rfl) (fun _ _ _ h => h) (Or.inl ⟨by rfl, ?_⟩) hS ?_
      · intro w' hw'
        have hw'' : w'.cell? ⟨w.heap.size, 0, none⟩ = some (Value.slice (some ⟨g, 0, none⟩) (p + 1) c) := hw'
        clear hw'
        go_simp
      simp only [Act.put, List.setIfInBounds_toArray, List.set_cons_zero, List.set_cons_succ]
      refine wpAnyH_take (i := 3) (oi := { dst := some 25, op := .move (.tmp 6), type := 3, pos := _, after := _, guard := none }) (v := .int .i64 p) rfl (by kernel_rfl) (by kernel_rfl) (by kernel_rfl) (fun _ _ _ h => h) (Or.inl ⟨by rfl, ?_⟩) hS ?_
      · intro w' hw'
        have hw'' : w'.cell? ⟨w.heap.size, 0, none⟩ = some (Value.slice (some ⟨g, 0, none⟩) (p + 1) c) := hw'
        clear hw'
        go_simp
      simp only [Act.put, List.setIfInBounds_toArray, List.set_cons_zero, List.set_cons_succ]
      refine wpAnyH_take (i := 4) (oi := { dst := some 26, op := .indexAddr 115 (.tmp 24) (.tmp 25), type := 0, pos := _, after := _, guard := none }) (v := .pointer (some ⟨g, p, none⟩)) rfl (by kernel_rfl) (by kernel_rfl) (by kernel_rfl) (fun _ _ _ h => h) (Or.inl ⟨by rfl, ?_⟩) hS ?_
      · intro w' hw'
        have hw'' : w'.cell? ⟨w.heap.size, 0, none⟩ = some (Value.slice (some ⟨g, 0, none⟩) (p + 1) c) := hw'
        clear hw'
        go_simp
      simp only [Act.put, List.setIfInBounds_toArray, List.set_cons_zero, List.set_cons_succ]
      refine wpAnyH_ready (rs := [5, 6]) (by kernel_rfl) (by simp) ?_
      refine AllReadyH.cons (o := { dst := some 27, op := .load 22 (.tmp 26), type := 22, pos := _, after := _, guard := none }) rfl (fun K hK => ?_) (AllReadyH.cons (o := { dst := some 28, op := .load WT (.tmp 5), type := WT, pos := _, after := _, guard := none }) rfl (fun K hK => ?_) AllReadyH.nil)
      · go_simp
        refine hK.out _ _ (by first | exact hS | exact (kept_cell ((by repeat (first | exact Below.refl _ _ | (with_reducible assumption) | refine bw_alloc ?_ _ | refine bw_drew ?_)) : Below W.heap.size W _) hSV)) (fun _ => ?_)
        clear hK K
        try simp only [Act.put, List.setIfInBounds_toArray, List.set_cons_zero, List.set_cons_succ]
        refine wpAnyH_ready (rs := [6]) (by kernel_rfl) (by simp) ?_
        refine AllReadyH.cons (o := { dst := some 28, op := .load WT (.tmp 5), type := WT, pos := _, after := _, guard := none }) rfl (fun K hK => ?_) AllReadyH.nil
        go_simp
        refine hK.out _ _ (by first | exact hS | exact (kept_cell ((by repeat (first | exact Below.refl _ _ | (with_reducible assumption) | refine bw_alloc ?_ _ | refine bw_drew ?_)) : Below W.heap.size W _) hSV)) (fun _ => ?_)
        clear hK K
        try simp only [Act.put, List.setIfInBounds_toArray, List.set_cons_zero, List.set_cons_succ]
        refine wpAnyH_ready (rs := [7]) (by kernel_rfl) (by simp) ?_
        refine AllReadyH.cons (o := { dst := some 29, op := .buildSlice 22 1 #[(0, .tmp 28)], type := 22, pos := _, after := _, guard := none }) rfl (fun K hK => ?_) AllReadyH.nil
        go_simp
        refine hK.out _ _ (by first | exact hS | exact (kept_cell ((by repeat (first | exact Below.refl _ _ | (with_reducible assumption) | refine bw_alloc ?_ _ | refine bw_drew ?_)) : Below W.heap.size W _) hSV)) (fun _ => ?_)
        clear hK K
        try simp only [Act.put, List.setIfInBounds_toArray, List.set_cons_zero, List.set_cons_succ]
        refine wpAnyH_ready (rs := [8]) (by kernel_rfl) (by simp) ?_
        refine AllReadyH.cons (o := { dst := some 30, op := .call { callee := .builtin .append, args := #[.tmp 27, .tmp 29], argTypes := #[22, 22] }, type := 22, pos := _, after := _, guard := none }) rfl (fun K hK => ?_) AllReadyH.nil
        refine step_wappend (m := 1) (l := [x.1]) rfl (.tmp 27) (.tmp 29) rfl (by rfl) (by rfl) (HU.out.below (by repeat (first | exact Below.refl _ _ | (with_reducible assumption) | refine bw_alloc ?_ _ | refine bw_drew ?_))) (Nat.le_trans HM.out.low.size ((by repeat (first | exact Below.refl _ _ | (with_reducible assumption) | refine bw_alloc ?_ _ | refine bw_drew ?_)) : Below W.heap.size W _).size) (by first | exact WView.of_at (wat_new _ x.1 _) | exact (WView.of_at (wat_new _ x.1 _)).below (by repeat (first | exact Below.refl _ _ | (with_reducible assumption) | refine bw_alloc ?_ _ | refine bw_drew ?_))) rfl HYL.out (fun z => by cases z) (n5 + 1) HN5.out ?_
        intro a3 k3 w3 o3 g3 l3
        obtain ⟨s1, q1, q2, s2, f1, f2, f3⟩ := HM.out.grow ((by repeat (first | exact Below.refl _ _ | (with_reducible assumption) | refine bw_alloc ?_ _ | refine bw_drew ?_)) : Below W.heap.size W _) o3 g3 l3 HG.out HLN.out
        refine hK.out _ _ s1 (fun _ => ?_)
        clear hK K
        try simp only [Act.put, List.setIfInBounds_toArray, List.set_cons_zero, List.set_cons_succ]
        have F1 := Lib.hid f1
        have F2 := Lib.hid f2
        have F3 := Lib.hid f3
        clear f1 f2 f3 o3 g3 l3
        refine wpAnyH_ready (rs := [9]) (by kernel_rfl) (by simp) ?_
        refine AllReadyH.cons (o := { dst := some 31, op := .indexAddr 115 (.tmp 22) (.tmp 23), type := 0, pos := _, after := _, guard := none }) rfl (fun K hK => ?_) AllReadyH.nil
        go_simp
        refine hK.out _ _ (s1) (fun _ => ?_)
        clear hK K
        try simp only [Act.put, List.setIfInBounds_toArray, List.set_cons_zero, List.set_cons_succ]
        refine wpAnyH_ready (rs := [10]) (by kernel_rfl) (by simp) ?_
        refine AllReadyH.cons (o := { dst := none, op := .store 22 (.tmp 31) (.tmp 30), type := 0, pos := _, after := _, guard := none }) rfl (fun K hK => ?_) AllReadyH.nil
        go_simp
        refine hK.out _ _ (s2) (fun _ => ?_)
        clear hK K
        try simp only [Act.put, List.setIfInBounds_toArray, List.set_cons_zero, List.set_cons_succ]
        refine wpAnyH_done (by kernel_rfl) ?_ _
        gi_wp2
        exact ⟨by first | exact F1.out | (rw [← hsz]; exact F1.out), F2.out, F3.out⟩
      · go_simp
        refine hK.out _ _ (by first | exact hS | exact (kept_cell ((by repeat (first | exact Below.refl _ _ | (with_reducible assumption) | refine bw_alloc ?_ _ | refine bw_drew ?_)) : Below W.heap.size W _) hSV)) (fun _ => ?_)
        clear hK K
        try simp only [Act.put, List.setIfInBounds_toArray, List.set_cons_zero, List.set_cons_succ]
        refine wpAnyH_ready (rs := [5, 7]) (by kernel_rfl) (by simp) ?_
        refine AllReadyH.cons (o := { dst := some 27, op := .load 22 (.tmp 26), type := 22, pos := _, after := _, guard := none }) rfl (fun K hK => ?_) (AllReadyH.cons (o := { dst := some 29, op := .buildSlice 22 1 #[(0, .tmp 28)], type := 22, pos := _, after := _, guard := none }) rfl (fun K hK => ?_) AllReadyH.nil)
        · go_simp
          refine hK.out _ _ (by first | exact hS | exact (kept_cell ((by repeat (first | exact Below.refl _ _ | (with_reducible assumption) | refine bw_alloc ?_ _ | refine bw_drew ?_)) : Below W.heap.size W _) hSV)) (fun _ => ?_)
          clear hK K
          try simp only [Act.put, List.setIfInBounds_toArray, List.set_cons_zero, List.set_cons_succ]
          refine wpAnyH_ready (rs := [7]) (by kernel_rfl) (by simp) ?_
          refine AllReadyH.cons (o := { dst := some 29, op := .buildSlice 22 1 #[(0, .tmp 28)], type := 22, pos := _, after := _, guard := none }) rfl (fun K hK => ?_) AllReadyH.nil
          go_simp
          refine hK.out _ _ (by first | exact hS | exact (kept_cell ((by repeat (first | exact Below.refl _ _ | (with_reducible assumption) | refine bw_alloc ?_ _ | refine bw_drew ?_)) : Below W.heap.size W _) hSV)) (fun _ => ?_)
          clear hK K
          try simp only [Act.put, List.setIfInBounds_toArray, List.set_cons_zero, List.set_cons_succ]
          refine wpAnyH_ready (rs := [8]) (by kernel_rfl) (by simp) ?_
          refine AllReadyH.cons (o := { dst := some 30, op := .call { callee := .builtin .append, args := #[.tmp 27, .tmp 29], argTypes := #[22, 22] }, type := 22, pos := _, after := _, guard := none }) rfl (fun K hK => ?_) AllReadyH.nil
          refine step_wappend (m := 1) (l := [x.1]) rfl (.tmp 27) (.tmp 29) rfl (by rfl) (by rfl) (HU.out.below (by repeat (first | exact Below.refl _ _ | (with_reducible assumption) | refine bw_alloc ?_ _ | refine bw_drew ?_))) (Nat.le_trans HM.out.low.size ((by repeat (first | exact Below.refl _ _ | (with_reducible assumption) | refine bw_alloc ?_ _ | refine bw_drew ?_)) : Below W.heap.size W _).size) (by first | exact WView.of_at (wat_new _ x.1 _) | exact (WView.of_at (wat_new _ x.1 _)).below (by repeat (first | exact Below.refl _ _ | (with_reducible assumption) | refine bw_alloc ?_ _ | refine bw_drew ?_))) rfl HYL.out (fun z => by cases z) (n5 + 1) HN5.out ?_
          intro a3 k3 w3 o3 g3 l3
          obtain ⟨s1, q1, q2, s2, f1, f2, f3⟩ := HM.out.grow ((by repeat (first | exact Below.refl _ _ | (with_reducible assumption) | refine bw_alloc ?_ _ | refine bw_drew ?_)) : Below W.heap.size W _) o3 g3 l3 HG.out HLN.out
          refine hK.out _ _ s1 (fun _ => ?_)
          clear hK K
          try simp only [Act.put, List.setIfInBounds_toArray, List.set_cons_zero, List.set_cons_succ]
          have F1 := Lib.hid f1
          have F2 := Lib.hid f2
          have F3 := Lib.hid f3
          clear f1 f2 f3 o3 g3 l3
          refine wpAnyH_ready (rs := [9]) (by kernel_rfl) (by simp) ?_
          refine AllReadyH.cons (o := { dst := some 31, op := .indexAddr 115 (.tmp 22) (.tmp 23), type := 0, pos := _, after := _, guard := none }) rfl (fun K hK => ?_) AllReadyH.nil
          go_simp
          refine hK.out _ _ (s1) (fun _ => ?_)
          clear hK K
          try simp only [Act.put, List.setIfInBounds_toArray, List.set_cons_zero, List.set_cons_succ]
          refine wpAnyH_ready (rs := [10]) (by kernel_rfl) (by simp) ?_
          refine AllReadyH.cons (o := { dst := none, op := .store 22 (.tmp 31) (.tmp 30), type := 0, pos := _, after := _, guard := none }) rfl (fun K hK => ?_) AllReadyH.nil
          go_simp
          refine hK.out _ _ (s2) (fun _ => ?_)
          clear hK K
          try simp only [Act.put, List.setIfInBounds_toArray, List.set_cons_zero, List.set_cons_succ]
          refine wpAnyH_done (by kernel_rfl) ?_ _
          gi_wp2
          exact ⟨by first | exact F1.out | (rw [← hsz]; exact F1.out), F2.out, F3.out⟩
        · go_simp
          refine hK.out _ _ (by first | exact hS | exact (kept_cell ((by repeat (first | exact Below.refl _ _ | (with_reducible assumption) | refine bw_alloc ?_ _ | refine bw_drew ?_)) : Below W.heap.size W _) hSV)) (fun _ => ?_)
          clear hK K
          try simp only [Act.put, List.setIfInBounds_toArray, List.set_cons_zero, List.set_cons_succ]
          refine wpAnyH_ready (rs := [5]) (by kernel_rfl) (by simp) ?_
          refine AllReadyH.cons (o := { dst := some 27, op := .load 22 (.tmp 26), type := 22, pos := _, after := _, guard := none }) rfl (fun K hK => ?_) AllReadyH.nil
          go_simp
          refine hK.out _ _ (by first | exact hS | exact (kept_cell ((by repeat (first | exact Below.refl _ _ | (with_reducible assumption) | refine bw_alloc ?_ _ | refine bw_drew ?_)) : Below W.heap.size W _) hSV)) (fun _ => ?_)
          clear hK K
          try simp only [Act.put, List.setIfInBounds_toArray, List.set_cons_zero, List.set_cons_succ]
          refine wpAnyH_ready (rs := [8]) (by kernel_rfl) (by simp) ?_
          refine AllReadyH.cons (o := { dst := some 30, op := .call { callee := .builtin .append, args := #[.tmp 27, .tmp 29], argTypes := #[22, 22] }, type := 22, pos := _, after := _, guard := none }) rfl (fun K hK => ?_) AllReadyH.nil
          refine step_wappend (m := 1) (l := [x.1]) rfl (.tmp 27) (.tmp 29) rfl (by rfl) (by rfl) (HU.out.below (by repeat (first | exact Below.refl _ _ | (with_reducible assumption) | refine bw_alloc ?_ _ | refine bw_drew ?_))) (Nat.le_trans HM.out.low.size ((by repeat (first | exact Below.refl _ _ | (with_reducible assumption) | refine bw_alloc ?_ _ | refine bw_drew ?_)) : Below W.heap.size W _).size) (by first | exact WView.of_at (wat_new _ x.1 _) | exact (WView.of_at (wat_new _ x.1 _)).below (by repeat (first | exact Below.refl _ _ | (with_reducible assumption) | refine bw_alloc ?_ _ | refine bw_drew ?_))) rfl HYL.out (fun z => by cases z) (n5 + 1) HN5.out ?_
          intro a3 k3 w3 o3 g3 l3
          obtain ⟨s1, q1, q2, s2, f1, f2, f3⟩ := HM.out.grow ((by repeat (first | exact Below.refl _ _ | (with_reducible assumption) | refine bw_alloc ?_ _ | refine bw_drew ?_)) : Below W.heap.size W _) o3 g3 l3 HG.out HLN.out
          refine hK.out _ _ s1 (fun _ => ?_)
          clear hK K
          try simp only [Act.put, List.setIfInBounds_toArray, List.set_cons_zero, List.set_cons_succ]
          have F1 := Lib.hid f1
          have F2 := Lib.hid f2
          have F3 := Lib.hid f3
          clear f1 f2 f3 o3 g3 l3
          refine wpAnyH_ready (rs := [9]) (by kernel_rfl) (by simp) ?_
          refine AllReadyH.cons (o := { dst := some 31, op := .indexAddr 115 (.tmp 22) (.tmp 23), type := 0, pos := _, after := _, guard := none }) rfl (fun K hK => ?_) AllReadyH.nil
          go_simp
          refine hK.out _ _ (s1) (fun _ => ?_)
          clear hK K
          try simp only [Act.put, List.setIfInBounds_toArray, List.set_cons_zero, List.set_cons_succ]
          refine wpAnyH_ready (rs := [10]) (by kernel_rfl) (by simp) ?_
          refine AllReadyH.cons (o := { dst := none, op := .store 22 (.tmp 31) (.tmp 30), type := 0, pos := _, after := _, guard := none }) rfl (fun K hK => ?_) AllReadyH.nil
          go_simp
          refine hK.out _ _ (s2) (fun _ => ?_)
          clear hK K
          try simp only [Act.put, List.setIfInBounds_toArray, List.set_cons_zero, List.set_cons_succ]
          refine wpAnyH_done (by kernel_rfl) ?_ _
          gi_wp2
          exact ⟨by first | exact F1.out | (rw [← hsz]; exact F1.out), F2.out, F3.out⟩
  case done =>
    rintro D ys W hD hS ⟨⟨v, cs, hv, hR⟩, hline, hB⟩ hK
    have hc := hv.cell
    clear IT
    gi_wp2
    refine ⟨by simp, .inl ⟨_, _, rfl, run_takeDeferred hK, ?_⟩⟩
    have hG : LG (ys.map (·.1)) = linesOf s := by rw [hS]; rfl
    rw [hG] at hR
    obtain ⟨a, c, e, hac, hcm, _⟩ := hR.own.slice
    rw [hR.len] at e
    subst e
    have hRD : Rows (W.putObj D (.deferred none)) w.heap.size (.slice a (linesOf s).length c) cs (linesOf s) := hR.aside (grownBy_putObj' W D _) (fun r e => by cases e; exact ⟨_, hK, rfl⟩)
    exact ⟨_, results_tmp rfl _ _ _, a, c, w.heap.size, cs, rfl, Nat.le_refl _, hRD, hB.trans (belowK_b (w := w) (Nat.le_refl _) W D _ _ (by omega) hK rfl rfl)⟩
  case stop =>
    rintro D c pre W _ _ h _
    exact h.elim
end Go.Proofs.YtlpffgmfgkleiaaGreatDoor

/-
  A system that is being read: what lies in memory.
-/
namespace Go.Proofs.YtlpffgmfgkleiaaGreatDoor
open Go.RowKit Go.Maps

theorem lrun_sub (L : List WV) : ∀ i, ∀ g ∈ lrun L i, ∀ x ∈ g, x ∈ L
  | 0, g, h, x, hx => by simp [lrun] at h
  | i + 1, g, h, x, hx => by
    have ih := lrun_sub L i
    have hL : ∀ x ∈ L[i]?.toList, x ∈ L := fun x hx => by
      cases e : L[i]? with
      | none => rw [e] at hx; cases hx
      | some y => rw [e] at hx; simp at hx; subst hx; exact List.mem_of_getElem? e
    rw [lrun] at h
    split at h
    · rcases List.mem_append.1 h with q | q
      · exact ih g q x hx
      · simp only [List.mem_singleton] at q; subst q; exact hL x hx
    · rcases List.mem_append.1 h with q | q
      · exact ih g (List.dropLast_subset _ q) x hx
      · simp only [List.mem_singleton] at q
        subst q
        rcases List.mem_append.1 hx with z | z
        · cases e : (lrun L i).getLast? with
          | none => rw [e] at z; cases z
          | some y => rw [e] at z; exact ih y (List.mem_of_getLast? e) x z
        · exact hL x z
theorem lines_sub {s : ByteArray} {G : List WV} (h : G ∈ linesOf s) : ∀ x ∈ G, x ∈ wordsOf s := fun x hx => lrun_sub _ _ G h x hx
theorem lines_ok {s : ByteArray} (hs : s.size ≤ 1050000) {G : List WV} (h : G ∈ linesOf s) : WordsOk G := fun x hx => by
  have q := (words_found s).1 x (lines_sub h x hx)
  have h1 := q.in_
  have h2 := q.lo
  unfold WV.till at h1
  unfold I64
  omega
theorem lines_count (s : ByteArray) : (linesOf s).length ≤ s.size + 1 := by
  have h1 := lrun_len (wordsOf s) (wordsOf s).length
  have h2 := (wrun_inv s (s.size + 1) (Nat.le_refl _)).1
  unfold linesOf
  unfold wordsOf at h1 ⊢
  omega
/-- One of the rows. -/
theorem rows_cell {w : World} {B n c : Nat} {a : Option Addr} {cs : List Value} {G : List (List WV)} (h : Rows w B (.slice a n c) cs G) {j : Nat} {x : List WV} (hx : G[j]? = some x) :
    ∃ g aj cj, a = some ⟨g, 0, none⟩ ∧ w.cell? ⟨g, j, none⟩ = some (.slice aj x.length cj) ∧ WView w aj x ∧ x.length ≤ cj ∧ (cj : Int) ≤ 9223372036854775807 := by
  obtain ⟨aj, cj, h1, h2⟩ := h.each j x hx
  obtain ⟨a', cap', e, -, -, h3⟩ := h.own.slice
  cases e
  obtain ⟨g, e, hc, -⟩ := h3 j _ h1
  obtain ⟨a2, c2, e2, hv, hl, hm⟩ := h2.slice
  cases e2
  exact ⟨g, aj, cj, e, hc, hv, hl, hm⟩
/-- A system that is being made: its box at g, its tasks so far; all below N as it was. -/
structure SysAt (W1 : World) (N g : Nat) (s r : Int) (v : Value) (L : List TV) (W : World) : Prop where
  low : Below N W1 W
  gl : N ≤ g
  box : Box W g SysT #[.int .i64 s, .int .i64 r, v]
  own : OwnT W (g + 1) v L
  ok : AllOk W L
  ints : ∀ x ∈ L, IsI W x.a1 x.ch ∧ IsI W x.a2 x.us
  news : ∀ x ∈ L, FreshI N x.a1 x.ch ∧ FreshI N x.a2 x.us
theorem SysAt.below {W1 W W' : World} {N g : Nat} {s r : Int} {v : Value} {L : List TV} (h : SysAt W1 N g s r v L W) (hb : Below W.heap.size W W') : SysAt W1 N g s r v L W' :=
  ⟨h.low.trans (hb.mono (by have := lt_of_block h.box; have := h.gl; omega)), h.gl, kept_obj hb h.box, h.own.below hb, h.ok.below hb, fun x hx => ⟨(h.ints x hx).1.below hb, (h.ints x hx).2.below hb⟩, h.news⟩
theorem sysAt_new {W1 W : World} {N : Nat} {s r : Int} (hl : Below N W1 W) (hN : N ≤ W.heap.size) : SysAt W1 N W.heap.size s r (.slice none 0 0) [] (W.alloc (.cells #[.int .i64 s, .int .i64 r, .slice none 0 0] SysT)) :=
  ⟨hl.trans ((bw_alloc (Below.refl _ _) _).mono hN), hN, heap_alloc_new W _, OwnT.nil _ _, (fun x hx => by cases hx), (fun x hx => by cases hx), (fun x hx => by cases hx)⟩
theorem SysAt.push {W1 W w3 : World} {N g : Nat} {s r : Int} {v v' : Value} {L : List TV} {y : TV} (h : SysAt W1 N g s r v L W) (hg : W.grownBy w3 v.ownBlock) (ho : OwnT w3 (g + 1) v' (L ++ [y])) (hy : y.ok W) (hi : IsI W y.a1 y.ch ∧ IsI W y.a2 y.us) (hf : FreshI N y.a1 y.ch ∧ FreshI N y.a2 y.us) :
    SysAt W1 N g s r v' (L ++ [y]) (w3.setCell ⟨g, 2, none⟩ v') ∧ w3.cell? ⟨g, 2, none⟩ = some v ∧ w3.frozen? ⟨g, 2, none⟩ = false := by
  have hs : g + 1 ≤ W.heap.size := lt_of_block h.box
  have hb : Below (g + 1) W w3 := (Below.refl _ W).grown hg hs (fun k hk => (h.own.new hk).1)
  have hgl := h.gl
  have h3 := kept_objB hb (by omega) h.box
  have hk3 : ∀ (b : Nat) (cs : Array Value) (T : TypeId) (fr : Nat × Nat), W.heap[b]? = some (.cells cs T fr) → (T = 2 ∨ T = 3) → w3.heap[b]? = W.heap[b]? := by
    intro b cs T fr hc hT
    refine hg.block b (lt_of_block hc) ?_
    intro z
    rcases h.own with ⟨_, q | ⟨k', cap', cur', e', hB', h3', _⟩⟩
    · rw [q.1] at z; cases z
    · rw [e'] at z
      simp [Value.ownBlock] at z
      subst z
      rw [hc] at h3'
      simp at h3'
      rcases hT with q | q <;> rw [q] at h3' <;> exact absurd h3'.2.1 (by decide)
  have hk : ∀ (b : Nat) (cs : Array Value) (T : TypeId) (fr : Nat × Nat), W.heap[b]? = some (.cells cs T fr) → (T = 2 ∨ T = 3) → (w3.setCell ⟨g, 2, none⟩ v').heap[b]? = W.heap[b]? := by
    intro b cs T fr hc hT
    have e1 := hk3 b cs T fr hc hT
    rw [blk_far (a := ⟨g, 2, none⟩) ?_ v']
    · exact e1
    · rintro rfl
      rw [hc] at e1
      rw [h3] at e1
      simp at e1
      rcases hT with q | q <;> rw [q] at e1 <;> exact absurd e1.2.1 (by decide)
  have hall : ∀ x ∈ L ++ [y], x.ok W ∧ (IsI W x.a1 x.ch ∧ IsI W x.a2 x.us) := by
    intro x hx
    rcases List.mem_append.1 hx with q | q
    · exact ⟨h.ok x q, h.ints x q⟩
    · simp at q; subst q; exact ⟨hy, hi⟩
  exact ⟨⟨(h.low.trans (hb.mono (by omega))).setCell (p := ⟨g, 2, none⟩) (by show _ ≤ g; omega) _, h.gl, (blk_set h3 _).trans rfl, ho.set (by simp) _, fun x hx => (hall x hx).1.kept (hall x hx).2 hk, fun x hx => ⟨(hall x hx).2.1.kept hk, (hall x hx).2.2.kept hk⟩, fun x hx => by rcases List.mem_append.1 hx with q | q; (exact h.news x q); (simp at q; subst q; exact hf)⟩, by rw [blk_cell h3]; rfl, blk_free h3 2⟩
theorem SysAt.tasks {W1 W : World} {N g n c : Nat} {a : Option Addr} {s r : Int} {L : List TV} (h : SysAt W1 N g s r (.slice a n c) L W) : Tasks W a n c L := by
  obtain ⟨a', cap, e, hv, hl, hm⟩ := h.own.slice
  cases e
  exact ⟨rfl, hv, h.ok, hl, hm⟩
/-- A system in memory: what its tasks are; all of it lies in blocks not below B. -/
def Holds (S R : Int) (l : List Tk) (B : Nat) (v : Value) (w : World) : Prop :=
  ∃ (a : Option Addr) (n c : Nat) (L : List TV), v = .agg #[.int .i64 S, .int .i64 R, .slice a n c] ∧ L.map TV.tk = l ∧ OwnT w B (.slice a n c) L ∧ AllOk w L ∧ (∀ x ∈ L, IsI w x.a1 x.ch ∧ IsI w x.a2 x.us) ∧ (∀ x ∈ L, FreshI B x.a1 x.ch ∧ FreshI B x.a2 x.us) ∧ (∀ x ∈ L, I64 x.p ∧ I64 x.id)
def GotSys (S R : Int) (l : List Tk) (w : World) (v : Value) (w' : World) : Prop := Holds S R l w.heap.size v w' ∧ Below w.heap.size w w'
theorem Holds.low {S R : Int} {l : List Tk} {B B' : Nat} {v : Value} {w : World} (h : Holds S R l B v w) (hB : B' ≤ B) : Holds S R l B' v w := by
  obtain ⟨a, n, c, L, h1, h2, h3, h4, h5, h6, h7⟩ := h
  exact ⟨a, n, c, L, h1, h2, h3.low hB, h4, h5, fun x hx => ⟨(h6 x hx).1.low hB, (h6 x hx).2.low hB⟩, h7⟩
/-- What lies below it may turn. -/
theorem Holds.kept {S R : Int} {l : List Tk} {B : Nat} {v : Value} {w w' : World} (h : Holds S R l B v w) (hk : ∀ b, B ≤ b → b < w.heap.size → w'.heap[b]? = w.heap[b]?) : Holds S R l B v w' := by
  obtain ⟨a, n, c, L, h1, h2, h3, h4, h5, h6, h7⟩ := h
  have hi : ∀ (z : Option Addr) (q : List Int), IsI w z q → Ints w z q → FreshI B z q → IsI w' z q ∧ Ints w' z q := fun z q k1 k2 k3 => by
    rcases k2 with rfl | ⟨g, o, rfl, hc⟩
    · exact ⟨.inl rfl, .inl rfl⟩
    rcases k1 with rfl | k1
    · exact ⟨.inl rfl, .inl rfl⟩
    rcases k3 with rfl | k3
    · exact ⟨.inl rfl, .inl rfl⟩
    obtain ⟨cs, t, fr, hb, ht⟩ := k1 g o rfl
    have e := hk g (k3 g o rfl) (lt_of_block hb)
    refine ⟨.inr fun g' o' e' => ?_, .inr ⟨g, o, rfl, fun j u hj => ?_⟩⟩
    · cases e'
      exact ⟨cs, t, fr, e.trans hb, ht⟩
    · have := hc j u hj
      rw [blk_cell hb] at this
      rw [blk_cell (e.trans hb)]
      exact this
  refine ⟨a, n, c, L, h1, h2, ?_, ?_, ?_, h6, h7⟩
  · rcases h3 with ⟨h0, h | ⟨g, cap, cur, e, hB, q3, r⟩⟩
    · exact ⟨h0, .inl h⟩
    · exact ⟨h0, .inr ⟨g, cap, cur, e, hB, (hk g hB (lt_of_block q3)).trans q3, r⟩⟩
  · intro x hx
    have q := h4 x hx
    exact ⟨(hi _ _ (h5 x hx).1 q.one (h6 x hx).1).2, (hi _ _ (h5 x hx).2 q.two (h6 x hx).2).2, q.l1, q.m1, q.l2, q.m2⟩
  · intro x hx
    have q := h4 x hx
    exact ⟨(hi _ _ (h5 x hx).1 q.one (h6 x hx).1).1, (hi _ _ (h5 x hx).2 q.two (h6 x hx).2).1⟩
theorem Holds.below {S R : Int} {l : List Tk} {B : Nat} {v : Value} {w w' : World} (h : Holds S R l B v w) (hb : Below w.heap.size w w') : Holds S R l B v w' := h.kept fun b _ h2 => hb.block b h2
theorem Holds.set {S R : Int} {l : List Tk} {B b o : Nat} {v : Value} {w : World} (h : Holds S R l B v w) (hb : b < B) (x : Value) : Holds S R l B v (w.setCell ⟨b, o, none⟩ x) :=
  h.kept fun k h1 _ => blk_far (a := ⟨b, o, none⟩) (by show k ≠ b; omega) x
theorem SysAt.holds {W1 W : World} {N g n c : Nat} {a : Option Addr} {s r : Int} {L : List TV} {l : List Tk} (h : SysAt W1 N g s r (.slice a n c) L W) (hl : L.map TV.tk = l) (hs : ∀ x ∈ L, I64 x.p ∧ I64 x.id) : Holds s r l N (.agg #[.int .i64 s, .int .i64 r, .slice a n c]) W :=
  ⟨a, n, c, L, rfl, hl, h.own.low (by have := h.gl; omega), h.ok, h.ints, h.news, hs⟩
theorem SysAt.done {w W1 W : World} {N g n c : Nat} {a : Option Addr} {s r : Int} {L : List TV} {l : List Tk} (h : SysAt W1 N g s r (.slice a n c) L W) (hw : Below w.heap.size w W1) (hN : w.heap.size < N) (hl : L.map TV.tk = l) (hs : ∀ x ∈ L, I64 x.p ∧ I64 x.id) (x0 x1 x2 : Value) :
    GotSys s r l w (.agg #[.int .i64 s, .int .i64 r, .slice a n c]) (((W.setCell ⟨w.heap.size, 0, none⟩ x0).setCell ⟨w.heap.size, 1, none⟩ x1).setCell ⟨w.heap.size, 2, none⟩ x2) :=
  ⟨((((h.holds hl hs).set hN x0).set hN x1).set hN x2).low (by omega),
    (((hw.trans (h.low.mono (by omega))).setCell (p := ⟨w.heap.size, 0, none⟩) (Nat.le_refl _) x0).setCell (p := ⟨w.heap.size, 1, none⟩) (Nat.le_refl _) x1).setCell (p := ⟨w.heap.size, 2, none⟩) (Nat.le_refl _) x2⟩
/-- What a text does to the one who reads it. -/
def SysIs (s : ByteArray) (w : World) (y : Ending) (w' : World) : Prop := match parseOf s with
  | .error q => Panics q.1 q.2 y ∧ Below w.heap.size w w'
  | .ok (S, R, l) => ∃ v, y = .returned v ∧ GotSys S R l w v w'
theorem line_small {W : List WV} {t : Tk} (h : lineOf W = .ok t) : wordAt W 0 = some bTask ∧ (0 ≤ t.id ∧ t.id ≤ 99) ∧ (0 ≤ t.p ∧ t.p ≤ 99) := by
  by_cases e0 : wordAt W 0 = some bTask
  rotate_left
  · rw [line_first e0] at h; cases h
  refine ⟨e0, ?_⟩
  cases e1 : idOf W with
  | none => rw [line_id e0 e1] at h; cases h
  | some id =>
    have a1 : (id : Int) ≤ 99 := by
      unfold idOf at e1
      obtain ⟨s, -, q⟩ := Option.bind_eq_some_iff.1 e1
      exact numOf_le q
    cases e2 : numK W 0 with
    | none => rw [line_bad (k := 0) e0 e1 (by omega) (fun j hj => absurd hj (Nat.not_lt_zero _)) e2] at h; cases h
    | some c =>
      cases e3 : numK W 1 with
      | none => rw [line_bad (k := 1) e0 e1 (by omega) (fun j hj => by match j, hj with | 0, _ => exact ⟨_, e2⟩) e3] at h; cases h
      | some d =>
        cases e4 : numK W 2 with
        | none => rw [line_bad (k := 2) e0 e1 (by omega) (fun j hj => by match j, hj with | 0, _ => exact ⟨_, e2⟩ | 1, _ => exact ⟨_, e3⟩) e4] at h; cases h
        | some t' =>
          cases e5 : numK W 3 with
          | none => rw [line_bad (k := 3) e0 e1 (by omega) (fun j hj => by match j, hj with | 0, _ => exact ⟨_, e2⟩ | 1, _ => exact ⟨_, e3⟩ | 2, _ => exact ⟨_, e4⟩) e5] at h; cases h
          | some p =>
            have a5 : (p : Int) ≤ 99 := by
              unfold numK numAt at e5
              obtain ⟨s, -, q⟩ := Option.bind_eq_some_iff.1 e5
              exact numOf_le q
            by_cases ho : plus2 W < W.length
            · rw [line_over e0 e1 e2 e3 e4 e5 ho] at h; cases h
            · rw [line_ok e0 e1 e2 e3 e4 e5 ho] at h
              cases h
              exact ⟨⟨by show (0 : Int) ≤ (id : Int); omega, a1⟩, ⟨by show (0 : Int) ≤ (p : Int); omega, a5⟩⟩
end Go.Proofs.YtlpffgmfgkleiaaGreatDoor

/-
  The walk over a text that says a system.
-/
namespace Go.Proofs.YtlpffgmfgkleiaaGreatDoor
open Go.RowKit Go.Maps

theorem parse_none {s : ByteArray} (h : linesOf s = []) : parseOf s = .error (s.size, 10) := by unfold parseOf; rw [h]
theorem parse_cache {s : ByteArray} {W : List WV} {rest : List (List WV)} {p : Int} (h : linesOf s = W :: rest) (hc : cacheOf W = .error p) : parseOf s = .error (p, 10) := by unfold parseOf; rw [h]; simp only []; rw [hc]
theorem parse_tail {s : ByteArray} {W : List WV} {rest : List (List WV)} {S R : Nat} {q : Int × Int} (h : linesOf s = W :: rest) (hc : cacheOf W = .ok (S, R)) (ht : tailOf S R [] rest = .error q) : parseOf s = .error q := by unfold parseOf; rw [h]; simp only []; rw [hc]; simp only []; rw [ht]
theorem parse_empty {s : ByteArray} {W : List WV} {rest : List (List WV)} {S R : Nat} (h : linesOf s = W :: rest) (hc : cacheOf W = .ok (S, R)) (ht : tailOf S R [] rest = .ok []) : parseOf s = .error (s.size, 1) := by unfold parseOf; rw [h]; simp only []; rw [hc]; simp only []; rw [ht]
theorem parse_some {s : ByteArray} {W : List WV} {rest : List (List WV)} {S R : Nat} {l : List Tk} (h : linesOf s = W :: rest) (hc : cacheOf W = .ok (S, R)) (ht : tailOf S R [] rest = .ok l) (hl : l ≠ []) : parseOf s = .ok (S, R, l) := by
  unfold parseOf; rw [h]; simp only []; rw [hc]; simp only []; rw [ht]
  cases l with
  | nil => exact absurd rfl hl
  | cons x l => rfl
theorem tail_step {S R : Int} {acc : List Tk} {rest : List (List WV)} {k : Nat} {W : List WV} (hx : rest[k]? = some W) : tailOf S R acc (rest.drop k) = match lineOf W with
    | .error p => .error (p, 10)
    | .ok t => if checkT S R (acc ++ [t]) = 0 then tailOf S R (acc ++ [t]) (rest.drop (k + 1)) else .error (placeAt W 0, checkT S R (acc ++ [t])) := by
  obtain ⟨h2, h3⟩ := List.getElem?_eq_some_iff.1 hx
  rw [List.drop_eq_getElem_cons h2, h3, tailOf]
  cases lineOf W <;> rfl
/-- What comes of a text that is wrong, and of one that is not. -/
theorem sys_bad {s : ByteArray} {p e : Int} {w w' : World} (h : parseOf s = .error (p, e)) (hb : Below w.heap.size w w') : SysIs s w (.panicked [{ v := PV p e, recovered := false }]) w' := by
  unfold SysIs; rw [h]; exact ⟨rfl, hb⟩

set_option maxRecDepth 100000 in
set_option maxHeartbeats 8000000 in
theorem system_any (s : ByteArray) (hs : s.size ≤ 1050000) (w : World) : Calls Tryz.prog 33 #[.string s] w (SysIs s w) := by
  have hz := w_zeroSys
  have CL := Lib.hid (fun w => lines_any s hs w)
  have HOK : Hid (∀ G ∈ linesOf s, WordsOk G) := fun G hG => lines_ok hs hG
  have HCT := lines_count s
  obtain ⟨G, hG⟩ : ∃ G, linesOf s = G := ⟨_, rfl⟩
  rw [hG] at CL HOK HCT
  have HG := Lib.hid hG
  clear hG
  have hs2 : (s.size : Int) ≤ 1050000 := by omega
  go_enter Tryz.func33, Tryz.ntmps33
  go_upto_region 1 with fail
  refine gen_world (fun v => Below w.heap.size w v ∧ Box v w.heap.size SysT #[.int .i64 0, .int .i64 0, .slice none 0 0]) ⟨bw_alloc (Below.refl _ _) _, heap_alloc_new w _⟩ ?_
  intro u0 ⟨hb0, hx0⟩
  have B0 := Lib.hid hb0
  have X0 := Lib.hid hx0
  clear hb0 hx0
  go_upto_region 2 with (go_at_call 58; (with_reducible refine (CL.out _).mono ?_); rintro e u1 ⟨a, c, B, cs, rfl, -, hR, b1⟩; have HR := Lib.hid hR; have B1 := Lib.hid (below_up B0.out b1); have X1 := Lib.hid (kept_obj b1 X0.out); clear hR b1)
  clear CL B0 X0
  cases G with
  | nil =>
    have HB := Lib.hid (sys_bad (w := w) (parse_none HG.out) B1.out)
    go_wp2_with fail
    exact ⟨rfl, HB.out⟩
  | cons W rest =>
    obtain ⟨n, hn⟩ : ∃ n, rest.length = n := ⟨_, rfl⟩
    have HN := Lib.hid hn
    have hl1 : (W :: rest).length = n + 1 := by rw [List.length_cons, hn]
    rw [hl1] at HR HCT ⊢
    clear hn hl1
    have d0 : ((n + 1 : Nat) : Int) = (n : Int) + 1 := by omega
    have hn0 : ¬ ((n + 1 : Nat) : Int) = 0 := by omega
    have hn9 : (n : Int) ≤ 1050000 := by omega
    obtain ⟨g0, aW, cW, rfl, z0, hv0, hl0, hm0⟩ := rows_cell HR.out (j := 0) (x := W) rfl
    have hcap : n + 1 ≤ c ∧ (c : Int) ≤ 9223372036854775807 := by
      obtain ⟨a', cap', e, hl, hm, -⟩ := HR.out.own.slice
      obtain ⟨-, e2, e3⟩ := Value.slice.inj e
      omega
    have hp0 : (0 : Int) < ((n + 1 : Nat) : Int) := by omega
    go_upto_region 5 with fail
    refine gen_world (fun v => Below u1.heap.size u1 v ∧ u1.heap.size < v.heap.size ∧ Left v u1.heap.size u1.heap.size 0 W) ⟨bw_alloc (Below.refl _ _) _, by simp, aW, cW, heap_alloc_new u1 _, (WIn.of hv0).below (bw_alloc (Below.refl _ _) _), hl0, hm0⟩ ?_
    intro u2 ⟨b2, hs2', hl2⟩
    have HF : Hid (Fix W u1.heap.size u1.heap.size u2) := ⟨HOK.out W (by simp), Nat.le_refl _, hs2'⟩
    have CC := Lib.hid (cache_any HF.out hl2)
    have B2 := Lib.hid b2
    clear b2 hs2' hl2 z0 hv0 hl0 hm0
    unfold CacheIs at CC
    cases hc : cacheOf W with
    | error p =>
      rw [hc] at CC
      have HB : Hid (∀ v, Below w.heap.size w v → SysIs s w (.panicked [{ v := PV p 10, recovered := false }]) v) := fun v hv => sys_bad (parse_cache HG.out hc) hv
      clear hc
      go_wp2_with (go_at_call 59; (with_reducible refine CC.out.mono ?_); rintro y u3 ⟨rfl, t3⟩; have T3 := Lib.hid t3; clear t3)
      exact ⟨rfl, HB.out _ (below_up B1.out (B2.out.trans (T3.out.below (Nat.le_refl _) (Nat.le_refl _) (by have := HF.out.lt; omega))))⟩
    | ok q =>
      obtain ⟨S, R⟩ := q
      rw [hc] at CC
      have HC := Lib.hid hc
      clear hc
      go_upto_region 6 with (go_at_call 59; (with_reducible refine CC.out.mono ?_); rintro y u3 ⟨rfl, t3⟩; have B3 := Lib.hid (B2.out.trans (t3.below (Nat.le_refl _) (Nat.le_refl _) (by have := HF.out.lt; omega))); clear t3)
      clear CC
      refine gen_world (SysAt u1 u1.heap.size u3.heap.size S R (.slice none 0 0) []) (sysAt_new B3.out B3.out.size) ?_
      intro u4 h4
      have H4 := Lib.hid h4
      generalize u3.heap.size = g at H4 ⊢
      clear h4 B2 B3 HF
      go_cut [25, 26, 27] from 24 to 27 (fun x y z wx => ∃ (a1 : Option Addr) (c1 : Nat), x = .slice a1 n c1 ∧ y = .int .i64 n ∧ z = .int .i64 0 ∧ wx = u4 ∧ Hid (n = 0 ∨ a1 = some ⟨g0, 1, none⟩) ∧ n ≤ c1 ∧ (c1 : Int) ≤ 9223372036854775807)
      case first =>
        have h1c : (1 : Int) ≤ (c : Int) := by omega
        have h1n : (1 : Int) ≤ ((n + 1 : Nat) : Int) := by omega
        have e2 : ((n + 1 : Nat) : Int) - 1 = (n : Int) := by omega
        by_cases hc1 : c = 1
        · subst hc1
          have hn00 : n = 0 := by omega
          subst hn00
          go_wp2_with fail
          go_meet
          exact ⟨_, 0, rfl, rfl, rfl, rfl, (by first | exact .inl rfl | exact .inl trivial), by omega, by omega⟩
        · have hcn : ¬ (1 : Int) = (c : Int) := by omega
          have hcn2 : ((c : Int) - 1).toNat = c - 1 := by omega
          go_wp2_with fail
          go_meet
          exact ⟨_, c - 1, rfl, rfl, rfl, rfl, .inr rfl, by omega, by omega⟩
      case rest =>
        obtain ⟨a1, c1, rfl, rfl, rfl, rfl, HA1, hc1a, hc1b⟩ := hcut
        go_wp2_with fail
        go_loopw [27] (fun u wr => ∃ (k : Nat) (a' : Option Addr) (cp' : Nat) (L : List TV), k ≤ n ∧ u = .int .i64 k ∧ Hid (L.length = k) ∧ Hid (∀ x ∈ L, I64 x.p ∧ I64 x.id) ∧ Hid (tailOf S R [] rest = tailOf S R (L.map TV.tk) (rest.drop k)) ∧ Hid (SysAt u1 u1.heap.size g S R (.slice a' k cp') L wr)) (fun u _ => (n - intOf u).toNat)
        case atStart => exact ⟨0, _, _, [], by omega, rfl, rfl, (fun x hx => by simp at hx), rfl, H4⟩
        case round =>
          obtain ⟨k, a', cp', L, hk, rfl, HLL, HLS, HT, HP⟩ := hrel
          clear H4
          have b2 : wr.cell? ⟨g, 2, none⟩ = some (.slice a' k cp') := by rw [blk_cell HP.out.box]; rfl
          have hgw : g < wr.heap.size := lt_of_block HP.out.box
          by_cases hlt : k < n
          · obtain ⟨V, hV⟩ := nth_of HN.out hlt
            obtain ⟨g1, aV, cV, e1, zV, hvV, hlV, hmV⟩ := rows_cell HR.out (j := k + 1) (x := V) (by simpa using hV)
            cases e1
            have ha1 : a1 = some ⟨g0, 1, none⟩ := HA1.out.elim (fun q => by omega) id
            subst ha1
            have zV' : wr.cell? ⟨g0, 1 + k, none⟩ = some (.slice aV V.length cV) := by
              rw [Nat.add_comm 1 k]
              exact kept_cellB HP.out.low (block_of_cell zV) zV
            have hk1 : (k : Int) < (n : Int) := by omega
            have hk0 : (0 : Int) ≤ (k : Int) := by omega
            have HVO := Lib.hid (HOK.out V (by simp; right; exact List.mem_of_getElem? hV))
            have hu1w : u1.heap.size ≤ wr.heap.size := HP.out.low.size
            go_upto_region 10 with fail
            refine gen_world (fun v => Below wr.heap.size wr v ∧ wr.heap.size < v.heap.size ∧ Left v wr.heap.size u1.heap.size 0 V) ⟨bw_alloc (Below.refl _ _) _, by simp, aV, cV, heap_alloc_new wr _, ((WIn.of hvV).below HP.out.low).below ((bw_alloc (Below.refl _ _) _).mono hu1w), hlV, hmV⟩ ?_
            intro u5 ⟨b5, hs5, hl5⟩
            have HF5 : Hid (Fix V wr.heap.size u1.heap.size u5) := ⟨HVO.out, hu1w, hs5⟩
            have HVV := Lib.hid (WIn.of hvV)
            have HNU : Hid (u1.heap.size ≤ u5.heap.size) := Nat.le_trans hu1w b5.size
            have CT0 : Hid (∀ v, Below u5.heap.size u5 v → Calls Tryz.prog 47 #[.pointer (some ⟨wr.heap.size, 0, none⟩)] v (TaskIs V wr.heap.size v)) := fun v hb => task_row ⟨HVO.out, hu1w, Nat.lt_of_lt_of_le hs5 hb.size⟩ (hl5.below hb (by omega))
            have HP5 := Lib.hid (HP.out.below b5)
            have HU5 : Hid (∀ v v', Below u5.heap.size u5 v → Two wr.heap.size wr.heap.size v v' → Below wr.heap.size wr v') := fun v v' hb ht =>
              (b5.trans (hb.mono (by omega))).trans (ht.below (Nat.le_refl _) (Nat.le_refl _) (by have := hb.size; omega))
            have b2' : u5.cell? ⟨g, 2, none⟩ = some (.slice a' k cp') := by rw [blk_cell HP5.out.box]; rfl
            have hgw5 : g < u5.heap.size := lt_of_block HP5.out.box
            have HTS := HT.out
            rw [tail_step hV] at HTS
            clear b5 hs5 hl5 zV hvV hlV hmV b2
            generalize hrR : wr.heap.size = r at *
            unfold TaskIs at CT0
            cases hq : lineOf V with
            | error p =>
              rw [hq] at CT0 HTS
              have HB : Hid (∀ v, Below w.heap.size w v → SysIs s w (.panicked [{ v := PV p 10, recovered := false }]) v) := fun v hv => sys_bad (parse_tail HG.out HC.out HTS) hv
              have HBB : Hid (∀ v v', Below u5.heap.size u5 v → Two r r v v' → Below w.heap.size w v') := fun v v' hb ht => below_up B1.out (HP.out.low.trans ((HU5.out v v' hb ht).mono (by omega)))
              clear HTS hq HT
              go_region_dies
              all_goals
                refine (CT0.out _ (by repeat (first | exact Below.refl _ _ | (with_reducible assumption) | refine bw_alloc ?_ _ | refine bw_drew ?_))).mono ?_
                rintro y u6 ⟨rfl, t6⟩
                exact And.intro rfl (HB.out _ (HBB.out _ _ (by repeat (first | exact Below.refl _ _ | (with_reducible assumption) | refine bw_alloc ?_ _ | refine bw_drew ?_)) t6))
            | ok tk =>
              rw [hq] at CT0 HTS
              simp only [] at HTS
              obtain ⟨hw0, hid, hp⟩ := line_small hq
              obtain ⟨x0, hx0⟩ : ∃ x0, V[0]? = some x0 := by
                cases h : V[0]? with
                | some x0 => exact ⟨x0, rfl⟩
                | none => unfold wordAt at hw0; rw [h] at hw0; cases hw0
              rw [placeAt_some hx0] at HTS
              have hvl : (0 : Int) < (V.length : Int) := by have := (List.getElem?_eq_some_iff.1 hx0).1; omega
              obtain ⟨gv, ov, rfl, hgv, q0⟩ : ∃ gv ov, aV = some ⟨gv, ov, none⟩ ∧ gv < u1.heap.size ∧ u1.cell? ⟨gv, ov, none⟩ = some (.int .i64 x0.at_) := by
                rcases HVV.out with q | ⟨gv, ov, e, hg, hc⟩
                · rw [q] at hx0; simp at hx0
                · have hvx : V = x0 :: V.drop 1 := by have := drop_some hx0; rwa [List.drop_zero] at this
                  exact ⟨gv, ov, e, hg, hc 0 _ (by rw [hvx]; rfl)⟩
              have CT1 : Hid (∀ v, Below u5.heap.size u5 v → Calls Tryz.prog 47 #[.pointer (some ⟨r, 0, none⟩)] v fun y w' => ∃ x : TV, y = .returned (.agg #[.int .i64 x.id, .int .i64 x.c, .int .i64 x.d, .int .i64 x.t, .int .i64 x.p, .slice x.a1 x.ch.length x.c1, .slice x.a2 x.us.length x.c2]) ∧ x.tk = tk ∧ x.ok w' ∧ (IsI w' x.a1 x.ch ∧ IsI w' x.a2 x.us) ∧ (FreshI u1.heap.size x.a1 x.ch ∧ FreshI u1.heap.size x.a2 x.us) ∧ Two r r v w') :=
                fun v hb => (CT0.out v hb).mono fun y w' ⟨x, h1, h2, h3, h4, h5, h6, _⟩ => ⟨x, h1, h2, h3, ⟨h4.1, h5.1⟩, ⟨h4.2.low (Nat.le_trans HNU.out hb.size), h5.2.low (Nat.le_trans HNU.out hb.size)⟩, h6⟩
              have HSM : Hid (L.length + 1 ≤ 2000000) := by show _ ≤ _; have := HLL.out; omega
              have HNN : Hid (L.length + 1 = k + 1) := by show _ = _; rw [HLL.out]
              have HSYS : Hid (∀ v v', Below u5.heap.size u5 v → Two r r v v' → SysAt u1 u1.heap.size g S R (.slice a' k cp') L v') := fun v v' hb ht => by
                have h := HP.out.below (by rw [hrR]; exact HU5.out v v' hb ht)
                exact h
              have HIDP : Hid (∀ x : TV, x.tk = tk → I64 x.p ∧ I64 x.id) := fun x hx => by
                have e1 : x.p = tk.p := by rw [← hx]; rfl
                have e2 : x.id = tk.id := by rw [← hx]; rfl
                rw [e1, e2]; unfold I64; omega
              have HQ0 := Lib.hid q0
              have HTS2 := Lib.hid HTS
              obtain ⟨E, hE⟩ : ∃ E, checkT S R (L.map TV.tk ++ [tk]) = E := ⟨_, rfl⟩
              rw [hE] at HTS2
              have HE : Hid (∀ x : TV, x.tk = tk → checkOf S R (L ++ [x]) = E) := fun x hx => by rw [check_tk, List.map_append, List.map_cons, List.map_nil, hx]; exact hE
              clear CT0 HTS hq HT hw0 hid hp hx0 HVV q0 hE HU5
              go_region_law (first
                | (refine step_append (m := 1) (l := [y]) rfl (.tmp 34) (.tmp 36) rfl (by rfl) (by rfl) (H6.out.below (by repeat (first | exact Below.refl _ _ | (with_reducible assumption) | refine bw_alloc ?_ _ | refine bw_drew ?_))).own (Nat.le_trans (lt_of_block H6.out.box) (((by repeat (first | exact Below.refl _ _ | (with_reducible assumption) | refine bw_alloc ?_ _ | refine bw_drew ?_)) : Below w6.heap.size w6 _).size)) (by first | exact View.of_at (at_new _ _ _) | exact (View.of_at (at_new _ _ _)).below (by repeat (first | exact Below.refl _ _ | (with_reducible assumption) | refine bw_alloc ?_ _ | refine bw_drew ?_))) rfl HSM.out (fun z => by cases z) (k + 1) HNN.out ?_
                   intro a3 k3 w3 o3 g3 l3
                   obtain ⟨hn, z1, z2⟩ := (H6.out.below (by repeat (first | exact Below.refl _ _ | (with_reducible assumption) | refine bw_alloc ?_ _ | refine bw_drew ?_))).push g3 o3 (HY.out.below (by repeat (first | exact Below.refl _ _ | (with_reducible assumption) | refine bw_alloc ?_ _ | refine bw_drew ?_))) ⟨HI.out.1.below (by repeat (first | exact Below.refl _ _ | (with_reducible assumption) | refine bw_alloc ?_ _ | refine bw_drew ?_)), HI.out.2.below (by repeat (first | exact Below.refl _ _ | (with_reducible assumption) | refine bw_alloc ?_ _ | refine bw_drew ?_))⟩ HFR.out
                   have HNW := Lib.hid hn
                   clear hn o3 g3 l3)
                | (go_simp; (with_reducible refine (CT1.out _ (by repeat (first | exact Below.refl _ _ | (with_reducible assumption) | refine bw_alloc ?_ _ | refine bw_drew ?_))).mono ?_); rintro e w6 ⟨y, rfl, hy, hok, hi, hfr, t6⟩; have H6 := Lib.hid (HSYS.out _ _ (by repeat (first | exact Below.refl _ _ | (with_reducible assumption) | refine bw_alloc ?_ _ | refine bw_drew ?_)) t6); have b2' : w6.cell? ⟨g, 2, none⟩ = some (.slice a' k cp') := (by rw [blk_cell H6.out.box]; rfl); have hgw6 : g < w6.heap.size := lt_of_block H6.out.box; have HTK := Lib.hid hy; have HY := Lib.hid hok; have HI := Lib.hid hi; have HFR := Lib.hid hfr; clear hy hok hi hfr t6))
              all_goals
                go_upto_region 11 with fail
                refine gen_world (SysAt u1 u1.heap.size g S R (.slice a3 (k + 1) k3) (L ++ [y])) HNW.out ?_
                intro u7 h7
                have H7 := Lib.hid h7
                have HL1 : Hid ((L ++ [y]).length = k + 1) := by show _ = _; rw [List.length_append, HLL.out]; rfl
                have HL2 : Hid (∀ x ∈ L ++ [y], I64 x.p ∧ I64 x.id) := fun x hx => by
                  rcases List.mem_append.1 hx with q | q
                  · exact HLS.out x q
                  · simp at q; subst q; exact HIDP.out x HTK.out
                have HMAP : Hid ((L ++ [y]).map TV.tk = L.map TV.tk ++ [tk]) := by show _ = _; rw [List.map_append, List.map_cons, List.map_nil, HTK.out]
                have p0 : u7.cell? ⟨g, 0, none⟩ = some (.int .i64 S) := by rw [blk_cell h7.box]; rfl
                have p1 : u7.cell? ⟨g, 1, none⟩ = some (.int .i64 R) := by rw [blk_cell h7.box]; rfl
                have p2 : u7.cell? ⟨g, 2, none⟩ = some (.slice a3 (k + 1) k3) := by rw [blk_cell h7.box]; rfl
                have hg7 : g < u7.heap.size := lt_of_block h7.box
                have CK := Lib.hid (check_any S R h7.tasks HL2.out)
                rw [HE.out y HTK.out] at CK
                clear h7 HNW H6 HY HI HP HP5 CT1 HSYS b2' hgw5 hgw
                by_cases hE0 : E = 0
                · subst hE0
                  have HT2 : Hid (tailOf S R [] rest = tailOf S R ((L ++ [y]).map TV.tk) (rest.drop (k + 1))) := by
                    show _ = _
                    rw [HTS2.out, if_pos rfl, HMAP.out]
                  clear HTS2 HE HMAP
                  go_wp2_with (go_at_call 27; (with_reducible refine CK.out.mono ?_); rintro e u8 ⟨rfl, b8⟩; have H8 := Lib.hid (H7.out.below b8); clear b8)
                  go_roundw
                  case rel => exact ⟨k + 1, a3, k3, L ++ [y], by omega, by go_num, HL1, HL2, HT2, H8⟩
                  case measure => simp [intOf]; omega
                · have d1 : (E == 0) = false := by rw [beq_eq_false_iff_ne]; exact hE0
                  have d2 : (E != 0) = true := by rw [bne, d1]; rfl
                  have HB : Hid (∀ v, Below w.heap.size w v → SysIs s w (.panicked [{ v := PV x0.at_ E, recovered := false }]) v) := fun v hv => sys_bad (parse_tail HG.out HC.out (by rw [HTS2.out, if_neg hE0])) hv
                  clear hE0 HTS2 HE HMAP
                  go_upto_region 12 with (go_at_call 27; (with_reducible refine CK.out.mono ?_); rintro e u8 ⟨rfl, b8⟩; have H8 := Lib.hid (H7.out.below b8); clear b8)
                  have q8 : u8.cell? ⟨gv, ov, none⟩ = some (.int .i64 x0.at_) := kept_cellB H8.out.low hgv HQ0.out
                  go_wp2_with fail
                  exact ⟨rfl, HB.out _ (below_up B1.out H8.out.low)⟩
          · obtain rfl : n = k := by omega
            have HTE : Hid (tailOf S R [] rest = .ok (L.map TV.tk)) := by
              show _ = _
              rw [HT.out, List.drop_of_length_le (by rw [HN.out]; exact Nat.le_refl _), tailOf]
            have p0 : wr.cell? ⟨g, 0, none⟩ = some (.int .i64 S) := by rw [blk_cell HP.out.box]; rfl
            have p1 : wr.cell? ⟨g, 1, none⟩ = some (.int .i64 R) := by rw [blk_cell HP.out.box]; rfl
            have hw0 : w.heap.size < u1.heap.size := lt_of_block X1.out
            have hx0 : Box wr w.heap.size SysT #[.int .i64 0, .int .i64 0, .slice none 0 0] := kept_objB HP.out.low hw0 X1.out
            have r0 : wr.cell? ⟨w.heap.size, 0, none⟩ = some (.int .i64 0) := blk_cell hx0 0
            have r1 : wr.cell? ⟨w.heap.size, 1, none⟩ = some (.int .i64 0) := blk_cell hx0 1
            have r2 : wr.cell? ⟨w.heap.size, 2, none⟩ = some (.slice none 0 0) := blk_cell hx0 2
            have f0 := blk_free hx0 0
            have f1 := blk_free hx0 1
            have f2 := blk_free hx0 2
            have hrw := lt_of_block hx0
            by_cases hn00 : n = 0
            · subst hn00
              have hL0 : L = [] := List.length_eq_zero_iff.1 HLL.out
              subst hL0
              have HB : Hid (SysIs s w (.panicked [{ v := PV s.size 1, recovered := false }]) wr) := sys_bad (parse_empty HG.out HC.out HTE.out) (below_up B1.out HP.out.low)
              clear HTE HT HP hx0
              go_wp2_with fail
              exact ⟨rfl, HB.out⟩
            · have d1 : ((n : Int) == 0) = false := by rw [beq_eq_false_iff_ne]; omega
              have d2 : ¬ (n : Int) = 0 := by omega
              have hLn : L.map TV.tk ≠ [] := fun q => by
                have := congrArg List.length q
                rw [List.length_map, HLL.out] at this
                exact hn00 this
              have HD : Hid (∀ x0 x1 x2 : Value, SysIs s w (.returned (.agg #[.int .i64 S, .int .i64 R, .slice a' n cp'])) (((wr.setCell ⟨w.heap.size, 0, none⟩ x0).setCell ⟨w.heap.size, 1, none⟩ x1).setCell ⟨w.heap.size, 2, none⟩ x2)) := fun x0 x1 x2 => by
                unfold SysIs
                rw [parse_some HG.out HC.out HTE.out hLn]
                exact ⟨_, rfl, HP.out.done B1.out hw0 rfl HLS.out x0 x1 x2⟩
              clear HTE HT HP hx0 hLn hn00
              go_wp2_with fail
              exact bodyPost_ret (v := .agg #[.int .i64 S, .int .i64 R, .slice a' n cp']) (by simp [results, Tryz.results33, go_sem, r0, r1, r2, hrw]) rfl (HD.out _ _ _)
end Go.Proofs.YtlpffgmfgkleiaaGreatDoor

/-
  The walks over what is tried, and what is wrong with it.
-/
namespace Go.Proofs.YtlpffgmfgkleiaaGreatDoor
open Go.RowKit Go.Maps

abbrev zSys : Value := .agg #[.int .i64 0, .int .i64 0, .slice none 0 0]
theorem holds_zero (B : Nat) (w : World) : Holds 0 0 [] B zSys w :=
  ⟨none, 0, 0, [], rfl, rfl, OwnT.nil _ _, (fun x hx => by cases hx), (fun x hx => by cases hx), (fun x hx => by cases hx), (fun x hx => by cases hx)⟩
/-- What is told of a text. -/
structure Out where
  S : Int
  R : Int
  l : List Tk
  at_ : Int
  e : Int
def outOf (s : ByteArray) : Out := match parseOf s with
  | .error q => ⟨0, 0, [], q.1, q.2⟩
  | .ok (S, R, l) => ⟨S, R, l, s.size, 0⟩
/-- What the closure that reads a text does. -/
def ReadIs (s : ByteArray) (w : World) (y : Ending) (w' : World) : Prop := match parseOf s with
  | .error q => Panics q.1 q.2 y ∧ Below w.heap.size w w'
  | .ok (S, R, l) => ∃ (a : Option Addr) (n c : Nat), y = .returned (.tuple #[.agg #[.int .i64 S, .int .i64 R, .slice a n c], .int .i64 s.size]) ∧ Holds S R l w.heap.size (.agg #[.int .i64 S, .int .i64 R, .slice a n c]) w' ∧ Below w.heap.size w w'

set_option maxRecDepth 100000 in
set_option maxHeartbeats 4000000 in
theorem read_any (s : ByteArray) (hs : s.size ≤ 1050000) (b : Nat) (w : World) (hb : w.cell? ⟨b, 0, none⟩ = some (.string s)) : Calls Tryz.prog 32 #[.pointer (some ⟨b, 0, none⟩)] w (ReadIs s w) := by
  have hz := w_zeroSys
  have CS : Hid (∀ v, Calls Tryz.prog 33 #[.string s] v (SysIs s v)) := fun v => system_any s hs v
  have HB := Lib.hid hb
  have hs2 : (s.size : Int) ≤ 1050000 := by omega
  have hlb : b < w.heap.size := block_of_cell hb
  have hne1 : ¬ b = w.heap.size := by omega
  have hne2 : ¬ w.heap.size = b := by omega
  go_enter Tryz.func32, Tryz.ntmps32
  go_upto_region 1 with fail
  refine gen_world (fun v => Below w.heap.size w v ∧ Box v w.heap.size SysT #[.int .i64 0, .int .i64 0, .slice none 0 0]) ⟨bw_alloc (Below.refl _ _) _, heap_alloc_new w _⟩ ?_
  intro u0 ⟨hb0, hx0⟩
  have B0 := Lib.hid hb0
  have X0 := Lib.hid hx0
  have cb := kept_cell hb0 hb
  clear hb0 hx0 hb
  unfold SysIs at CS
  cases hq : parseOf s with
  | error q =>
    rw [hq] at CS
    have HQ := Lib.hid hq
    clear hq
    go_region_dies
    all_goals
      refine (CS.out _).mono ?_
      rintro y u6 ⟨rfl, t6⟩
      refine And.intro rfl ?_
      unfold ReadIs
      rw [HQ.out]
      exact ⟨rfl, below_up B0.out (below_up ((by repeat (first | exact Below.refl _ _ | (with_reducible assumption) | refine bw_alloc ?_ _ | refine bw_drew ?_)) : Below u0.heap.size u0 _) t6)⟩
  | ok q =>
    obtain ⟨S, R, l⟩ := q
    rw [hq] at CS
    have HQ := Lib.hid hq
    clear hq
    have CS2 : Hid (∀ v, Calls Tryz.prog 33 #[.string s] v fun y w' => ∃ (a : Option Addr) (n c : Nat), y = .returned (.agg #[.int .i64 S, .int .i64 R, .slice a n c]) ∧ Holds S R l v.heap.size (.agg #[.int .i64 S, .int .i64 R, .slice a n c]) w' ∧ Below v.heap.size v w') := fun v => (CS.out v).mono fun y w' ⟨v', h1, h2⟩ => by
      have h3 := h2.1
      obtain ⟨a, n, c, L, e, r⟩ := h3
      subst e
      exact ⟨a, n, c, h1, h2⟩
    go_region_law (go_simp; (with_reducible refine (CS2.out _).mono ?_); rintro y u6 ⟨a, n, c, rfl, g6, b6⟩; have G6 := Lib.hid (g6.low ((((by repeat (first | exact Below.refl _ _ | (with_reducible assumption) | refine bw_alloc ?_ _ | refine bw_drew ?_)) : Below u0.heap.size u0 _)).size)); have B6 := Lib.hid (below_up ((by repeat (first | exact Below.refl _ _ | (with_reducible assumption) | refine bw_alloc ?_ _ | refine bw_drew ?_)) : Below u0.heap.size u0 _) b6); have c6 := kept_cell B6.out cb; have x6 := kept_obj B6.out X0.out; have r0 : u6.cell? ⟨w.heap.size, 0, none⟩ = some (.int .i64 0) := blk_cell x6 0; have r1 : u6.cell? ⟨w.heap.size, 1, none⟩ = some (.int .i64 0) := blk_cell x6 1; have r2 : u6.cell? ⟨w.heap.size, 2, none⟩ = some (.slice none 0 0) := blk_cell x6 2; have f0 := blk_free x6 0; have f1 := blk_free x6 1; have f2 := blk_free x6 2; have hr := lt_of_block x6; clear g6 b6 x6)
    all_goals
      have HD : Hid (∀ x0 x1 x2 : Value, Holds S R l w.heap.size (.agg #[.int .i64 S, .int .i64 R, .slice a n c]) (((u6.setCell ⟨w.heap.size, 0, none⟩ x0).setCell ⟨w.heap.size, 1, none⟩ x1).setCell ⟨w.heap.size, 2, none⟩ x2) ∧ Below w.heap.size w (((u6.setCell ⟨w.heap.size, 0, none⟩ x0).setCell ⟨w.heap.size, 1, none⟩ x1).setCell ⟨w.heap.size, 2, none⟩ x2)) := fun x0 x1 x2 => by
        have hlt := lt_of_block X0.out
        exact ⟨(((G6.out.set hlt x0).set hlt x1).set hlt x2).low (by omega), (((below_up B0.out B6.out).setCell (p := ⟨w.heap.size, 0, none⟩) (Nat.le_refl _) x0).setCell (p := ⟨w.heap.size, 1, none⟩) (Nat.le_refl _) x1).setCell (p := ⟨w.heap.size, 2, none⟩) (Nat.le_refl _) x2⟩
      clear G6 B6
      go_wp2_with fail
      exact bodyPost_ret (v := .tuple #[.agg #[.int .i64 S, .int .i64 R, .slice a n c], .int .i64 s.size]) (by simp [results, Tryz.results32, go_sem, r0, r1, r2, hr]) rfl (by unfold ReadIs; rw [HQ.out]; exact ⟨_, _, _, rfl, HD.out _ _ _⟩)
end Go.Proofs.YtlpffgmfgkleiaaGreatDoor

/-
  The walks over what is tried: what was wrong is recovered.
-/
namespace Go.Proofs.YtlpffgmfgkleiaaGreatDoor
open Go.RowKit Go.Maps

theorem catch_idle (p q : Addr) (w : World) :
    CallsD Tryz.prog 57 #[.pointer (some p), .pointer (some q)] .returning w fun e u' w' => e = .returned (.tuple #[]) ∧ u' = .returning ∧ w' = w := by
  refine callsD_of_wpS Tryz.func57 rfl fun c₀ cs hu => ?_
  apply wpS_seq
  apply wpS_region
  simp [wpOpsS, go_sem, recoverD, hu, Tryz.ntmps57, Exit.thenS]
  apply wpS_seq
  apply wpS_region
  simp [wpOpsS, go_sem, Exit.thenS]
  refine wpS_cond (t := false) (by simp [Act.eval, Array.replicate]) ?_
  simp only [Bool.false_eq_true, if_false]
  refine wpS_of_wp (wp_skip ?_)
  cases c₀
  simp_all [bodyPostS, results, Tryz.results57]

theorem assert_wrong (p er : Int) (w : World) : (Instr.typeAssert (PV p er) 20 113 false).run Tryz.prog w = .ok (.agg #[.int .i64 p, .int .i64 er]) w := by kernel_rfl
/-- What the closure that recovers must come to. -/
def CatchQ (c₀ : Frame) (cs : List Frame) (p er : Int) (older : List PanicEntry) (A E : Nat) (TA TE : TypeId) (w : World) (e : Exit) (a' : Act) (w' : World) : Prop :=
  bodyPostS Tryz.prog Tryz.f57 c₀ cs (fun y u' w' => y = .returned (.tuple #[]) ∧ u' = .panicking ({ v := PV p er, recovered := true } :: older) ∧ Two A E w w' ∧ Box w' A TA #[.int .i64 p] ∧ Box w' E TE #[.int .i64 er]) e a'
    ({ fn := c₀.fn, tmps := c₀.tmps, todo := c₀.todo, defers := c₀.defers, mode := .panicking ({ v := PV p er, recovered := true } :: older), kind := c₀.kind, roundOf := c₀.roundOf } :: cs) w'
set_option maxRecDepth 100000 in
set_option maxHeartbeats 4000000 in
theorem catch_wrong (A E : Nat) (p er a0 e0 : Int) (TA TE : TypeId) (older : List PanicEntry) (w : World) (hA : Box w A TA #[.int .i64 a0]) (hE : Box w E TE #[.int .i64 e0]) (hne : A ≠ E) :
    CallsD Tryz.prog 57 #[.pointer (some ⟨A, 0, none⟩), .pointer (some ⟨E, 0, none⟩)] (.panicking ({ v := PV p er, recovered := false } :: older)) w fun y u' w' =>
      y = .returned (.tuple #[]) ∧ u' = .panicking ({ v := PV p er, recovered := true } :: older) ∧ Two A E w w' ∧ Box w' A TA #[.int .i64 p] ∧ Box w' E TE #[.int .i64 er] := by
  refine callsD_of_wpS Tryz.func57 rfl fun c₀ cs hu => ?_
  apply wpS_seq
  apply wpS_region
  simp [wpOpsS, go_sem, recoverD, hu, Tryz.ntmps57, Exit.thenS]
  apply wpS_seq
  apply wpS_region
  simp [wpOpsS, go_sem, Exit.thenS]
  refine wpS_cond (t := true) (by simp [Act.eval, Array.replicate]) ?_
  simp only [if_true]
  refine wpS_of_wp ?_
  have HA := Lib.hid hA
  have HE := Lib.hid hE
  have hla := lt_of_block hA
  have hle := lt_of_block hE
  have cA : w.cell? ⟨A, 0, none⟩ = some (.int .i64 a0) := blk_cell hA 0
  have cE : w.cell? ⟨E, 0, none⟩ = some (.int .i64 e0) := blk_cell hE 0
  have fA := blk_free hA 0
  have fE := blk_free hE 0
  have hne2 : ¬ A = E := hne
  have hne3 : ¬ E = A := fun q => hne q.symm
  clear hA hE
  change Code.wp _ _ (CatchQ c₀ cs p er older A E TA TE w) { tmps := #[.pointer (some ⟨A, 0, none⟩), .pointer (some ⟨E, 0, none⟩), PV p er, undef, PV p er, PV p er, .bool true, undef, undef, undef, undef, undef, undef], defers := [] } w
  have HQ : ∀ (a' : Act) (w' : World), a'.defers = [] → Two A E w w' → Box w' A TA #[.int .i64 p] → Box w' E TE #[.int .i64 er] → CatchQ c₀ cs p er older A E TA TE w Exit.normal a' w' := by
    intro a' w' h1 h2 h3 h4
    unfold CatchQ
    simp [bodyPostS, results, Tryz.results57, h1, h2]
    exact ⟨h3, h4⟩
  clear hu
  have hta := assert_wrong p er
  go_wp2
  refine gen_world (fun v => Below w.heap.size w v ∧ Box v w.heap.size 113 #[.int .i64 p, .int .i64 er]) ⟨bw_alloc (Below.refl _ _) _, heap_alloc_new w _⟩ ?_
  intro v ⟨hv, hx⟩
  have HV := Lib.hid hv
  have x0 : v.cell? ⟨w.heap.size, 0, none⟩ = some (.int .i64 p) := blk_cell hx 0
  have x1 : v.cell? ⟨w.heap.size, 1, none⟩ = some (.int .i64 er) := blk_cell hx 1
  have hxl := lt_of_block hx
  have cA' := kept_cell hv cA
  have cE' := kept_cell hv cE
  have bA := Lib.hid (kept_obj hv HA.out)
  have bE := Lib.hid (kept_obj hv HE.out)
  have fA' : v.frozen? ⟨A, 0, none⟩ = false := blk_free bA.out 0
  have fE' : v.frozen? ⟨E, 0, none⟩ = false := blk_free bE.out 0
  have n1 : ¬ A = w.heap.size := by omega
  have n2 : ¬ E = w.heap.size := by omega
  have n3 : ¬ w.heap.size = A := by omega
  have n4 : ¬ w.heap.size = E := by omega
  have HF : Hid (∀ a' : Act, a'.defers = [] → CatchQ c₀ cs p er older A E TA TE w Exit.normal a' (((v.setCell ⟨A, 0, none⟩ (.int .i64 p)).setCell ⟨E, 0, none⟩ (.int .i64 er)).drew)) := by
    intro a' ha
    refine HQ a' _ ha ((((Two.of_below HV.out).setR _).setT _).then (bw_drew (Below.refl _ _))) ?_ ?_
    · show ((v.setCell ⟨A, 0, none⟩ (.int .i64 p)).setCell ⟨E, 0, none⟩ (.int .i64 er)).heap[A]? = _
      rw [blk_far (a := ⟨E, 0, none⟩) hne]
      exact (blk_set bA.out _).trans rfl
    · show ((v.setCell ⟨A, 0, none⟩ (.int .i64 p)).setCell ⟨E, 0, none⟩ (.int .i64 er)).heap[E]? = _
      refine (blk_set (cs := #[.int .i64 e0]) (T := TE) (fr := (0, 0)) ?_ _).trans rfl
      rw [blk_far (a := ⟨A, 0, none⟩) hne.symm]
      exact bE.out
  clear hv hx cA cE fA fE HQ HA HE
  go_region_law (fail)
  all_goals exact HF.out _ rfl
end Go.Proofs.YtlpffgmfgkleiaaGreatDoor

/-
  The walks over what is tried to be read out of a row: what was wrong is recovered.
-/
namespace Go.Proofs.YtlpffgmfgkleiaaGreatDoor
open Go.RowKit Go.Maps

theorem catchT_idle (p q : Addr) (w : World) :
    CallsD Tryz.prog 63 #[.pointer (some p), .pointer (some q)] .returning w fun e u' w' => e = .returned (.tuple #[]) ∧ u' = .returning ∧ w' = w := by
  refine callsD_of_wpS Tryz.func63 rfl fun c₀ cs hu => ?_
  apply wpS_seq
  apply wpS_region
  simp [wpOpsS, go_sem, recoverD, hu, Tryz.ntmps63, Exit.thenS]
  apply wpS_seq
  apply wpS_region
  simp [wpOpsS, go_sem, Exit.thenS]
  refine wpS_cond (t := false) (by simp [Act.eval, Array.replicate]) ?_
  simp only [Bool.false_eq_true, if_false]
  refine wpS_of_wp (wp_skip ?_)
  cases c₀
  simp_all [bodyPostS, results, Tryz.results63]

/-- What the closure that recovers must come to. -/
def CatchTQ (c₀ : Frame) (cs : List Frame) (p er : Int) (older : List PanicEntry) (A E : Nat) (TA TE : TypeId) (w : World) (e : Exit) (a' : Act) (w' : World) : Prop :=
  bodyPostS Tryz.prog Tryz.f63 c₀ cs (fun y u' w' => y = .returned (.tuple #[]) ∧ u' = .panicking ({ v := PV p er, recovered := true } :: older) ∧ Two A E w w' ∧ Box w' A TA #[.int .i64 p] ∧ Box w' E TE #[.int .i64 er]) e a'
    ({ fn := c₀.fn, tmps := c₀.tmps, todo := c₀.todo, defers := c₀.defers, mode := .panicking ({ v := PV p er, recovered := true } :: older), kind := c₀.kind, roundOf := c₀.roundOf } :: cs) w'
set_option maxRecDepth 100000 in
set_option maxHeartbeats 4000000 in
theorem catchT_wrong (A E : Nat) (p er a0 e0 : Int) (TA TE : TypeId) (older : List PanicEntry) (w : World) (hA : Box w A TA #[.int .i64 a0]) (hE : Box w E TE #[.int .i64 e0]) (hne : A ≠ E) :
    CallsD Tryz.prog 63 #[.pointer (some ⟨A, 0, none⟩), .pointer (some ⟨E, 0, none⟩)] (.panicking ({ v := PV p er, recovered := false } :: older)) w fun y u' w' =>
      y = .returned (.tuple #[]) ∧ u' = .panicking ({ v := PV p er, recovered := true } :: older) ∧ Two A E w w' ∧ Box w' A TA #[.int .i64 p] ∧ Box w' E TE #[.int .i64 er] := by
  refine callsD_of_wpS Tryz.func63 rfl fun c₀ cs hu => ?_
  apply wpS_seq
  apply wpS_region
  simp [wpOpsS, go_sem, recoverD, hu, Tryz.ntmps63, Exit.thenS]
  apply wpS_seq
  apply wpS_region
  simp [wpOpsS, go_sem, Exit.thenS]
  refine wpS_cond (t := true) (by simp [Act.eval, Array.replicate]) ?_
  simp only [if_true]
  refine wpS_of_wp ?_
  have HA := Lib.hid hA
  have HE := Lib.hid hE
  have hla := lt_of_block hA
  have hle := lt_of_block hE
  have cA : w.cell? ⟨A, 0, none⟩ = some (.int .i64 a0) := blk_cell hA 0
  have cE : w.cell? ⟨E, 0, none⟩ = some (.int .i64 e0) := blk_cell hE 0
  have fA := blk_free hA 0
  have fE := blk_free hE 0
  have hne2 : ¬ A = E := hne
  have hne3 : ¬ E = A := fun q => hne q.symm
  clear hA hE
  change Code.wp _ _ (CatchTQ c₀ cs p er older A E TA TE w) { tmps := #[.pointer (some ⟨A, 0, none⟩), .pointer (some ⟨E, 0, none⟩), PV p er, undef, PV p er, PV p er, .bool true, undef, undef, undef, undef, undef, undef], defers := [] } w
  have HQ : ∀ (a' : Act) (w' : World), a'.defers = [] → Two A E w w' → Box w' A TA #[.int .i64 p] → Box w' E TE #[.int .i64 er] → CatchTQ c₀ cs p er older A E TA TE w Exit.normal a' w' := by
    intro a' w' h1 h2 h3 h4
    unfold CatchTQ
    simp [bodyPostS, results, Tryz.results63, h1, h2]
    exact ⟨h3, h4⟩
  clear hu
  have hta := assert_wrong p er
  go_wp2
  refine gen_world (fun v => Below w.heap.size w v ∧ Box v w.heap.size 113 #[.int .i64 p, .int .i64 er]) ⟨bw_alloc (Below.refl _ _) _, heap_alloc_new w _⟩ ?_
  intro v ⟨hv, hx⟩
  have HV := Lib.hid hv
  have x0 : v.cell? ⟨w.heap.size, 0, none⟩ = some (.int .i64 p) := blk_cell hx 0
  have x1 : v.cell? ⟨w.heap.size, 1, none⟩ = some (.int .i64 er) := blk_cell hx 1
  have hxl := lt_of_block hx
  have cA' := kept_cell hv cA
  have cE' := kept_cell hv cE
  have bA := Lib.hid (kept_obj hv HA.out)
  have bE := Lib.hid (kept_obj hv HE.out)
  have fA' : v.frozen? ⟨A, 0, none⟩ = false := blk_free bA.out 0
  have fE' : v.frozen? ⟨E, 0, none⟩ = false := blk_free bE.out 0
  have n1 : ¬ A = w.heap.size := by omega
  have n2 : ¬ E = w.heap.size := by omega
  have n3 : ¬ w.heap.size = A := by omega
  have n4 : ¬ w.heap.size = E := by omega
  have HF : Hid (∀ a' : Act, a'.defers = [] → CatchTQ c₀ cs p er older A E TA TE w Exit.normal a' (((v.setCell ⟨A, 0, none⟩ (.int .i64 p)).setCell ⟨E, 0, none⟩ (.int .i64 er)).drew)) := by
    intro a' ha
    refine HQ a' _ ha ((((Two.of_below HV.out).setR _).setT _).then (bw_drew (Below.refl _ _))) ?_ ?_
    · show ((v.setCell ⟨A, 0, none⟩ (.int .i64 p)).setCell ⟨E, 0, none⟩ (.int .i64 er)).heap[A]? = _
      rw [blk_far (a := ⟨E, 0, none⟩) hne]
      exact (blk_set bA.out _).trans rfl
    · show ((v.setCell ⟨A, 0, none⟩ (.int .i64 p)).setCell ⟨E, 0, none⟩ (.int .i64 er)).heap[E]? = _
      refine (blk_set (cs := #[.int .i64 e0]) (T := TE) (fr := (0, 0)) ?_ _).trans rfl
      rw [blk_far (a := ⟨A, 0, none⟩) hne.symm]
      exact bE.out
  clear hv hx cA cE fA fE HQ HA HE
  go_region_law (fail)
  all_goals exact HF.out _ rfl
end Go.Proofs.YtlpffgmfgkleiaaGreatDoor

/-
  The walks over what is tried to be read, and over a text's reading.
-/
namespace Go.Proofs.YtlpffgmfgkleiaaGreatDoor
open Go.RowKit Go.Maps

/-- What is told of a text, as it comes back. -/
def TryIs (s : ByteArray) (w : World) (y : Ending) (w' : World) : Prop :=
  ∃ (a : Option Addr) (n c : Nat), y = .returned (.tuple #[.agg #[.int .i64 (outOf s).S, .int .i64 (outOf s).R, .slice a n c], .int .i64 (outOf s).at_, .int .i64 (outOf s).e]) ∧ Holds (outOf s).S (outOf s).R (outOf s).l w.heap.size (.agg #[.int .i64 (outOf s).S, .int .i64 (outOf s).R, .slice a n c]) w' ∧ Below w.heap.size w w'
theorem far {w : World} {k b o : Nat} (h : k ≠ b) (v : Value) : (w.setCell ⟨b, o, none⟩ v).heap[k]? = w.heap[k]? := blk_far (a := ⟨b, o, none⟩) h v
theorem below_top {B N : Nat} {w w' w'' : World} (h : Below B w w') (hb : B ≤ N) (k : Below N w' w'') : Below B w w'' := h.trans (k.mono hb)

set_option maxRecDepth 100000 in
set_option maxHeartbeats 4000000 in
theorem attempt_any (s : ByteArray) (hs : s.size ≤ 1050000) (b : Nat) (w : World) (hb : w.cell? ⟨b, 0, none⟩ = some (.string s)) : Calls Tryz.prog 31 #[.func (.func 32) #[] #[.pointer (some ⟨b, 0, none⟩)]] w (TryIs s w) := by
  have hmf : ∀ (fn : Fn) (first cap : Array Value) (w : World), (Instr.makeFunc fn first cap).run Tryz.prog w = .ok (.func fn first cap) w := fun _ _ _ _ => rfl
  have hz := w_zeroSys
  have CR : Hid (∀ v, Below w.heap.size w v → Calls Tryz.prog 32 #[.pointer (some ⟨b, 0, none⟩)] v (ReadIs s v)) := fun v h => read_any s hs b v (kept_cell h hb)
  clear hb
  unfold ReadIs at CR
  go_enter_defers Tryz.func31, Tryz.ntmps31
  go_upto_region 1 with fail
  refine gen_world (fun v => Below w.heap.size w v ∧ v.heap.size = w.heap.size + 3 ∧ Box v w.heap.size SysT #[.int .i64 0, .int .i64 0, .slice none 0 0] ∧ Box v (w.heap.size + 1) 3 #[.int .i64 0] ∧ Box v (w.heap.size + 2) 44 #[.int .i64 0]) ⟨(by repeat (first | exact Below.refl _ _ | (with_reducible assumption) | refine bw_alloc ?_ _ | refine bw_drew ?_)), by simp, ?_, ?_, ?_⟩ ?_
  · show (World.alloc _ _).heap[_]? = _
    rw [Below.heap_alloc _ _ _ (by simp; omega), Below.heap_alloc _ _ _ (by simp)]; exact heap_alloc_new w _
  · show (World.alloc _ _).heap[_]? = _
    rw [Below.heap_alloc _ _ _ (by simp)]
    have := heap_alloc_new (w.alloc (.cells #[.int .i64 0, .int .i64 0, .slice none 0 0] SysT)) (.cells #[.int .i64 0] 3)
    rwa [World.size_alloc] at this
  · have := heap_alloc_new ((w.alloc (.cells #[.int .i64 0, .int .i64 0, .slice none 0 0] SysT)).alloc (.cells #[.int .i64 0] 3)) (.cells #[.int .i64 0] 44)
    rwa [World.size_alloc, World.size_alloc] at this
  intro u0 ⟨hb0, hs0, hx0, hx1, hx2⟩
  have B0 := Lib.hid hb0
  have X0 := Lib.hid hx0
  have X1 := Lib.hid hx1
  have X2 := Lib.hid hx2
  clear hx0 hx1 hx2
  cases hq : parseOf s with
  | error q =>
    rw [hq] at CR
    have HO : Hid (outOf s = ⟨0, 0, [], q.1, q.2⟩) := by show _ = _; unfold outOf; rw [hq]
    clear hq hb0
    go_wp2_with (go_at_call 32; (with_reducible refine (CR.out _ B0.out).mono ?_); rintro y u6 ⟨rfl, b6⟩; have B6 := Lib.hid b6; clear b6)
    refine leaves_cons (f := 57) (args := #[.pointer (some ⟨w.heap.size + 1, 0, none⟩), .pointer (some ⟨w.heap.size + 2, 0, none⟩)]) (by simp) (by simp [go_sem]) ?_
    refine (catch_wrong (w.heap.size + 1) (w.heap.size + 2) q.1 q.2 0 0 _ _ [] u6 (kept_obj B6.out X1.out) (kept_obj B6.out X2.out) (by omega)).mono ?_
    rintro y u' u7 ⟨rfl, rfl, t7, x1, x2⟩
    have x0 : Box u7 w.heap.size SysT #[.int .i64 0, .int .i64 0, .slice none 0 0] := t7.box (kept_obj B6.out X0.out) (by omega) (by omega)
    have hbb : Below w.heap.size w u7 := (below_up B0.out B6.out).trans (t7.below (by omega) (by omega) (by have := B6.out.size; omega))
    have r0 : u7.cell? ⟨w.heap.size, 0, none⟩ = some (.int .i64 0) := blk_cell x0 0
    have r1 : u7.cell? ⟨w.heap.size, 1, none⟩ = some (.int .i64 0) := blk_cell x0 1
    have r2 : u7.cell? ⟨w.heap.size, 2, none⟩ = some (.slice none 0 0) := blk_cell x0 2
    have r3 : u7.cell? ⟨w.heap.size + 1, 0, none⟩ = some (.int .i64 q.1) := blk_cell x1 0
    have r4 : u7.cell? ⟨w.heap.size + 2, 0, none⟩ = some (.int .i64 q.2) := blk_cell x2 0
    have hr := lt_of_block x0
    simp [Leaves, settle, results, Tryz.results31, go_sem, r0, r1, r2, r3, r4, hr]
    unfold TryIs
    rw [HO.out]
    exact ⟨none, 0, 0, rfl, holds_zero _ _, hbb⟩
  | ok q =>
    obtain ⟨S, R, l⟩ := q
    rw [hq] at CR
    have HO : Hid (outOf s = ⟨S, R, l, s.size, 0⟩) := by show _ = _; unfold outOf; rw [hq]
    clear hq hb0
    have e0 : u0.cell? ⟨w.heap.size, 0, none⟩ = some (.int .i64 0) := blk_cell X0.out 0
    go_upto_region 3 with (go_at_call 32; (with_reducible refine (CR.out _ B0.out).mono ?_); rintro y u6 ⟨a, n, c, rfl, h6, b6⟩; have H6 := Lib.hid h6; have B6 := Lib.hid b6; have x0 := kept_obj b6 X0.out; have x1 := kept_obj b6 X1.out; have r0 : u6.cell? ⟨w.heap.size, 0, none⟩ = some (.int .i64 0) := blk_cell x0 0; have r1 : u6.cell? ⟨w.heap.size, 1, none⟩ = some (.int .i64 0) := blk_cell x0 1; have r2 : u6.cell? ⟨w.heap.size, 2, none⟩ = some (.slice none 0 0) := blk_cell x0 2; have r3 : u6.cell? ⟨w.heap.size + 1, 0, none⟩ = some (.int .i64 0) := blk_cell x1 0; have f0 := blk_free x0 0; have f1 := blk_free x0 1; have f2 := blk_free x0 2; have f3 := blk_free x1 0; have hr := lt_of_block x0; have hr1 := lt_of_block x1; clear h6 b6 x0 x1)
    have hs6 : u6.heap.size ≥ w.heap.size + 3 := by have := B6.out.size; omega
    have hh : Holds S R l (w.heap.size + 3) (.agg #[.int .i64 S, .int .i64 R, .slice a n c]) u6 := hs0 ▸ H6.out
    refine gen_world (fun v => Below w.heap.size w v ∧ Holds S R l (w.heap.size + 3) (.agg #[.int .i64 S, .int .i64 R, .slice a n c]) v ∧ Box v w.heap.size SysT #[.int .i64 S, .int .i64 R, .slice a n c] ∧ Box v (w.heap.size + 1) 3 #[.int .i64 s.size] ∧ Box v (w.heap.size + 2) 44 #[.int .i64 0]) ⟨?_, ?_, ?_, ?_, ?_⟩ ?_
    · exact ((((below_up B0.out B6.out).setCell (p := ⟨w.heap.size, 0, none⟩) (Nat.le_refl _) _).setCell (p := ⟨w.heap.size, 1, none⟩) (Nat.le_refl _) _).setCell (p := ⟨w.heap.size, 2, none⟩) (Nat.le_refl _) _).setCell (p := ⟨w.heap.size + 1, 0, none⟩) (by show _ ≤ w.heap.size + 1; omega) _
    · exact (((hh.set (b := w.heap.size) (by omega) _).set (b := w.heap.size) (by omega) _).set (b := w.heap.size) (by omega) _).set (b := w.heap.size + 1) (by omega) _
    · show _ = _
      rw [far (k := w.heap.size) (b := w.heap.size + 1) (by omega)]
      have q0 := blk_set (o := 0) (kept_obj B6.out X0.out) (.int .i64 (S : Int))
      have q1 := blk_set (o := 1) q0 (.int .i64 (R : Int))
      have q2 := blk_set (o := 2) q1 (.slice a n c)
      exact q2
    · show _ = _
      refine (blk_set (cs := #[.int .i64 0]) (T := 3) (fr := (0, 0)) ?_ _).trans rfl
      rw [far (k := w.heap.size + 1) (b := w.heap.size) (by omega), far (k := w.heap.size + 1) (b := w.heap.size) (by omega), far (k := w.heap.size + 1) (b := w.heap.size) (by omega)]
      exact kept_obj B6.out X1.out
    · show _ = _
      rw [far (k := w.heap.size + 2) (b := w.heap.size + 1) (by omega), far (k := w.heap.size + 2) (b := w.heap.size) (by omega), far (k := w.heap.size + 2) (b := w.heap.size) (by omega), far (k := w.heap.size + 2) (b := w.heap.size) (by omega)]
      exact kept_obj B6.out X2.out
    intro v ⟨hbv, hhv, hx0, hx1, hx2⟩
    have HF : Hid (∀ y0 y1 y2 y3 y4 : Value, TryIs s w (.returned (.tuple #[.agg #[.int .i64 S, .int .i64 R, .slice a n c], .int .i64 s.size, .int .i64 0])) ((((((v.setCell ⟨w.heap.size, 0, none⟩ y0).setCell ⟨w.heap.size, 1, none⟩ y1).setCell ⟨w.heap.size, 2, none⟩ y2).setCell ⟨w.heap.size + 1, 0, none⟩ y3).setCell ⟨w.heap.size + 1 + 1, 0, none⟩ y4).drew)) := by
      intro y0 y1 y2 y3 y4
      unfold TryIs
      rw [HO.out]
      refine ⟨a, n, c, rfl, ?_, ?_⟩
      · have q := ((((hhv.set (b := w.heap.size) (o := 0) (by omega) y0).set (b := w.heap.size) (o := 1) (by omega) y1).set (b := w.heap.size) (o := 2) (by omega) y2).set (b := w.heap.size + 1) (o := 0) (by omega) y3).set (b := w.heap.size + 1 + 1) (o := 0) (by omega) y4
        exact (q.below (bw_drew (Below.refl _ _))).low (by omega)
      · have q := ((((hbv.setCell (p := ⟨w.heap.size, 0, none⟩) (Nat.le_refl _) y0).setCell (p := ⟨w.heap.size, 1, none⟩) (Nat.le_refl _) y1).setCell (p := ⟨w.heap.size, 2, none⟩) (Nat.le_refl _) y2).setCell (p := ⟨w.heap.size + 1, 0, none⟩) (by show _ ≤ w.heap.size + 1; omega) y3).setCell (p := ⟨w.heap.size + 1 + 1, 0, none⟩) (by show _ ≤ w.heap.size + 1 + 1; omega) y4
        exact below_same q rfl rfl rfl rfl
    have hx2' : Box v (w.heap.size + 1 + 1) 44 #[.int .i64 0] := hx2
    have p0 : v.cell? ⟨w.heap.size, 0, none⟩ = some (.int .i64 S) := blk_cell hx0 0
    have p1 : v.cell? ⟨w.heap.size, 1, none⟩ = some (.int .i64 R) := blk_cell hx0 1
    have p2 : v.cell? ⟨w.heap.size, 2, none⟩ = some (.slice a n c) := blk_cell hx0 2
    have p3 : v.cell? ⟨w.heap.size + 1, 0, none⟩ = some (.int .i64 s.size) := blk_cell hx1 0
    have p4 : v.cell? ⟨w.heap.size + 1 + 1, 0, none⟩ = some (.int .i64 0) := blk_cell hx2' 0
    have g0 := blk_free hx0 0
    have g1 := blk_free hx0 1
    have g2 := blk_free hx0 2
    have g3 := blk_free hx1 0
    have g4 := blk_free hx2' 0
    have hv0 := lt_of_block hx0
    have hv1 := lt_of_block hx1
    have hv2 := lt_of_block hx2'
    clear hbv hhv hx0 hx1 hx2 hx2' r0 r1 r2 r3 f0 f1 f2 f3 hr hr1 hs6 hh H6 B6 CR e0 X0 X1 X2 B0
    go_region_law (fail)
    all_goals
      go_wp2_with fail
      refine leaves_cons (f := 57) (args := #[.pointer (some ⟨w.heap.size + 1, 0, none⟩), .pointer (some ⟨w.heap.size + 1 + 1, 0, none⟩)]) (by simp) (by simp [go_sem]) ?_
      refine (catch_idle ⟨w.heap.size + 1, 0, none⟩ ⟨w.heap.size + 1 + 1, 0, none⟩ _).mono ?_
      rintro e u' w'' ⟨rfl, rfl, rfl⟩
      simp [Leaves, settle, results, Tryz.results31, go_sem, p0, p1, p2, p3, p4, hv0, hv1, hv2]
      exact HF.out _ _ _ _ _

set_option maxRecDepth 100000 in
set_option maxHeartbeats 4000000 in
theorem parse_any (s : ByteArray) (hs : s.size ≤ 1050000) (w : World) : Calls Tryz.prog 14 #[.string s] w (TryIs s w) := by
  have hmf : ∀ (fn : Fn) (first cap : Array Value) (w : World), (Instr.makeFunc fn first cap).run Tryz.prog w = .ok (.func fn first cap) w := fun _ _ _ _ => rfl
  have hz := w_zeroSys
  have CA : Hid (∀ b v, v.cell? ⟨b, 0, none⟩ = some (.string s) → Calls Tryz.prog 31 #[.func (.func 32) #[] #[.pointer (some ⟨b, 0, none⟩)]] v (TryIs s v)) := fun b v h => attempt_any s hs b v h
  unfold TryIs at CA
  generalize hO : outOf s = O at CA
  have HO := Lib.hid hO
  clear hO
  obtain ⟨S, R, l, p, e0⟩ := O
  simp only [] at CA
  go_enter Tryz.func14, Tryz.ntmps14
  go_upto_region 1 with fail
  refine gen_world (fun v => Below w.heap.size w v ∧ v.cell? ⟨w.heap.size, 0, none⟩ = some (.string s) ∧ Box v (w.heap.size + 1) SysT #[.int .i64 0, .int .i64 0, .slice none 0 0]) ⟨(by repeat (first | exact Below.refl _ _ | (with_reducible assumption) | refine bw_alloc ?_ _ | refine bw_drew ?_)), (new_first w _ _ _ 0).trans rfl, by have := heap_alloc_new (w.alloc (.cells #[.string s] 9)) (.cells #[.int .i64 0, .int .i64 0, .slice none 0 0] SysT); rwa [World.size_alloc] at this⟩ ?_
  intro u0 ⟨hb0, hc0, hx0⟩
  have B0 := Lib.hid hb0
  have C0 := Lib.hid hc0
  have X0 := Lib.hid hx0
  clear hb0 hc0 hx0
  go_wp2_with (go_at_call 31; (with_reducible refine (CA.out _ _ C0.out).mono ?_); rintro y u6 ⟨a, n, c, rfl, h6, b6⟩; have H6 := Lib.hid (h6.low (lt_of_block X0.out)); have B6 := Lib.hid (below_up B0.out b6); have x0 := kept_obj b6 X0.out; have r0 : u6.cell? ⟨w.heap.size + 1, 0, none⟩ = some (.int .i64 0) := blk_cell x0 0; have r1 : u6.cell? ⟨w.heap.size + 1, 1, none⟩ = some (.int .i64 0) := blk_cell x0 1; have r2 : u6.cell? ⟨w.heap.size + 1, 2, none⟩ = some (.slice none 0 0) := blk_cell x0 2; have f0 := blk_free x0 0; have f1 := blk_free x0 1; have f2 := blk_free x0 2; have hr := lt_of_block x0; clear h6 b6 x0)
  refine bodyPost_ret (v := .tuple #[.agg #[.int .i64 S, .int .i64 R, .slice a n c], .int .i64 p, .int .i64 e0]) (by simp [results, Tryz.results14, go_sem, r0, r1, r2, hr]) rfl ?_
  unfold TryIs
  rw [HO.out]
  exact ⟨a, n, c, rfl, ((((H6.out.low (Nat.le_refl _)).set (by omega) _).set (by omega) _).set (by omega) _).low (by omega), ((B6.out.setCell (p := ⟨w.heap.size + 1, 0, none⟩) (by show _ ≤ w.heap.size + 1; omega) _).setCell (p := ⟨w.heap.size + 1, 1, none⟩) (by show _ ≤ w.heap.size + 1; omega) _).setCell (p := ⟨w.heap.size + 1, 2, none⟩) (by show _ ≤ w.heap.size + 1; omega) _⟩
end Go.Proofs.YtlpffgmfgkleiaaGreatDoor

/-
  The walks over a row of words that is tried to be read as a task.
-/
namespace Go.Proofs.YtlpffgmfgkleiaaGreatDoor
open Go.RowKit Go.Maps

/-- A task in memory, apart from what lies below it. -/
structure HoldT (x : TV) (B : Nat) (w : World) : Prop where
  ok : x.ok w
  i1 : IsI w x.a1 x.ch
  i2 : IsI w x.a2 x.us
  f1 : FreshI B x.a1 x.ch
  f2 : FreshI B x.a2 x.us
theorem HoldT.low {x : TV} {B B' : Nat} {w : World} (h : HoldT x B w) (hB : B' ≤ B) : HoldT x B' w := ⟨h.ok, h.i1, h.i2, h.f1.low hB, h.f2.low hB⟩
theorem ints_far {w w' : World} {B : Nat} {z : Option Addr} {q : List Int} (hk : ∀ b, B ≤ b → b < w.heap.size → w'.heap[b]? = w.heap[b]?) (k1 : IsI w z q) (k2 : Ints w z q) (k3 : FreshI B z q) : IsI w' z q ∧ Ints w' z q := by
  rcases k2 with rfl | ⟨g, o, rfl, hc⟩
  · exact ⟨.inl rfl, .inl rfl⟩
  rcases k1 with rfl | k1
  · exact ⟨.inl rfl, .inl rfl⟩
  rcases k3 with rfl | k3
  · exact ⟨.inl rfl, .inl rfl⟩
  obtain ⟨cs, t, fr, hb, ht⟩ := k1 g o rfl
  have e := hk g (k3 g o rfl) (lt_of_block hb)
  refine ⟨.inr fun g' o' e' => ?_, .inr ⟨g, o, rfl, fun j u hj => ?_⟩⟩
  · cases e'
    exact ⟨cs, t, fr, e.trans hb, ht⟩
  · have := hc j u hj
    rw [blk_cell hb] at this
    rw [blk_cell (e.trans hb)]
    exact this
theorem HoldT.kept {x : TV} {B : Nat} {w w' : World} (h : HoldT x B w) (hk : ∀ b, B ≤ b → b < w.heap.size → w'.heap[b]? = w.heap[b]?) : HoldT x B w' := by
  have q1 := ints_far hk h.i1 h.ok.one h.f1
  have q2 := ints_far hk h.i2 h.ok.two h.f2
  exact ⟨⟨q1.2, q2.2, h.ok.l1, h.ok.m1, h.ok.l2, h.ok.m2⟩, q1.1, q2.1, h.f1, h.f2⟩
theorem HoldT.below {x : TV} {B : Nat} {w w' : World} (h : HoldT x B w) (hb : Below w.heap.size w w') : HoldT x B w' := h.kept fun b _ h2 => hb.block b h2
theorem HoldT.set {x : TV} {B b o : Nat} {w : World} (h : HoldT x B w) (hb : b < B) (v : Value) : HoldT x B (w.setCell ⟨b, o, none⟩ v) :=
  h.kept fun k h1 _ => blk_far (a := ⟨b, o, none⟩) (by show k ≠ b; omega) v
abbrev zTV : TV := ⟨0, 0, 0, 0, 0, none, [], 0, none, [], 0⟩
theorem hold_zero (B : Nat) (w : World) : HoldT zTV B w := ⟨⟨.inl rfl, .inl rfl, Nat.le_refl _, by decide, Nat.le_refl _, by decide⟩, .inl rfl, .inl rfl, .inl rfl, .inl rfl⟩
theorem HoldT.set7 {x : TV} {B b : Nat} {w : World} (h : HoldT x B w) (hb : b < B) (y0 y1 y2 y3 y4 y5 y6 : Value) : HoldT x B (((((((w.setCell ⟨b, 0, none⟩ y0).setCell ⟨b, 1, none⟩ y1).setCell ⟨b, 2, none⟩ y2).setCell ⟨b, 3, none⟩ y3).setCell ⟨b, 4, none⟩ y4).setCell ⟨b, 5, none⟩ y5).setCell ⟨b, 6, none⟩ y6) :=
  ((((((h.set hb y0).set hb y1).set hb y2).set hb y3).set hb y4).set hb y5).set hb y6
theorem below_s7 {N b : Nat} {w v : World} (h : Below N w v) (hb : N ≤ b) (y0 y1 y2 y3 y4 y5 y6 : Value) : Below N w (((((((v.setCell ⟨b, 0, none⟩ y0).setCell ⟨b, 1, none⟩ y1).setCell ⟨b, 2, none⟩ y2).setCell ⟨b, 3, none⟩ y3).setCell ⟨b, 4, none⟩ y4).setCell ⟨b, 5, none⟩ y5).setCell ⟨b, 6, none⟩ y6) :=
  ((((((h.setCell (p := ⟨b, 0, none⟩) hb y0).setCell (p := ⟨b, 1, none⟩) hb y1).setCell (p := ⟨b, 2, none⟩) hb y2).setCell (p := ⟨b, 3, none⟩) hb y3).setCell (p := ⟨b, 4, none⟩) hb y4).setCell (p := ⟨b, 5, none⟩) hb y5).setCell (p := ⟨b, 6, none⟩) hb y6
theorem far7 {w : World} {k b : Nat} (h : k ≠ b) (y0 y1 y2 y3 y4 y5 y6 : Value) : (((((((w.setCell ⟨b, 0, none⟩ y0).setCell ⟨b, 1, none⟩ y1).setCell ⟨b, 2, none⟩ y2).setCell ⟨b, 3, none⟩ y3).setCell ⟨b, 4, none⟩ y4).setCell ⟨b, 5, none⟩ y5).setCell ⟨b, 6, none⟩ y6).heap[k]? = w.heap[k]? := by
  rw [far h, far h, far h, far h, far h, far h, far h]
theorem box_set7 {w : World} {b : Nat} {T : TypeId} {z0 z1 z2 z3 z4 z5 z6 : Value} (h : Box w b T #[z0, z1, z2, z3, z4, z5, z6]) (y0 y1 y2 y3 y4 y5 y6 : Value) : Box (((((((w.setCell ⟨b, 0, none⟩ y0).setCell ⟨b, 1, none⟩ y1).setCell ⟨b, 2, none⟩ y2).setCell ⟨b, 3, none⟩ y3).setCell ⟨b, 4, none⟩ y4).setCell ⟨b, 5, none⟩ y5).setCell ⟨b, 6, none⟩ y6) b T #[y0, y1, y2, y3, y4, y5, y6] := by
  have q0 : Box (w.setCell ⟨b, 0, none⟩ y0) b T #[y0, z1, z2, z3, z4, z5, z6] := blk_set (o := 0) h y0
  generalize w.setCell ⟨b, 0, none⟩ y0 = w0 at q0 ⊢
  have q1 : Box (w0.setCell ⟨b, 1, none⟩ y1) b T #[y0, y1, z2, z3, z4, z5, z6] := blk_set (o := 1) q0 y1
  generalize w0.setCell ⟨b, 1, none⟩ y1 = w1 at q1 ⊢
  have q2 : Box (w1.setCell ⟨b, 2, none⟩ y2) b T #[y0, y1, y2, z3, z4, z5, z6] := blk_set (o := 2) q1 y2
  generalize w1.setCell ⟨b, 2, none⟩ y2 = w2 at q2 ⊢
  have q3 : Box (w2.setCell ⟨b, 3, none⟩ y3) b T #[y0, y1, y2, y3, z4, z5, z6] := blk_set (o := 3) q2 y3
  generalize w2.setCell ⟨b, 3, none⟩ y3 = w3 at q3 ⊢
  have q4 : Box (w3.setCell ⟨b, 4, none⟩ y4) b T #[y0, y1, y2, y3, y4, z5, z6] := blk_set (o := 4) q3 y4
  generalize w3.setCell ⟨b, 4, none⟩ y4 = w4 at q4 ⊢
  have q5 : Box (w4.setCell ⟨b, 5, none⟩ y5) b T #[y0, y1, y2, y3, y4, y5, z6] := blk_set (o := 5) q4 y5
  generalize w4.setCell ⟨b, 5, none⟩ y5 = w5 at q5 ⊢
  exact blk_set (o := 6) q5 y6
theorem size_set7 (w : World) (b : Nat) (y0 y1 y2 y3 y4 y5 y6 : Value) : (((((((w.setCell ⟨b, 0, none⟩ y0).setCell ⟨b, 1, none⟩ y1).setCell ⟨b, 2, none⟩ y2).setCell ⟨b, 3, none⟩ y3).setCell ⟨b, 4, none⟩ y4).setCell ⟨b, 5, none⟩ y5).setCell ⟨b, 6, none⟩ y6).heap.size = w.heap.size := by simp [World.setCell]
/-- What the closure that reads a row does. -/
def ReadTIs (W : List WV) (w : World) (y : Ending) (w' : World) : Prop := match lineOf W with
  | .error p => Panics p 10 y ∧ Below w.heap.size w w'
  | .ok t => ∃ x : TV, y = .returned (.tuple #[.agg #[.int .i64 x.id, .int .i64 x.c, .int .i64 x.d, .int .i64 x.t, .int .i64 x.p, .slice x.a1 x.ch.length x.c1, .slice x.a2 x.us.length x.c2], .int .i64 (endAt W W.length)]) ∧ x.tk = t ∧ HoldT x w.heap.size w' ∧ Below w.heap.size w w'

set_option maxRecDepth 100000 in
set_option maxHeartbeats 4000000 in
theorem readT_any {W : List WV} (hW : WordsOk W) (b : Nat) (w : World) {a : Option Addr} {n cap : Nat} (hb : w.cell? ⟨b, 0, none⟩ = some (.slice a n cap)) (hv : Words w a n cap W) : Calls Tryz.prog 46 #[.pointer (some ⟨b, 0, none⟩)] w (ReadTIs W w) := by
  have hz := y_zeroTask
  have HB := Lib.hid hb
  have hlb : b < w.heap.size := block_of_cell hb
  have HV := Lib.hid hv
  have hvl : W.length = n := hv.len
  have HVL := Lib.hid hvl
  have hne1 : ¬ b = w.heap.size := by omega
  have hne2 : ¬ w.heap.size = b := by omega
  clear hv hvl
  go_enter Tryz.func46, Tryz.ntmps46
  go_upto_region 1 with fail
  refine gen_world (fun v => Below w.heap.size w v ∧ Box v w.heap.size TT #[.int .i64 0, .int .i64 0, .int .i64 0, .int .i64 0, .int .i64 0, .slice none 0 0, .slice none 0 0]) ⟨bw_alloc (Below.refl _ _) _, heap_alloc_new w _⟩ ?_
  intro u0 ⟨hb0, hx0⟩
  have B0 := Lib.hid hb0
  have X0 := Lib.hid hx0
  have cb := kept_cell hb0 hb
  clear hb0 hx0 hb
  go_upto_region 2 with fail
  refine gen_world (fun v => Below w.heap.size w v ∧ Box v w.heap.size TT #[.int .i64 0, .int .i64 0, .int .i64 0, .int .i64 0, .int .i64 0, .slice none 0 0, .slice none 0 0] ∧ u0.heap.size < v.heap.size ∧ Left v u0.heap.size w.heap.size 0 W) ⟨bw_alloc B0.out _, kept_obj (bw_alloc (Below.refl _ _) _) X0.out, by simp, a, cap, by rw [HVL.out]; exact heap_alloc_new u0 _, (WIn.of HV.out.view).below (bw_alloc B0.out _), by rw [HVL.out]; exact HV.out.le, HV.out.small⟩ ?_
  intro u1 ⟨hb1, hx1, hs1, hl1⟩
  have B1 := Lib.hid hb1
  have X1 := Lib.hid hx1
  have hwu := B0.out.size
  have hwlt : w.heap.size < u0.heap.size := lt_of_block X0.out
  have CT0 : Hid (∀ v, Below u1.heap.size u1 v → Calls Tryz.prog 47 #[.pointer (some ⟨u0.heap.size, 0, none⟩)] v (TaskIs W u0.heap.size v)) := fun v hb => task_row ⟨hW, hwu, Nat.lt_of_lt_of_le hs1 hb.size⟩ (hl1.below hb (by omega))
  have HU : Hid (∀ v v', Below u1.heap.size u1 v → Two u0.heap.size u0.heap.size v v' → Below w.heap.size w v' ∧ Box v' w.heap.size TT #[.int .i64 0, .int .i64 0, .int .i64 0, .int .i64 0, .int .i64 0, .slice none 0 0, .slice none 0 0]) := fun v v' hb ht =>
    ⟨(below_up B1.out hb).trans (ht.below hwu hwu (Nat.le_trans (Nat.le_of_lt (Nat.lt_of_lt_of_le (by omega : w.heap.size < u1.heap.size) hb.size)) (Nat.le_refl _))), ht.box (kept_obj hb X1.out) (Nat.ne_of_lt hwlt) (Nat.ne_of_lt hwlt)⟩
  have HSZ : Hid (∀ v, Below u1.heap.size u1 v → u0.heap.size + 1 ≤ v.heap.size) := fun v hb => by have := hb.size; omega
  clear hb1 hx1 hs1 hl1 cb
  unfold TaskIs at CT0
  generalize hrR : u0.heap.size = r at *
  cases hq : lineOf W with
  | error p =>
    rw [hq] at CT0
    have HQ : Hid (∀ v, Below w.heap.size w v → ReadTIs W w (.panicked [{ v := PV p 10, recovered := false }]) v) := fun v hv => by
      show ReadTIs W w _ v
      unfold ReadTIs
      rw [hq]
      exact ⟨rfl, hv⟩
    clear hq
    go_wp2_with (go_at_call 47; (with_reducible refine (CT0.out _ (Below.refl _ _)).mono ?_); rintro y u6 ⟨rfl, t6⟩; have TW := Lib.hid (HU.out _ _ (Below.refl _ _) t6).1; clear t6)
    all_goals
      refine ⟨rfl, ?_⟩
      exact HQ.out _ TW.out
  | ok tk =>
    rw [hq] at CT0
    have HQ : Hid (∀ (x : TV) v, x.tk = tk → HoldT x w.heap.size v → Below w.heap.size w v → ReadTIs W w (.returned (.tuple #[.agg #[.int .i64 x.id, .int .i64 x.c, .int .i64 x.d, .int .i64 x.t, .int .i64 x.p, .slice x.a1 x.ch.length x.c1, .slice x.a2 x.us.length x.c2], .int .i64 (endAt W W.length)])) v) := fun x v h1 h2 h3 => by
      show ReadTIs W w _ v
      unfold ReadTIs
      rw [hq]
      exact ⟨x, rfl, h1, h2, h3⟩
    have CT1 : Hid (∀ v, Below u1.heap.size u1 v → Calls Tryz.prog 47 #[.pointer (some ⟨r, 0, none⟩)] v fun y w' => ∃ (x : TV) (v0 : Value), y = .returned (.agg #[.int .i64 x.id, .int .i64 x.c, .int .i64 x.d, .int .i64 x.t, .int .i64 x.p, .slice x.a1 x.ch.length x.c1, .slice x.a2 x.us.length x.c2]) ∧ x.tk = tk ∧ HoldT x (r + 1) w' ∧ Below w.heap.size w w' ∧ Box w' w.heap.size TT #[.int .i64 0, .int .i64 0, .int .i64 0, .int .i64 0, .int .i64 0, .slice none 0 0, .slice none 0 0] ∧ Box w' r RowT #[v0, .int .i64 (endAt W W.length)]) :=
      fun v hb => (CT0.out v hb).mono fun y w' ⟨x, h1, h2, h3, h4, h5, h6, v0, h7⟩ => ⟨x, v0, h1, h2, ⟨h3, h4.1, h5.1, h4.2.low (HSZ.out v hb), h5.2.low (HSZ.out v hb)⟩, (HU.out v w' hb h6).1, (HU.out v w' hb h6).2, h7⟩
    clear CT0 hq
    go_upto_region 3 with (go_at_call 47; (with_reducible refine (CT1.out _ (by repeat (first | exact Below.refl _ _ | (with_reducible assumption) | refine bw_alloc ?_ _ | refine bw_drew ?_))).mono ?_); rintro y u6 ⟨x, v0, rfl, h2, h3, h4, h5, h6⟩; have T6 := Lib.hid h2; have H6 := Lib.hid h3; have B6 := Lib.hid h4; have X6 := Lib.hid h5; have R6 := Lib.hid h6; clear h2 h3 h4 h5 h6)
    refine gen_world (fun v => Below w.heap.size w v ∧ HoldT x (r + 1) v ∧ Box v w.heap.size TT #[.int .i64 0, .int .i64 0, .int .i64 0, .int .i64 0, .int .i64 0, .slice none 0 0, .slice none 0 0] ∧ Box v r RowT #[v0, .int .i64 (endAt W W.length)] ∧ Box v u6.heap.size TT #[.int .i64 x.id, .int .i64 x.c, .int .i64 x.d, .int .i64 x.t, .int .i64 x.p, .slice x.a1 x.ch.length x.c1, .slice x.a2 x.us.length x.c2]) ⟨bw_alloc B6.out _, H6.out.below (bw_alloc (Below.refl _ _) _), kept_obj (bw_alloc (Below.refl _ _) _) X6.out, kept_obj (bw_alloc (Below.refl _ _) _) R6.out, heap_alloc_new u6 _⟩ ?_
    intro u7 ⟨hb7, hh7, hx7, hr7, ht7⟩
    have HH := Lib.hid hh7
    have HB7 := Lib.hid hb7
    have hlr := lt_of_block X6.out
    have hrl := lt_of_block R6.out
    have g1 : ¬ w.heap.size = u6.heap.size := by omega
    have g2 : ¬ u6.heap.size = w.heap.size := by omega
    have g3 : ¬ w.heap.size = r := by omega
    have g4 : ¬ r = w.heap.size := by omega
    have p0 : u7.cell? ⟨w.heap.size, 0, none⟩ = some (.int .i64 0) := blk_cell hx7 0
    have p1 : u7.cell? ⟨w.heap.size, 1, none⟩ = some (.int .i64 0) := blk_cell hx7 1
    have p2 : u7.cell? ⟨w.heap.size, 2, none⟩ = some (.int .i64 0) := blk_cell hx7 2
    have p3 : u7.cell? ⟨w.heap.size, 3, none⟩ = some (.int .i64 0) := blk_cell hx7 3
    have p4 : u7.cell? ⟨w.heap.size, 4, none⟩ = some (.int .i64 0) := blk_cell hx7 4
    have p5 : u7.cell? ⟨w.heap.size, 5, none⟩ = some (.slice none 0 0) := blk_cell hx7 5
    have p6 : u7.cell? ⟨w.heap.size, 6, none⟩ = some (.slice none 0 0) := blk_cell hx7 6
    have f0 := blk_free hx7 0
    have f1 := blk_free hx7 1
    have f2 := blk_free hx7 2
    have f3 := blk_free hx7 3
    have f4 := blk_free hx7 4
    have f5 := blk_free hx7 5
    have f6 := blk_free hx7 6
    have q0 : u7.cell? ⟨u6.heap.size, 0, none⟩ = some (.int .i64 x.id) := blk_cell ht7 0
    have q1 : u7.cell? ⟨u6.heap.size, 1, none⟩ = some (.int .i64 x.c) := blk_cell ht7 1
    have q2 : u7.cell? ⟨u6.heap.size, 2, none⟩ = some (.int .i64 x.d) := blk_cell ht7 2
    have q3 : u7.cell? ⟨u6.heap.size, 3, none⟩ = some (.int .i64 x.t) := blk_cell ht7 3
    have q4 : u7.cell? ⟨u6.heap.size, 4, none⟩ = some (.int .i64 x.p) := blk_cell ht7 4
    have q5 : u7.cell? ⟨u6.heap.size, 5, none⟩ = some (.slice x.a1 x.ch.length x.c1) := blk_cell ht7 5
    have q6 : u7.cell? ⟨u6.heap.size, 6, none⟩ = some (.slice x.a2 x.us.length x.c2) := blk_cell ht7 6
    have r1 : u7.cell? ⟨r, 1, none⟩ = some (.int .i64 (endAt W W.length)) := blk_cell hr7 1
    have hr := lt_of_block hx7
    have HD : Hid (∀ (y0 y1 y2 y3 y4 y5 y6 : Value), ReadTIs W w (.returned (.tuple #[.agg #[.int .i64 x.id, .int .i64 x.c, .int .i64 x.d, .int .i64 x.t, .int .i64 x.p, .slice x.a1 x.ch.length x.c1, .slice x.a2 x.us.length x.c2], .int .i64 (endAt W W.length)])) (((((((u7.setCell ⟨w.heap.size, 0, none⟩ y0).setCell ⟨w.heap.size, 1, none⟩ y1).setCell ⟨w.heap.size, 2, none⟩ y2).setCell ⟨w.heap.size, 3, none⟩ y3).setCell ⟨w.heap.size, 4, none⟩ y4).setCell ⟨w.heap.size, 5, none⟩ y5).setCell ⟨w.heap.size, 6, none⟩ y6).drew) := by
      intro y0 y1 y2 y3 y4 y5 y6
      have z1 := HH.out.set7 (b := w.heap.size) (by omega) y0 y1 y2 y3 y4 y5 y6
      have z2 := below_s7 HB7.out (Nat.le_refl w.heap.size) y0 y1 y2 y3 y4 y5 y6
      generalize (((((((u7.setCell ⟨w.heap.size, 0, none⟩ y0).setCell ⟨w.heap.size, 1, none⟩ y1).setCell ⟨w.heap.size, 2, none⟩ y2).setCell ⟨w.heap.size, 3, none⟩ y3).setCell ⟨w.heap.size, 4, none⟩ y4).setCell ⟨w.heap.size, 5, none⟩ y5).setCell ⟨w.heap.size, 6, none⟩ y6) = vv at z1 z2 ⊢
      exact HQ.out x _ T6.out ((z1.below (bw_drew (Below.refl _ _))).low (by omega)) (below_same z2 rfl rfl rfl rfl)
    clear hb7 hh7 hx7 hr7 ht7 H6 B6 X6 R6 HH HB7 T6
    generalize endAt W W.length = E at *
    go_region_law (fail)
    all_goals
      go_wp2_with fail
      exact bodyPost_ret (v := .tuple #[.agg #[.int .i64 x.id, .int .i64 x.c, .int .i64 x.d, .int .i64 x.t, .int .i64 x.p, .slice x.a1 x.ch.length x.c1, .slice x.a2 x.us.length x.c2], .int .i64 E]) (by simp [results, Tryz.results46, go_sem, p0, p1, p2, p3, p4, p5, p6, hr]) rfl (HD.out _ _ _ _ _ _ _)
end Go.Proofs.YtlpffgmfgkleiaaGreatDoor

/-
  The walks over what is tried to be read out of a row, and over a row's reading.
-/
namespace Go.Proofs.YtlpffgmfgkleiaaGreatDoor
open Go.RowKit Go.Maps

/-- What is told of a row. -/
structure OutT where
  t : Tk
  at_ : Int
  e : Int
def outT (W : List WV) : OutT := match lineOf W with
  | .error p => ⟨⟨0, 0, 0, 0, 0, [], []⟩, p, 10⟩
  | .ok t => ⟨t, endAt W W.length, 0⟩
def TryTIs (W : List WV) (w : World) (y : Ending) (w' : World) : Prop :=
  ∃ x : TV, y = .returned (.tuple #[.agg #[.int .i64 x.id, .int .i64 x.c, .int .i64 x.d, .int .i64 x.t, .int .i64 x.p, .slice x.a1 x.ch.length x.c1, .slice x.a2 x.us.length x.c2], .int .i64 (outT W).at_, .int .i64 (outT W).e]) ∧ x.tk = (outT W).t ∧ HoldT x w.heap.size w' ∧ Below w.heap.size w w'

set_option maxRecDepth 100000 in
set_option maxHeartbeats 4000000 in
theorem attemptT_any {W : List WV} (hW : WordsOk W) (b : Nat) (w : World) {a : Option Addr} {n cap : Nat} (hb : w.cell? ⟨b, 0, none⟩ = some (.slice a n cap)) (hv : Words w a n cap W) : Calls Tryz.prog 45 #[.func (.func 46) #[] #[.pointer (some ⟨b, 0, none⟩)]] w (TryTIs W w) := by
  have hmf : ∀ (fn : Fn) (first cap : Array Value) (w : World), (Instr.makeFunc fn first cap).run Tryz.prog w = .ok (.func fn first cap) w := fun _ _ _ _ => rfl
  have hz := y_zeroTask
  have CR : Hid (∀ v, Below w.heap.size w v → Calls Tryz.prog 46 #[.pointer (some ⟨b, 0, none⟩)] v (ReadTIs W v)) := fun v h => readT_any hW b v (kept_cell h hb) (hv.below h)
  clear hb hv
  unfold ReadTIs at CR
  go_enter_defers Tryz.func45, Tryz.ntmps45
  go_upto_region 1 with fail
  refine gen_world (fun v => Below w.heap.size w v ∧ v.heap.size = w.heap.size + 3 ∧ Box v w.heap.size TT #[.int .i64 0, .int .i64 0, .int .i64 0, .int .i64 0, .int .i64 0, .slice none 0 0, .slice none 0 0] ∧ Box v (w.heap.size + 1) 3 #[.int .i64 0] ∧ Box v (w.heap.size + 2) 44 #[.int .i64 0]) ⟨(by repeat (first | exact Below.refl _ _ | (with_reducible assumption) | refine bw_alloc ?_ _ | refine bw_drew ?_)), by simp, ?_, ?_, ?_⟩ ?_
  · show (World.alloc _ _).heap[_]? = _
    rw [Below.heap_alloc _ _ _ (by simp; omega), Below.heap_alloc _ _ _ (by simp)]; exact heap_alloc_new w _
  · show (World.alloc _ _).heap[_]? = _
    rw [Below.heap_alloc _ _ _ (by simp)]
    have := heap_alloc_new (w.alloc (.cells #[.int .i64 0, .int .i64 0, .int .i64 0, .int .i64 0, .int .i64 0, .slice none 0 0, .slice none 0 0] TT)) (.cells #[.int .i64 0] 3)
    rwa [World.size_alloc] at this
  · have := heap_alloc_new ((w.alloc (.cells #[.int .i64 0, .int .i64 0, .int .i64 0, .int .i64 0, .int .i64 0, .slice none 0 0, .slice none 0 0] TT)).alloc (.cells #[.int .i64 0] 3)) (.cells #[.int .i64 0] 44)
    rwa [World.size_alloc, World.size_alloc] at this
  intro u0 ⟨hb0, hs0, hx0, hx1, hx2⟩
  have B0 := Lib.hid hb0
  have X0 := Lib.hid hx0
  have X1 := Lib.hid hx1
  have X2 := Lib.hid hx2
  clear hx0 hx1 hx2
  cases hq : lineOf W with
  | error q =>
    rw [hq] at CR
    have HO : Hid (outT W = ⟨⟨0, 0, 0, 0, 0, [], []⟩, q, 10⟩) := by show _ = _; unfold outT; rw [hq]
    clear hq hb0
    go_wp2_with (go_at_call 46; (with_reducible refine (CR.out _ B0.out).mono ?_); rintro y u6 ⟨rfl, b6⟩; have B6 := Lib.hid b6; clear b6)
    refine leaves_cons (f := 63) (args := #[.pointer (some ⟨w.heap.size + 1, 0, none⟩), .pointer (some ⟨w.heap.size + 2, 0, none⟩)]) (by simp) (by simp [go_sem]) ?_
    refine (catchT_wrong (w.heap.size + 1) (w.heap.size + 2) q 10 0 0 _ _ [] u6 (kept_obj B6.out X1.out) (kept_obj B6.out X2.out) (by omega)).mono ?_
    rintro y u' u7 ⟨rfl, rfl, t7, x1, x2⟩
    have x0 : Box u7 w.heap.size TT #[.int .i64 0, .int .i64 0, .int .i64 0, .int .i64 0, .int .i64 0, .slice none 0 0, .slice none 0 0] := t7.box (kept_obj B6.out X0.out) (by omega) (by omega)
    have hbb : Below w.heap.size w u7 := (below_up B0.out B6.out).trans (t7.below (by omega) (by omega) (by have := B6.out.size; omega))
    have r0 : u7.cell? ⟨w.heap.size, 0, none⟩ = some (.int .i64 0) := blk_cell x0 0
    have r1 : u7.cell? ⟨w.heap.size, 1, none⟩ = some (.int .i64 0) := blk_cell x0 1
    have r2 : u7.cell? ⟨w.heap.size, 2, none⟩ = some (.int .i64 0) := blk_cell x0 2
    have r3 : u7.cell? ⟨w.heap.size, 3, none⟩ = some (.int .i64 0) := blk_cell x0 3
    have r4 : u7.cell? ⟨w.heap.size, 4, none⟩ = some (.int .i64 0) := blk_cell x0 4
    have r5 : u7.cell? ⟨w.heap.size, 5, none⟩ = some (.slice none 0 0) := blk_cell x0 5
    have r6 : u7.cell? ⟨w.heap.size, 6, none⟩ = some (.slice none 0 0) := blk_cell x0 6
    have r7 : u7.cell? ⟨w.heap.size + 1, 0, none⟩ = some (.int .i64 q) := blk_cell x1 0
    have r8 : u7.cell? ⟨w.heap.size + 2, 0, none⟩ = some (.int .i64 10) := blk_cell x2 0
    have hr := lt_of_block x0
    simp [Leaves, settle, results, Tryz.results45, go_sem, r0, r1, r2, r3, r4, r5, r6, r7, r8, hr]
    unfold TryTIs
    rw [HO.out]
    exact ⟨zTV, rfl, rfl, hold_zero _ _, hbb⟩
  | ok tk =>
    rw [hq] at CR
    have HO : Hid (outT W = ⟨tk, endAt W W.length, 0⟩) := by show _ = _; unfold outT; rw [hq]
    clear hq hb0
    generalize endAt W W.length = E at *
    have e0 : u0.cell? ⟨w.heap.size, 0, none⟩ = some (.int .i64 0) := blk_cell X0.out 0
    go_upto_region 3 with (go_at_call 46; (with_reducible refine (CR.out _ B0.out).mono ?_); rintro y u6 ⟨x, rfl, ht6, h6, b6⟩; have H6 := Lib.hid h6; have T6 := Lib.hid ht6; have B6 := Lib.hid b6; have x0 := kept_obj b6 X0.out; have x1 := kept_obj b6 X1.out; have r0 : u6.cell? ⟨w.heap.size, 0, none⟩ = some (.int .i64 0) := blk_cell x0 0; have r1 : u6.cell? ⟨w.heap.size, 1, none⟩ = some (.int .i64 0) := blk_cell x0 1; have r2 : u6.cell? ⟨w.heap.size, 2, none⟩ = some (.int .i64 0) := blk_cell x0 2; have r3 : u6.cell? ⟨w.heap.size, 3, none⟩ = some (.int .i64 0) := blk_cell x0 3; have r4 : u6.cell? ⟨w.heap.size, 4, none⟩ = some (.int .i64 0) := blk_cell x0 4; have r5 : u6.cell? ⟨w.heap.size, 5, none⟩ = some (.slice none 0 0) := blk_cell x0 5; have r6 : u6.cell? ⟨w.heap.size, 6, none⟩ = some (.slice none 0 0) := blk_cell x0 6; have f0 := blk_free x0 0; have f1 := blk_free x0 1; have f2 := blk_free x0 2; have f3 := blk_free x0 3; have f4 := blk_free x0 4; have f5 := blk_free x0 5; have f6 := blk_free x0 6; have r7 : u6.cell? ⟨w.heap.size + 1, 0, none⟩ = some (.int .i64 0) := blk_cell x1 0; have f7 := blk_free x1 0; have hr := lt_of_block x0; have hr1 := lt_of_block x1; clear h6 b6 x0 x1 ht6)
    have hs6 : u6.heap.size ≥ w.heap.size + 3 := by have := B6.out.size; omega
    have hh : HoldT x (w.heap.size + 3) u6 := hs0 ▸ H6.out
    refine gen_world (fun v => Below w.heap.size w v ∧ HoldT x (w.heap.size + 3) v ∧ Box v w.heap.size TT #[.int .i64 x.id, .int .i64 x.c, .int .i64 x.d, .int .i64 x.t, .int .i64 x.p, .slice x.a1 x.ch.length x.c1, .slice x.a2 x.us.length x.c2] ∧ Box v (w.heap.size + 1) 3 #[.int .i64 E] ∧ Box v (w.heap.size + 2) 44 #[.int .i64 0]) ⟨?_, ?_, ?_, ?_, ?_⟩ ?_
    · exact (below_s7 (below_up B0.out B6.out) (Nat.le_refl _) _ _ _ _ _ _ _).setCell (p := ⟨w.heap.size + 1, 0, none⟩) (by show _ ≤ w.heap.size + 1; omega) _
    · exact (hh.set7 (b := w.heap.size) (by omega) _ _ _ _ _ _ _).set (b := w.heap.size + 1) (by omega) _
    · show _ = _
      rw [far (k := w.heap.size) (b := w.heap.size + 1) (by omega)]
      exact box_set7 (kept_obj B6.out X0.out) _ _ _ _ _ _ _
    · show _ = _
      refine (blk_set (cs := #[.int .i64 0]) (T := 3) (fr := (0, 0)) ?_ _).trans rfl
      rw [far7 (k := w.heap.size + 1) (b := w.heap.size) (by omega)]
      exact kept_obj B6.out X1.out
    · show _ = _
      rw [far (k := w.heap.size + 2) (b := w.heap.size + 1) (by omega), far7 (k := w.heap.size + 2) (b := w.heap.size) (by omega)]
      exact kept_obj B6.out X2.out
    intro v ⟨hbv, hhv, hx0, hx1, hx2⟩
    have HF : Hid (∀ z0 z1 y0 y1 y2 y3 y4 y5 y6 : Value, TryTIs W w (.returned (.tuple #[.agg #[.int .i64 x.id, .int .i64 x.c, .int .i64 x.d, .int .i64 x.t, .int .i64 x.p, .slice x.a1 x.ch.length x.c1, .slice x.a2 x.us.length x.c2], .int .i64 E, .int .i64 0])) ((((((((((v.setCell ⟨w.heap.size, 0, none⟩ y0).setCell ⟨w.heap.size, 1, none⟩ y1).setCell ⟨w.heap.size, 2, none⟩ y2).setCell ⟨w.heap.size, 3, none⟩ y3).setCell ⟨w.heap.size, 4, none⟩ y4).setCell ⟨w.heap.size, 5, none⟩ y5).setCell ⟨w.heap.size, 6, none⟩ y6).setCell ⟨w.heap.size + 1, 0, none⟩ z0).setCell ⟨w.heap.size + 1 + 1, 0, none⟩ z1).drew)) := by
      intro z0 z1 y0 y1 y2 y3 y4 y5 y6
      have zz1 := hhv.set7 (b := w.heap.size) (by omega) y0 y1 y2 y3 y4 y5 y6
      have zz2 := below_s7 hbv (Nat.le_refl w.heap.size) y0 y1 y2 y3 y4 y5 y6
      generalize (((((((v.setCell ⟨w.heap.size, 0, none⟩ y0).setCell ⟨w.heap.size, 1, none⟩ y1).setCell ⟨w.heap.size, 2, none⟩ y2).setCell ⟨w.heap.size, 3, none⟩ y3).setCell ⟨w.heap.size, 4, none⟩ y4).setCell ⟨w.heap.size, 5, none⟩ y5).setCell ⟨w.heap.size, 6, none⟩ y6) = vv at zz1 zz2 ⊢
      unfold TryTIs
      rw [HO.out]
      refine ⟨x, rfl, T6.out, ?_, ?_⟩
      · have q := (zz1.set (b := w.heap.size + 1) (o := 0) (by omega) z0).set (b := w.heap.size + 1 + 1) (o := 0) (by omega) z1
        exact (q.below (bw_drew (Below.refl _ _))).low (by omega)
      · have q := (zz2.setCell (p := ⟨w.heap.size + 1, 0, none⟩) (by show _ ≤ w.heap.size + 1; omega) z0).setCell (p := ⟨w.heap.size + 1 + 1, 0, none⟩) (by show _ ≤ w.heap.size + 1 + 1; omega) z1
        exact below_same q rfl rfl rfl rfl
    have hx2' : Box v (w.heap.size + 1 + 1) 44 #[.int .i64 0] := hx2
    have p0 : v.cell? ⟨w.heap.size, 0, none⟩ = some (.int .i64 x.id) := blk_cell hx0 0
    have p1 : v.cell? ⟨w.heap.size, 1, none⟩ = some (.int .i64 x.c) := blk_cell hx0 1
    have p2 : v.cell? ⟨w.heap.size, 2, none⟩ = some (.int .i64 x.d) := blk_cell hx0 2
    have p3 : v.cell? ⟨w.heap.size, 3, none⟩ = some (.int .i64 x.t) := blk_cell hx0 3
    have p4 : v.cell? ⟨w.heap.size, 4, none⟩ = some (.int .i64 x.p) := blk_cell hx0 4
    have p5 : v.cell? ⟨w.heap.size, 5, none⟩ = some (.slice x.a1 x.ch.length x.c1) := blk_cell hx0 5
    have p6 : v.cell? ⟨w.heap.size, 6, none⟩ = some (.slice x.a2 x.us.length x.c2) := blk_cell hx0 6
    have g0 := blk_free hx0 0
    have g1 := blk_free hx0 1
    have g2 := blk_free hx0 2
    have g3 := blk_free hx0 3
    have g4 := blk_free hx0 4
    have g5 := blk_free hx0 5
    have g6 := blk_free hx0 6
    have p7 : v.cell? ⟨w.heap.size + 1, 0, none⟩ = some (.int .i64 E) := blk_cell hx1 0
    have p8 : v.cell? ⟨w.heap.size + 1 + 1, 0, none⟩ = some (.int .i64 0) := blk_cell hx2' 0
    have g7 := blk_free hx1 0
    have g8 := blk_free hx2' 0
    have hv0 := lt_of_block hx0
    have hv1 := lt_of_block hx1
    have hv2 := lt_of_block hx2'
    clear hbv hhv hx0 hx1 hx2 hx2' r0 r1 r2 r3 r4 r5 r6 r7 f0 f1 f2 f3 f4 f5 f6 f7 hr hr1 hs6 hh H6 B6 CR e0 X0 X1 X2 B0 T6
    go_region_law (fail)
    all_goals
      go_wp2_with fail
      refine leaves_cons (f := 63) (args := #[.pointer (some ⟨w.heap.size + 1, 0, none⟩), .pointer (some ⟨w.heap.size + 1 + 1, 0, none⟩)]) (by simp) (by simp [go_sem]) ?_
      refine (catchT_idle ⟨w.heap.size + 1, 0, none⟩ ⟨w.heap.size + 1 + 1, 0, none⟩ _).mono ?_
      rintro e u' w'' ⟨rfl, rfl, rfl⟩
      simp [Leaves, settle, results, Tryz.results45, go_sem, p0, p1, p2, p3, p4, p5, p6, p7, p8, hv0, hv1, hv2]
      exact HF.out _ _ _ _ _ _ _ _ _

set_option maxRecDepth 100000 in
set_option maxHeartbeats 4000000 in
theorem pline_any {W : List WV} (hW : WordsOk W) (w : World) {a : Option Addr} {n cap : Nat} (hv : Words w a n cap W) : Calls Tryz.prog 24 #[.slice a n cap] w (TryTIs W w) := by
  have hmf : ∀ (fn : Fn) (first cap : Array Value) (w : World), (Instr.makeFunc fn first cap).run Tryz.prog w = .ok (.func fn first cap) w := fun _ _ _ _ => rfl
  have hz := y_zeroTask
  have CA : Hid (∀ b v, v.cell? ⟨b, 0, none⟩ = some (.slice a n cap) → Below w.heap.size w v → Calls Tryz.prog 45 #[.func (.func 46) #[] #[.pointer (some ⟨b, 0, none⟩)]] v (TryTIs W v)) := fun b v h hb => attemptT_any hW b v h (hv.below hb)
  unfold TryTIs at CA
  generalize hO : outT W = O at CA
  have HO := Lib.hid hO
  clear hO hv
  obtain ⟨tk, p, e0⟩ := O
  simp only [] at CA
  go_enter Tryz.func24, Tryz.ntmps24
  go_upto_region 1 with fail
  refine gen_world (fun v => Below w.heap.size w v ∧ v.cell? ⟨w.heap.size, 0, none⟩ = some (.slice a n cap) ∧ Box v (w.heap.size + 1) TT #[.int .i64 0, .int .i64 0, .int .i64 0, .int .i64 0, .int .i64 0, .slice none 0 0, .slice none 0 0]) ⟨(by repeat (first | exact Below.refl _ _ | (with_reducible assumption) | refine bw_alloc ?_ _ | refine bw_drew ?_)), (new_first w _ _ _ 0).trans rfl, by have := heap_alloc_new (w.alloc (.cells #[.slice a n cap] 22)) (.cells #[.int .i64 0, .int .i64 0, .int .i64 0, .int .i64 0, .int .i64 0, .slice none 0 0, .slice none 0 0] TT); rwa [World.size_alloc] at this⟩ ?_
  intro u0 ⟨hb0, hc0, hx0⟩
  have B0 := Lib.hid hb0
  have C0 := Lib.hid hc0
  have X0 := Lib.hid hx0
  clear hb0 hc0 hx0
  go_wp2_with (go_at_call 45; (with_reducible refine (CA.out _ _ C0.out B0.out).mono ?_); rintro y u6 ⟨x, rfl, ht6, h6, b6⟩; have T6 := Lib.hid ht6; have H6 := Lib.hid (h6.low (lt_of_block X0.out)); have B6 := Lib.hid (below_up B0.out b6); have x0 := kept_obj b6 X0.out; have r0 : u6.cell? ⟨w.heap.size + 1, 0, none⟩ = some (.int .i64 0) := blk_cell x0 0; have r1 : u6.cell? ⟨w.heap.size + 1, 1, none⟩ = some (.int .i64 0) := blk_cell x0 1; have r2 : u6.cell? ⟨w.heap.size + 1, 2, none⟩ = some (.int .i64 0) := blk_cell x0 2; have r3 : u6.cell? ⟨w.heap.size + 1, 3, none⟩ = some (.int .i64 0) := blk_cell x0 3; have r4 : u6.cell? ⟨w.heap.size + 1, 4, none⟩ = some (.int .i64 0) := blk_cell x0 4; have r5 : u6.cell? ⟨w.heap.size + 1, 5, none⟩ = some (.slice none 0 0) := blk_cell x0 5; have r6 : u6.cell? ⟨w.heap.size + 1, 6, none⟩ = some (.slice none 0 0) := blk_cell x0 6; have f0 := blk_free x0 0; have f1 := blk_free x0 1; have f2 := blk_free x0 2; have f3 := blk_free x0 3; have f4 := blk_free x0 4; have f5 := blk_free x0 5; have f6 := blk_free x0 6; have hr := lt_of_block x0; clear h6 b6 x0 ht6)
  refine bodyPost_ret (v := .tuple #[.agg #[.int .i64 x.id, .int .i64 x.c, .int .i64 x.d, .int .i64 x.t, .int .i64 x.p, .slice x.a1 x.ch.length x.c1, .slice x.a2 x.us.length x.c2], .int .i64 p, .int .i64 e0]) (by simp [results, Tryz.results24, go_sem, r0, r1, r2, r3, r4, r5, r6, hr]) rfl ?_
  unfold TryTIs
  rw [HO.out]
  exact ⟨x, rfl, T6.out, ((H6.out.low (Nat.le_refl _)).set7 (by omega) _ _ _ _ _ _ _).low (by omega), below_s7 B6.out (by omega) _ _ _ _ _ _ _⟩
end Go.Proofs.YtlpffgmfgkleiaaGreatDoor

/-
  The walks over the document's own places and values of a row.
-/
namespace Go.Proofs.YtlpffgmfgkleiaaGreatDoor
open Go.RowKit Go.Maps

theorem zeroGot (w : World) : (zeroValue 62).run Tryz.prog w = .ok (.agg #[.int .i64 0, .int .i64 0, .int .i64 0, .int .i64 0, .int .i64 0, .slice none 0 0, .slice none 0 0, .int .i64 0, .int .i64 0]) w := by kernel_rfl
theorem w64_in {x : Int} (h : I64 x) : wrap64 x = x := by
  exact IntWalk.wrap64_in x h
set_option maxRecDepth 100000 in
set_option maxHeartbeats 2000000 in
theorem rend_any {w : World} {a : Option Addr} {n cap : Nat} {W : List WV} (h : Words w a n cap W) : Calls Tryz.prog 53 #[.slice a n cap] w fun y w' => y = .returned (.int .i64 (endAt W W.length)) ∧ Below w.heap.size w w' := by
  have hl := h.len
  have hn9 : (n : Int) ≤ 9223372036854775807 := by have := h.le; have := h.small; omega
  have hz := zeroWord
  cases n with
  | zero =>
    have hw : W = [] := List.length_eq_zero_iff.1 hl
    subst hw
    go_enter Tryz.func53, Tryz.ntmps53
    go_wp2
    go_ret
    exact ⟨rfl, Below.refl _ _⟩
  | succ m =>
    obtain ⟨x, hx⟩ := nth_of hl (show m < m + 1 by omega)
    obtain ⟨g, o, rfl, z0, z1, z2⟩ := h.view.at_ hx
    have HE : Hid (endAt W W.length = wrap64 (x.at_ + (x.tx.size : Int))) := by show _ = _; rw [hl, endAt_succ hx]; rfl
    have d1 : ¬ ((m + 1 : Nat) : Int) = 0 := by omega
    have d3 : (0 : Int) ≤ (m : Int) := by omega
    have d4 : (m : Int) < ((m + 1 : Nat) : Int) := by omega
    have d6 : wrap64 (m : Int) = (m : Int) := w64_in (by unfold I64; omega)
    clear h hx hl hn9
    go_enter Tryz.func53, Tryz.ntmps53
    go_wp2
    go_ret
    rw [HE.out]
    exact ⟨rfl, bw_alloc (Below.refl _ _) _⟩
/-- A place that is wrong, as it comes back. -/
def WrongIs (p : Int) (w : World) (y : Ending) (w' : World) : Prop :=
  y = .returned (.agg #[.int .i64 0, .int .i64 0, .int .i64 0, .int .i64 0, .int .i64 0, .slice none 0 0, .slice none 0 0, .int .i64 p, .int .i64 10]) ∧ Below w.heap.size w w'
abbrev GotT : TypeId := 62
set_option maxRecDepth 100000 in
set_option maxHeartbeats 4000000 in
theorem wrong_any {w : World} {a : Option Addr} {n cap i : Nat} {W : List WV} (h : Words w a n cap W) (hi : i ≤ 1000) : Calls Tryz.prog 48 #[.slice a n cap, .int .i64 i] w (WrongIs (placeAt W i) w) := by
  have hl := h.len
  have hn9 : (n : Int) ≤ 9223372036854775807 := by have := h.le; have := h.small; omega
  have hz := zeroGot
  have HW := Lib.hid h
  have HL := Lib.hid hl
  unfold WrongIs
  by_cases hlt : i < n
  · obtain ⟨x, hx⟩ := nth_of hl hlt
    obtain ⟨g, o, rfl, z0, z1, z2⟩ := h.view.at_ hx
    rw [placeAt_some hx]
    have d1 : (i : Int) < (n : Int) := by omega
    have d2 : (0 : Int) ≤ (i : Int) := by omega
    have Z0 := Lib.hid z0
    clear h hx hl
    go_enter Tryz.func48, Tryz.ntmps48
    go_upto_region 1 with fail
    refine gen_world (fun v => Below w.heap.size w v ∧ v.heap[w.heap.size]? = some (.cells #[.int .i64 0, .int .i64 0, .int .i64 0, .int .i64 0, .int .i64 0, .slice none 0 0, .slice none 0 0, .int .i64 0, .int .i64 0] GotT (0, 0))) ⟨bw_alloc (Below.refl _ _) _, heap_alloc_new w _⟩ ?_
    intro u0 ⟨hb0, hx0⟩
    have B0 := Lib.hid hb0
    have y0 := kept_cell hb0 Z0.out
    have r0 : u0.cell? ⟨w.heap.size, 0, none⟩ = some (.int .i64 0) := blk_cell hx0 0
    have r1 : u0.cell? ⟨w.heap.size, 1, none⟩ = some (.int .i64 0) := blk_cell hx0 1
    have r2 : u0.cell? ⟨w.heap.size, 2, none⟩ = some (.int .i64 0) := blk_cell hx0 2
    have r3 : u0.cell? ⟨w.heap.size, 3, none⟩ = some (.int .i64 0) := blk_cell hx0 3
    have r4 : u0.cell? ⟨w.heap.size, 4, none⟩ = some (.int .i64 0) := blk_cell hx0 4
    have r5 : u0.cell? ⟨w.heap.size, 5, none⟩ = some (.slice none 0 0) := blk_cell hx0 5
    have r6 : u0.cell? ⟨w.heap.size, 6, none⟩ = some (.slice none 0 0) := blk_cell hx0 6
    have r7 : u0.cell? ⟨w.heap.size, 7, none⟩ = some (.int .i64 0) := blk_cell hx0 7
    have r8 : u0.cell? ⟨w.heap.size, 8, none⟩ = some (.int .i64 0) := blk_cell hx0 8
    have f0 := blk_free hx0 0
    have f1 := blk_free hx0 1
    have f2 := blk_free hx0 2
    have f3 := blk_free hx0 3
    have f4 := blk_free hx0 4
    have f5 := blk_free hx0 5
    have f6 := blk_free hx0 6
    have f7 := blk_free hx0 7
    have f8 := blk_free hx0 8
    have hr := lt_of_block hx0
    clear hb0 hx0 z0 z1 z2
    go_wp2_with fail
    exact bodyPost_ret (v := .agg #[.int .i64 0, .int .i64 0, .int .i64 0, .int .i64 0, .int .i64 0, .slice none 0 0, .slice none 0 0, .int .i64 x.at_, .int .i64 10]) (by simp [results, Tryz.results48, go_sem, hr, r0, r1, r2, r3, r4, r5, r6, r7, r8]) rfl ⟨rfl, (by repeat (first | with_reducible exact B0.out | refine Below.setCell ?_ (by simp) _))⟩
  · rw [placeAt_none (by omega)]
    have d1 : ¬ (i : Int) < (n : Int) := by omega
    have CE : Hid (∀ v, Below w.heap.size w v → Calls Tryz.prog 53 #[.slice a n cap] v fun y w' => y = .returned (.int .i64 (endAt W W.length)) ∧ Below v.heap.size v w') := fun v hb => rend_any (HW.out.below hb)
    clear h hl
    go_enter Tryz.func48, Tryz.ntmps48
    go_upto_region 3 with fail
    refine gen_world (fun v => Below w.heap.size w v ∧ v.heap[w.heap.size]? = some (.cells #[.int .i64 0, .int .i64 0, .int .i64 0, .int .i64 0, .int .i64 0, .slice none 0 0, .slice none 0 0, .int .i64 0, .int .i64 0] GotT (0, 0))) ⟨bw_alloc (Below.refl _ _) _, heap_alloc_new w _⟩ ?_
    intro u0 ⟨hb0, hx0⟩
    have B0 := Lib.hid hb0
    have X0 := Lib.hid hx0
    clear hb0 hx0
    go_wp2_with (go_at_call 53; (with_reducible refine (CE.out _ B0.out).mono ?_); rintro y u1 ⟨rfl, b1⟩; have B1 := Lib.hid (below_up B0.out b1); have hx := kept_obj b1 X0.out; have r0 : u1.cell? ⟨w.heap.size, 0, none⟩ = some (.int .i64 0) := blk_cell hx 0; have r1 : u1.cell? ⟨w.heap.size, 1, none⟩ = some (.int .i64 0) := blk_cell hx 1; have r2 : u1.cell? ⟨w.heap.size, 2, none⟩ = some (.int .i64 0) := blk_cell hx 2; have r3 : u1.cell? ⟨w.heap.size, 3, none⟩ = some (.int .i64 0) := blk_cell hx 3; have r4 : u1.cell? ⟨w.heap.size, 4, none⟩ = some (.int .i64 0) := blk_cell hx 4; have r5 : u1.cell? ⟨w.heap.size, 5, none⟩ = some (.slice none 0 0) := blk_cell hx 5; have r6 : u1.cell? ⟨w.heap.size, 6, none⟩ = some (.slice none 0 0) := blk_cell hx 6; have r7 : u1.cell? ⟨w.heap.size, 7, none⟩ = some (.int .i64 0) := blk_cell hx 7; have r8 : u1.cell? ⟨w.heap.size, 8, none⟩ = some (.int .i64 0) := blk_cell hx 8; have f0 := blk_free hx 0; have f1 := blk_free hx 1; have f2 := blk_free hx 2; have f3 := blk_free hx 3; have f4 := blk_free hx 4; have f5 := blk_free hx 5; have f6 := blk_free hx 6; have f7 := blk_free hx 7; have f8 := blk_free hx 8; have hr := lt_of_block hx; clear b1 hx)
    exact bodyPost_ret (v := .agg #[.int .i64 0, .int .i64 0, .int .i64 0, .int .i64 0, .int .i64 0, .slice none 0 0, .slice none 0 0, .int .i64 (endAt W W.length), .int .i64 10]) (by simp [results, Tryz.results48, go_sem, hr, r0, r1, r2, r3, r4, r5, r6, r7, r8]) rfl ⟨rfl, (by repeat (first | with_reducible exact B1.out | refine Below.setCell ?_ (by simp) _))⟩
end Go.Proofs.YtlpffgmfgkleiaaGreatDoor

/-
  The walk over the document's own value of a word.
-/
namespace Go.Proofs.YtlpffgmfgkleiaaGreatDoor
open Go.RowKit Go.Maps

/-- What stands behind a name, as it comes back. -/
def twoVal (o : Option ByteArray) (name : ByteArray) : Value := match o with
  | some v => .agg #[.string name, .string v, .bool true]
  | none => .agg #[.string ⟨#[]⟩, .string ⟨#[]⟩, .bool false]
def ValIs (o : Option ByteArray) (name : ByteArray) (w : World) (y : Ending) (w' : World) : Prop := y = .returned (twoVal o name) ∧ Below w.heap.size w w'
abbrev TwoT : TypeId := 105
set_option maxRecDepth 100000 in
set_option maxHeartbeats 4000000 in
theorem rvalue_any {w : World} {a : Option Addr} {n cap i : Nat} {W : List WV} (h : Words w a n cap W) (hi : i ≤ 1000) (hW : ∀ x ∈ W, (x.tx.size : Int) ≤ 9223372036854775807) (name : ByteArray) : Calls Tryz.prog 51 #[.slice a n cap, .int .i64 i, .string name] w (ValIs (valAt W i name) name w) := by
  have hl := h.len
  have hn9 : (n : Int) ≤ 9223372036854775807 := by have := h.le; have := h.small; omega
  have hz := zeroTwo
  unfold ValIs
  by_cases hlt : i < n
  · obtain ⟨x, hx⟩ := nth_of hl hlt
    obtain ⟨g, o, rfl, z0, z1, z2⟩ := h.view.at_ hx
    have HV : Hid (valAt W i name = namedV x.tx name) := by show _ = _; unfold valAt; rw [wordAt_some hx]; rfl
    have CP : Hid (∀ v, Calls Tryz.prog 73 #[.string x.tx] v (PairBack x.tx v)) := fun v => rpair_any x.tx (hW x (List.mem_of_getElem? hx)) v
    have Z2 := Lib.hid z2
    have d1 : ¬ (n : Int) ≤ (i : Int) := by omega
    have d2 : (0 : Int) ≤ (i : Int) := by omega
    have d3 : (i : Int) < (n : Int) := by omega
    clear h hx hl
    go_enter Tryz.func51, Tryz.ntmps51
    go_upto_region 3 with fail
    refine gen_world (fun v => Below w.heap.size w v ∧ v.heap[w.heap.size]? = some (.cells #[.string ⟨#[]⟩, .string ⟨#[]⟩, .bool false] TwoT (0, 0))) ⟨bw_alloc (Below.refl _ _) _, heap_alloc_new w _⟩ ?_
    intro u0 ⟨hb0, hx0⟩
    have B0 := Lib.hid hb0
    have X0 := Lib.hid hx0
    have y2 := kept_cell hb0 z2
    clear hb0 hx0 z0 z1 z2
    go_upto_region 4 with (go_at_call 73; (with_reducible refine (CP.out _).mono ?_); rintro y u1 ⟨p, q, b, rfl, hp, b1⟩; have HP := Lib.hid hp; have B1 := Lib.hid (below_up B0.out b1); have X1 := Lib.hid (kept_obj b1 X0.out); clear hp b1)
    refine gen_world (fun v => Below w.heap.size w v ∧ v.heap[w.heap.size]? = some (.cells #[.string ⟨#[]⟩, .string ⟨#[]⟩, .bool false] TwoT (0, 0)) ∧ v.heap[u1.heap.size]? = some (.cells #[.string p, .string q, .bool b] TwoT (0, 0))) ⟨below_up B1.out (bw_alloc (Below.refl _ _) _), kept_obj (bw_alloc (Below.refl _ _) _) X1.out, heap_alloc_new u1 _⟩ ?_
    intro u2 ⟨hb2, hx2, hx3⟩
    have B2 := Lib.hid hb2
    generalize u1.heap.size = k at hx3 ⊢
    have ar0 : u2.cell? ⟨w.heap.size, 0, none⟩ = some (.string ⟨#[]⟩) := blk_cell hx2 0
    have ar1 : u2.cell? ⟨w.heap.size, 1, none⟩ = some (.string ⟨#[]⟩) := blk_cell hx2 1
    have ar2 : u2.cell? ⟨w.heap.size, 2, none⟩ = some (.bool false) := blk_cell hx2 2
    have af0 := blk_free hx2 0
    have af1 := blk_free hx2 1
    have af2 := blk_free hx2 2
    have ahr := lt_of_block hx2
    have br0 : u2.cell? ⟨k, 0, none⟩ = some (.string p) := blk_cell hx3 0
    have br1 : u2.cell? ⟨k, 1, none⟩ = some (.string q) := blk_cell hx3 1
    have br2 : u2.cell? ⟨k, 2, none⟩ = some (.bool b) := blk_cell hx3 2
    have bf0 := blk_free hx3 0
    have bf1 := blk_free hx3 1
    have bf2 := blk_free hx3 2
    have bhr := lt_of_block hx3
    have hq := named_of_pair (name := name) HP.out
    have HPP := Lib.hid HP.out
    clear hb2 hx2 hx3 B0 X0 B1 X1 CP HP Z2 y2
    by_cases hb : b = true ∧ p = name
    · obtain ⟨rfl, rfl⟩ := hb
      rw [if_pos ⟨rfl, rfl⟩] at hq
      have HQ : Hid (valAt W i p = some q) := HV.out.trans hq
      have d4 : (p.toList == p.toList) = true := by rw [beq_bytes, decide_eq_true rfl]
      have d5 : (p.toList != p.toList) = false := by rw [bne, d4]; rfl
      clear HV hq
      go_wp2_with fail
      exact bodyPost_ret (v := .agg #[.string p, .string q, .bool true]) (by simp [results, Tryz.results51, go_sem, ahr, ar0, ar1, ar2]) rfl ⟨by rw [HQ.out]; rfl, (by repeat (first | with_reducible exact B2.out | refine Below.setCell ?_ (by simp) _))⟩
    · rw [if_neg hb] at hq
      have HQ : Hid (valAt W i name = none) := HV.out.trans hq
      by_cases hpn : p = name
      · have hb0 : b = false := by cases b with | true => exact absurd ⟨rfl, hpn⟩ hb | false => rfl
        subst hb0
        subst hpn
        obtain ⟨-, rfl, rfl, -⟩ | ⟨h1, -⟩ := pairOf_is HPP.out
        rotate_left
        · cases h1
        have d4 : ((⟨#[]⟩ : ByteArray).toList == (⟨#[]⟩ : ByteArray).toList) = true := by rw [beq_bytes, decide_eq_true rfl]
        have d5 : ((⟨#[]⟩ : ByteArray).toList != (⟨#[]⟩ : ByteArray).toList) = false := by rw [bne, d4]; rfl
        clear HV hq hb HPP
        go_wp2_with fail
        exact bodyPost_ret (v := .agg #[.string ⟨#[]⟩, .string ⟨#[]⟩, .bool false]) (by simp [results, Tryz.results51, go_sem, ahr, ar0, ar1, ar2]) rfl ⟨by rw [HQ.out]; rfl, (by repeat (first | with_reducible exact B2.out | refine Below.setCell ?_ (by simp) _))⟩
      · have d4 : (p.toList == name.toList) = false := by rw [beq_bytes, decide_eq_false hpn]
        have d5 : (p.toList != name.toList) = true := by rw [bne, d4]; rfl
        clear HV hq hb hpn
        go_wp2_with fail
        exact bodyPost_ret (v := .agg #[.string ⟨#[]⟩, .string ⟨#[]⟩, .bool false]) (by simp [results, Tryz.results51, go_sem, ahr, ar0, ar1, ar2]) rfl ⟨by rw [HQ.out]; rfl, (by repeat (first | with_reducible exact B2.out | refine Below.setCell ?_ (by simp) _))⟩
  · have HV : Hid (valAt W i name = none) := by show _ = _; unfold valAt; rw [wordAt_none (by omega)]; rfl
    have d1 : (n : Int) ≤ (i : Int) := by omega
    clear h hl
    go_enter Tryz.func51, Tryz.ntmps51
    go_wp2
    exact bodyPost_ret (v := .agg #[.string ⟨#[]⟩, .string ⟨#[]⟩, .bool false]) (by simp [results, Tryz.results51, go_sem]) rfl ⟨by rw [HV.out]; rfl, (by repeat (first | (with_reducible exact Below.refl _ _) | (with_reducible assumption) | (with_reducible refine bw_alloc ?_ _) | (with_reducible refine bw_drew ?_) | refine Below.setCell ?_ (by simp) _))⟩
end Go.Proofs.YtlpffgmfgkleiaaGreatDoor
