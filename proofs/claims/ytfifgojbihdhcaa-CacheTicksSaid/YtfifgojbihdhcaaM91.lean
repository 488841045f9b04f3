/- Texts of this claim, put together: COpen2, CLaw3, CRow3. -/
import Derived.Test.YtfifgojbihdhcaaM84
import Derived.Deep.RegionHeld3
import Derived.Deep.CutBlock
import Derived.Deep.CutRange
import Derived.Deep.DeepCutAuto
set_option linter.unusedVariables false
set_option linter.unusedSimpArgs false

/-
  Rows of pairs that came in, opened.
-/
namespace Go.Proofs.Ytfifgojbihdhcaa
open Go.ChangeShapes Go.WideShapes Go.ChangeAt Go.RowKit

/-- A row of pairs. -/
structure Pairs (W : World) (a : Option Addr) (n : Nat) (l : Nat → Int × Int) : Prop where
  small : (n : Int) ≤ 9223372036854775807
  at_ : ∀ k, k < n → ∃ g o, a = some ⟨g, o, none⟩ ∧ W.cell? ⟨g, o + k * 2, none⟩ = some (.int .i64 (l k).1) ∧ W.cell? ⟨g, o + k * 2 + 1, none⟩ = some (.int .i64 (l k).2)
  wf : ∀ k, k < n → I64 (l k).1 ∧ I64 (l k).2
section
variable {H : Type} {enc : TypeId × Value → H} {W : World} {base : Nat} {spare : Nat → Bool} {held : Bool}
theorem open_pairs {r : Reach} {b0 : Nat} {v : Value} {d : DataW H} {p : List MemPlace} (hv : Value.okWide Try.prog W r b0 54 v) (h : DataW.Trod enc Try.prog W base spare held 54 v d p) :
    ∃ (a : Option Addr) (n c : Nat) (l : Nat → Int × Int), v = .slice a n c ∧ Pairs W a n l := by
  obtain ⟨a0, len, cap, rfl⟩ := okWide_slice Try.underlying54 hv
  refine ⟨a0, len, cap, ?_⟩
  obtain ⟨fuel, hf⟩ := h
  have k1 : Try.prog.cellsOf 3 = 1 := by kernel_rfl
  have k2 : Try.prog.cellsOf 55 = 2 := by kernel_rfl
  have hf : DataW.trod enc Try.prog W base spare held fuel 54 [.slice a0 len cap] = some (d, p) := by simpa [Value.cells] using hf
  rcases Go.Deep.open_slice Try.underlying54 hf with ⟨hcs, _⟩ | ⟨a, len', cap', m, n, D, Pl, hcs, hb, hl, hm, hmm, hx, hi⟩
  · simp at hcs
    obtain ⟨rfl, rfl, rfl⟩ := hcs
    exact ⟨fun _ => (0, 0), rfl, by omega, fun k hk => absurd hk (Nat.not_lt_zero _), fun k hk => absurd hk (Nat.not_lt_zero _)⟩
  · simp at hcs
    obtain ⟨rfl, rfl, rfl⟩ := hcs
    have hlm : len ≤ m := by rw [hmm]; split <;> omega
    obtain ⟨O, hO⟩ := Go.Deep.choose_lt (n := len) (p := fun i (o : Int × Int) => (I64 o.1 ∧ I64 o.2) ∧ W.cell? (a.add (i * 2)) = some (.int .i64 o.1) ∧ W.cell? (a.add (i * 2 + 1)) = some (.int .i64 o.2)) (fun i hil => by
      obtain ⟨cs, hc, htr⟩ := hi i (by omega)
      rw [k2] at hc
      obtain ⟨_, hcl, hat⟩ := World.cells?_some hc
      obtain ⟨ys, m', _, _, hlen, hyl, hall⟩ := DataW.trod_array Try.underlying55 htr
      rw [k1] at hall
      match cs, hcl, ys, hyl with
      | [v0, v1], _, [y0, y1], _ =>
        have t0 : DataW.trod enc Try.prog W base spare held m' 3 [v0] = some y0 := by have q := hall 0 (by omega); simpa using q
        have t1 : DataW.trod enc Try.prog W base spare held m' 3 [v1] = some y1 := by have q := hall 1 (by omega); simpa using q
        obtain ⟨n0, e0, _, w0⟩ := DataW.trod_int Try.underlying3 t0
        obtain ⟨n1, e1, _, w1⟩ := DataW.trod_int Try.underlying3 t1
        simp at e0 e1
        subst e0 e1
        have c0 := hat 0 (by omega)
        have c1 := hat 1 (by omega)
        rw [Go.Deep.add_add] at c0 c1
        exact ⟨(n0, n1), ⟨i64_of_wf w0, i64_of_wf w1⟩, c0, c1⟩)
    refine ⟨O, rfl, by unfold maxLen at hm; omega, fun k hk => ?_, fun k hk => (hO k hk).1⟩
    obtain ⟨_, c0, c1⟩ := hO k hk
    have z0 := (hO 0 (by omega)).2.1
    rcases a with ⟨b, off, spot⟩
    have hs : spot = none := by
      cases spot with
      | none => rfl
      | some s => simp [World.cell?, Addr.add] at z0; split at z0 <;> simp at z0
    subst hs
    rw [addr_at] at c0 c1
    exact ⟨b, off, rfl, c0, c1⟩
theorem Pairs.below {w w' : World} {a : Option Addr} {n : Nat} {l : Nat → Int × Int} (h : Pairs w a n l) (hb : Below w.heap.size w w') : Pairs w' a n l :=
  ⟨h.small, fun k hk => by obtain ⟨g, o, e, c0, c1⟩ := h.at_ k hk; exact ⟨g, o, e, kept_cell hb c0, kept_cell hb c1⟩, h.wf⟩
end
end Go.Proofs.Ytfifgojbihdhcaa

/-
  The walk over the statement that each set belongs to one owner at most.
-/
namespace Go.Proofs.Ytfifgojbihdhcaa
open Go.RowKit Go.Maps
attribute [-go_sem] run_eql_struct run_neq_struct
attribute [local go_sem] none_eql none_neq bitsGuard

/-- What belongs to one below i. -/
def allP (n : Nat) (L : Nat → Int) (i : Nat) (j : Nat) : Bool := decide (j < n) && (decide (1 ≤ L j) && decide (L j < i))
theorem allP_one (n : Nat) (L : Nat → Int) (k : Nat) : wd (allP n L 1) k = 0 := by
  have : wd (allP n L 1) k = wd noneP k := natOf_congr fun j _ => by simp [allP, noneP]; try omega
  rw [this, wd_none]
theorem allP_and (n : Nat) (L : Nat → Int) (i : Nat) (k : Nat) : wd (andP (allP n L i) (ofP n L i)) k = 0 := by
  have : wd (andP (allP n L i) (ofP n L i)) k = wd noneP k := natOf_congr fun j _ => by simp [allP, ofP, andP, noneP]; try omega
  rw [this, wd_none]
theorem allP_next (n : Nat) (L : Nat → Int) {i : Nat} (h1 : 1 ≤ i) (h2 : i ≤ 99) (k : Nat) : wd (orN [allP n L i, ofP n L i] 2) k = wd (allP n L (i + 1)) k := natOf_congr fun j _ => by
  have ho : okOwn (i : Int) := ⟨by omega, by omega⟩
  simp only [orN, orP, noneP, allP, ofP, decide_eq_true ho, Bool.true_and, Bool.false_or, List.getD_cons_zero, List.getD_cons_succ]
  rw [Bool.eq_iff_iff]
  simp
  omega
theorem allP_has (n : Nat) (L : Nat → Int) (hL : ∀ j, 0 ≤ L j ∧ L j ≤ 16) {i : Nat} (hi : i < n) (hn : n ≤ 256) : hasP (allP n L 17) (i : Int) = !(L i == 0) := by
  have := hL i
  rw [hasP_nat (by omega)]
  simp only [allP, decide_eq_true hi, Bool.true_and]
  rw [Bool.eq_iff_iff]
  simp
  omega
theorem allP_len (n : Nat) (L : Nat → Int) (i : Nat) : ∀ m, cntN (allP n L i) m ≤ n
  | 0 => by simp [cntN]
  | m + 1 => by
    have := allP_len n L i m
    by_cases h : m < n
    · have := cntN_le (allP n L i) (m + 1); omega
    · have e : allP n L i m = false := by simp [allP, h]
      simp only [cntN, e]
      simpa using this
/-- Two sets side by side. -/
theorem sets_two {w : World} {g : Nat} {p q : Nat → Bool} (hg : g < w.heap.size) (h : w.heap[g]? = some (.cells #[.int .u64 (wd p 0), .int .u64 (wd p 1), .int .u64 (wd p 2), .int .u64 (wd p 3), .int .u64 (wd q 0), .int .u64 (wd q 1), .int .u64 (wd q 2), .int .u64 (wd q 3)] 37 (0, 0))) : Sets w w.heap.size (some ⟨g, 0, none⟩) [p, q] := by
  refine .inr ⟨g, 0, rfl, hg, fun k hk => ?_⟩
  match k, hk with
  | 0, _ => exact ⟨by rw [blk_cell h]; rfl, by rw [blk_cell h]; rfl, by rw [blk_cell h]; rfl, by rw [blk_cell h]; rfl⟩
  | 1, _ => exact ⟨by rw [blk_cell h]; rfl, by rw [blk_cell h]; rfl, by rw [blk_cell h]; rfl, by rw [blk_cell h]; rfl⟩
  | k + 2, hk => simp at hk; omega

/-- A cache that grew up behind w1. -/
structure OwnAt (w1 : World) (b r n : Nat) (Lc : Nat → Int) (w : World) : Prop where
  low : Below w1.heap.size w1 w
  ch : Ch CT w b r n Lc
  lr : w1.heap.size ≤ r
theorem OwnAt.below {w1 w w' : World} {b r n : Nat} {Lc : Nat → Int} (h : OwnAt w1 b r n Lc w) (hb : Below w.heap.size w w') : OwnAt w1 b r n Lc w' := ⟨below_up h.low hb, h.ch.below hb, h.lr⟩
theorem OwnAt.turn {w1 w w' : World} {b r n : Nat} {Lc Lc' : Nat → Int} (h : OwnAt w1 b r n Lc w) (ht : Turn (fun k => k = r) w w') (hc : Ch CT w' b r n Lc') : OwnAt w1 b r n Lc' w' :=
  ⟨h.low.trans (ht.below (B := w1.heap.size) h.low.size (fun i q => by subst q; exact h.lr)), hc, h.lr⟩

/-- All so far, and none, in their boxes. -/
structure Own2 (w1 : World) (b r n : Nat) (Lc : Nat → Int) (gA gN : Nat) (P : Nat → Bool) (w : World) : Prop where
  own : OwnAt w1 b r n Lc w
  al : Blk4 w gA (wd P 0) (wd P 1) (wd P 2) (wd P 3)
  no : Blk4 w gN 0 0 0 0
  la : w1.heap.size ≤ gA
  ab : gA ≠ b
  ar : gA ≠ r
  an : gA ≠ gN
  nr : gN ≠ r
theorem Own2.below {w1 w w' : World} {b r n : Nat} {Lc : Nat → Int} {gA gN : Nat} {P : Nat → Bool} (h : Own2 w1 b r n Lc gA gN P w) (hb : Below w.heap.size w w') : Own2 w1 b r n Lc gA gN P w' :=
  ⟨h.own.below hb, h.al.below hb, h.no.below hb, h.la, h.ab, h.ar, h.an, h.nr⟩
theorem Own2.put {w1 w : World} {b r n : Nat} {Lc : Nat → Int} {gA gN : Nat} {P : Nat → Bool} (h : Own2 w1 b r n Lc gA gN P w) (P' : Nat → Bool) (y : Nat → Nat) (hy : ∀ k, y k = wd P' k) : Own2 w1 b r n Lc gA gN P' ((((w.setCell ⟨gA, 0, none⟩ (.int .u64 (y 0))).setCell ⟨gA, 1, none⟩ (.int .u64 (y 1))).setCell ⟨gA, 2, none⟩ (.int .u64 (y 2))).setCell ⟨gA, 3, none⟩ (.int .u64 (y 3))) := by
  have hc : ∀ (o : Nat) (v : Value) (w : World), OwnAt w1 b r n Lc w → OwnAt w1 b r n Lc (w.setCell ⟨gA, o, none⟩ v) := fun o v w hw => by
    obtain ⟨cur, h1, h2, h3⟩ := hw.ch.row
    exact ⟨hw.low.setCell (p := ⟨gA, o, none⟩) h.la v, ⟨(blk_far (a := ⟨gA, o, none⟩) h.ab.symm v).trans hw.ch.str, ⟨cur, (blk_far (a := ⟨gA, o, none⟩) h.ar.symm v).trans h1, h2, h3⟩, hw.ch.ne, hw.ch.few, hw.ch.wf⟩, hw.lr⟩
  have ha := h.al.set (y 0) (y 1) (y 2) (y 3)
  refine ⟨hc _ _ _ (hc _ _ _ (hc _ _ _ (hc _ _ _ h.own))), ?_, (set4_far h.an.symm _ _ _ _).trans h.no, h.la, h.ab, h.ar, h.an, h.nr⟩
  rw [← hy 0, ← hy 1, ← hy 2, ← hy 3]
  exact ha

theorem Own2.turn {w1 w w' : World} {b r n : Nat} {Lc Lc' : Nat → Int} {gA gN : Nat} {P : Nat → Bool} (h : Own2 w1 b r n Lc gA gN P w) (ht : Turn (fun k => k = r) w w') (hc : Ch CT w' b r n Lc') : Own2 w1 b r n Lc' gA gN P w' :=
  ⟨h.own.turn ht hc, ht.obj h.al h.ar, ht.obj h.no h.nr, h.la, h.ab, h.ar, h.an, h.nr⟩
theorem ofP_zero (n : Nat) (o : Int) (ho : 1 ≤ o) (k : Nat) : wd (ofP n (fun _ => 0) o) k = 0 := by
  have : wd (ofP n (fun _ => 0) o) k = wd noneP k := natOf_congr fun j _ => by simp [ofP, noneP]; omega
  rw [this, wd_none]

set_option maxRecDepth 100000 in
set_option maxHeartbeats 16000000 in
theorem law_owns (W : World) (sets : Int) (a : Option Addr) (n cap : Nat) (l : Nat → Int × Int) (hp : Pairs W a n l) :
    Calls Try.prog 5 #[.int .i64 sets, .slice a n cap] W fun e w' => e = .returned (.bool true) ∧ Below W.heap.size W w' := by
  have A := Lib.hid (cawake_any W)
  obtain ⟨t, kk, e1, q2, q3, q4, q5⟩ : ∃ (t : Int) (k : Nat), sets.tmod 257 = t ∧ -257 < t ∧ t < 257 ∧ (t + 257) % 257 = (k : Int) ∧ k < 257 := by
    have a := Int.tmod_lt_of_pos sets (show (0 : Int) < 257 by omega)
    have b := Int.lt_tmod_of_pos sets (show (0 : Int) < 257 by omega)
    exact ⟨sets.tmod 257, ((sets.tmod 257 + 257) % 257).toNat, rfl, b, a, by omega, by omega⟩
  have u1 : IntKind.i64.wrap (t + 257) = t + 257 := IntWalk.i64_in _ (by omega)
  have u2 : (t + 257).tmod 257 = (kk : Int) := by rw [Int.tmod_eq_emod_of_nonneg (by omega)]; exact q4
  have u3 : 0 ≤ t + 257 := by omega
  have hkk : kk ≤ 256 := by omega
  have hsm := hp.small
  have HP := Lib.hid hp
  clear q4 hp
  go_enter Try.func5, Try.ntmps5
  go_upto_region 3 with (go_at_call 8; (refine A.out.mono ?_); rintro e w1 ⟨rfl, b1⟩; have HL1 := Lib.hid b1; clear b1)
  have CN := Lib.hid (cnew_some kk hkk w1)
  clear e1 u1 u2 u3 q2 q3
  go_upto_region 6 with (go_at_call 10; (refine CN.out.mono ?_); rintro e w2 ⟨b, r, rfl, hc, hb, hr, b2⟩; have H2 := Lib.hid (OwnAt.mk b2 hc hr); clear hc hb hr b2)
  clear CN A
  obtain ⟨m, hm⟩ : ∃ m, m = min n 40 := ⟨_, rfl⟩
  have hm1 : m ≤ n := by omega
  have hm4 : m ≤ 40 := by omega
  have hor : m = n ∨ (m = 40 ∧ 40 < n) := by omega
  have HOR := Lib.hid hor
  clear hm hor
  go_upto_block 0 with fail
  go_cut [] from 24 to 47 (fun wx => ∃ Lc : Nat → Int, Hid (OwnAt w1 b r kk Lc wx) ∧ Hid (∀ j, 0 ≤ Lc j ∧ Lc j ≤ 16))
  case first =>
    go_wp2_with fail
    go_loopw [8] (fun u wr => ∃ (i : Nat) (Lc : Nat → Int), i ≤ m ∧ u = .int .i64 i ∧ Hid (OwnAt w1 b r kk Lc wr) ∧ Hid (∀ j, 0 ≤ Lc j ∧ Lc j ≤ 16)) (fun u _ => (m - intOf u).toNat)
    case atStart => exact ⟨0, _, by omega, rfl, H2, fun j => ⟨by show (0 : Int) ≤ 0; omega, by show (0 : Int) ≤ 16; omega⟩⟩
    case round =>
      obtain ⟨i, Lc, hi, rfl, HQ, HB⟩ := hrel
      clear H2
      by_cases hlt : i < m
      · obtain ⟨g, o, rfl, c0, c1⟩ := (HP.out.below (below_up HL1.out HQ.out.low)).at_ i (by omega)
        obtain ⟨y, hy, hy2⟩ := and_small (l i).2 15 (by omega)
        have hy3 : bits .and .i64 (l i).2 15 = (y : Int) := hy2
        have hy4 : IntKind.i64.wrap (1 + (y : Int)) = 1 + (y : Int) := IntWalk.i64_in _ (by omega)
        have hi1 : (i : Int) < (n : Int) := by omega
        have hi2 : (i : Int) < 40 := by omega
        have hi3 : (0 : Int) ≤ (i : Int) := by omega
        have US := Lib.hid (fun w (hw : Below wr.heap.size wr w) => cuse_any (HQ.out.ch.below hw) (l i).1 (1 + (y : Int)))
        unfold UseBack at US
        have HB2 : Hid (∀ j, 0 ≤ useL kk Lc (l i).1 (1 + (y : Int)) j ∧ useL kk Lc (l i).1 (1 + (y : Int)) j ≤ 16) := fun j => by
          unfold useL
          split
          · unfold putL
            split
            · omega
            · exact HB.out j
          · exact HB.out j
        generalize useL kk Lc (l i).1 (1 + (y : Int)) = L2 at US HB2
        generalize useB kk Lc (l i).1 (1 + (y : Int)) = ub at US
        generalize (l i).1 = s1 at *
        generalize (l i).2 = s2 at *
        clear hy hy2 HB
        have bb := Below.refl wr.heap.size wr
        go_upto_region 9 with fail
        go_still_tail 13, (by kernel_rfl)
        go_wp2_with (go_at_call 12; (with_reducible refine (US.out _ (by repeat (first | (with_reducible assumption) | refine Below.drew ?_ | refine Below.alloc ?_ (by first | omega | (simp; omega)) _))).mono ?_); rintro e w3 ⟨rfl, hc3, ht3⟩; have H3 := Lib.hid ((HQ.out.below ((by repeat (first | (with_reducible assumption) | refine Below.drew ?_ | refine Below.alloc ?_ (by first | omega | (simp; omega)) _)) : Below wr.heap.size wr _)).turn ht3 hc3); clear hc3 ht3)
        go_roundw
        case rel => exact ⟨i + 1, _, by omega, by go_num, H3, HB2⟩
        case measure => simp [intOf]; omega
      · obtain rfl : i = m := by omega
        have q1 : ¬ ((i : Int) < (n : Int)) ∨ ((i : Int) < (n : Int) ∧ ¬ ((i : Int) < 40)) := by
          rcases HOR.out with h | ⟨h1, h2⟩
          · left; omega
          · right; omega
        rcases q1 with q1 | ⟨q1, q2⟩
        all_goals
          go_wp2_with fail
          go_meet
          exact ⟨_, HQ, HB⟩
  case rest =>
    obtain ⟨Lc, H3, HB⟩ := hcut
    clear H2 HP HOR hm1 hm4 hsm
    go_upto_region 12 with fail
    refine gen_world (Own2 w1 b r kk Lc wc.heap.size (wc.heap.size + 1) (allP kk Lc 1)) ⟨H3.out.below (by repeat (first | exact Below.refl _ _ | (with_reducible assumption) | refine bw_alloc ?_ _ | refine bw_drew ?_)), by rw [allP_one, allP_one, allP_one, allP_one]; exact kept_obj ((Below.refl _ _).alloc (Nat.le_refl _) _) (heap_alloc_new wc _), (two_boxes wc rfl _ _).2, H3.out.low.size, by have := H3.out.ch.lt.1; omega, by have := H3.out.ch.lt.2; omega, by omega, by have := H3.out.ch.lt.2; omega⟩ ?_
    intro W4 hw4
    have H4 := Lib.hid hw4
    clear hw4
    obtain ⟨gA, hgA⟩ : ∃ gA, wc.heap.size = gA := ⟨_, rfl⟩
    rw [hgA] at H4
    simp only [hgA]
    clear hgA H3
    go_upto_block 2 with fail
    go_cut [] from 50 to 65 (fun wx => Hid (Own2 w1 b r kk Lc gA (gA + 1) (allP kk Lc 17) wx))
    case first =>
      go_wp2_with fail
      go_loopw [11, 12] (fun u v wr => ∃ i : Nat, 1 ≤ i ∧ i ≤ 17 ∧ u = .int .i64 i ∧ Hid (Own2 w1 b r kk Lc gA (gA + 1) (allP kk Lc i) wr)) (fun u _ _ => (17 - intOf u).toNat)
      case atStart => exact ⟨1, by omega, by omega, rfl, H4⟩
      case round =>
        obtain ⟨i, hi0, hi, rfl, HQ⟩ := hrel
        clear H4
        by_cases hlt : i < 17
        · have hi1 : (i : Int) < 17 := by omega
          have OFC := Lib.hid (cof_any HQ.out.own.ch (i : Int))
          unfold OfBack at OFC
          have hi4 : IntKind.i64.wrap ((i : Int) + 1) = (i : Int) + 1 := IntWalk.i64_in _ (by omega)
          go_upto_region 16 with (go_at_call 20; (refine OFC.out.mono ?_); rintro e w6 ⟨rfl, b6⟩; have HQ6 := Lib.hid (HQ.out.below b6); clear b6)
          refine gen_world (fun w => Own2 w1 b r kk Lc gA (gA + 1) (allP kk Lc i) w ∧ Blk4 w w6.heap.size (wd (ofP kk Lc i) 0) (wd (ofP kk Lc i) 1) (wd (ofP kk Lc i) 2) (wd (ofP kk Lc i) 3)) ⟨HQ6.out.below (bw_alloc (Below.refl _ _) _), heap_alloc_new w6 _⟩ ?_
          intro V6 ⟨hv6, hx6⟩
          have H6 := Lib.hid hv6
          have HX6 := Lib.hid hx6
          have MK : Hid (∀ w', Below V6.heap.size V6 w' → (Below V6.heap.size V6 w' ∧ w'.cell? ⟨gA, 0, none⟩ = some (.int .u64 (wd (allP kk Lc i) 0)) ∧ w'.cell? ⟨gA, 1, none⟩ = some (.int .u64 (wd (allP kk Lc i) 1)) ∧ w'.cell? ⟨gA, 2, none⟩ = some (.int .u64 (wd (allP kk Lc i) 2)) ∧ w'.cell? ⟨gA, 3, none⟩ = some (.int .u64 (wd (allP kk Lc i) 3)) ∧ w'.cell? ⟨w6.heap.size, 0, none⟩ = some (.int .u64 (wd (ofP kk Lc i) 0)) ∧ w'.cell? ⟨w6.heap.size, 1, none⟩ = some (.int .u64 (wd (ofP kk Lc i) 1)) ∧ w'.cell? ⟨w6.heap.size, 2, none⟩ = some (.int .u64 (wd (ofP kk Lc i) 2)) ∧ w'.cell? ⟨w6.heap.size, 3, none⟩ = some (.int .u64 (wd (ofP kk Lc i) 3)) ∧ w'.cell? ⟨gA + 1, 0, none⟩ = some (.int .u64 0) ∧ w'.cell? ⟨gA + 1, 1, none⟩ = some (.int .u64 0) ∧ w'.cell? ⟨gA + 1, 2, none⟩ = some (.int .u64 0) ∧ w'.cell? ⟨gA + 1, 3, none⟩ = some (.int .u64 0))) := fun w' hb => by
            obtain ⟨x0, x1, x2, x3⟩ := (H6.out.al.below hb).cells
            obtain ⟨y0, y1, y2, y3⟩ := (HX6.out.below hb).cells
            obtain ⟨z0, z1, z2, z3⟩ := (H6.out.no.below hb).cells
            exact ⟨hb, x0, x1, x2, x3, y0, y1, y2, y3, z0, z1, z2, z3⟩
          have AN := Lib.hid (fun w (hw : Below V6.heap.size V6 w) => (rand_any (allP kk Lc i) (ofP kk Lc i) w).mono fun _ _ ⟨h1, h2⟩ => And.intro h1 (below_up hw h2))
          rw [allP_and, allP_and, allP_and, allP_and] at AN
          obtain ⟨_, x0, x1, x2, x3, y0, y1, y2, y3, z0, z1, z2, z3⟩ := MK.out V6 (Below.refl _ _)
          clear hv6 hx6 HQ HQ6 OFC
          go_cut [61] from 57 to 61 (fun u wx => u = .bool false ∧ Hid (Below V6.heap.size V6 wx))
          case first =>
            have bb := Below.refl V6.heap.size V6
            go_region_held3 (fun w' => Below V6.heap.size V6 w' ∧ w'.cell? ⟨gA, 0, none⟩ = some (.int .u64 (wd (allP kk Lc i) 0)) ∧ w'.cell? ⟨gA, 1, none⟩ = some (.int .u64 (wd (allP kk Lc i) 1)) ∧ w'.cell? ⟨gA, 2, none⟩ = some (.int .u64 (wd (allP kk Lc i) 2)) ∧ w'.cell? ⟨gA, 3, none⟩ = some (.int .u64 (wd (allP kk Lc i) 3)) ∧ w'.cell? ⟨w6.heap.size, 0, none⟩ = some (.int .u64 (wd (ofP kk Lc i) 0)) ∧ w'.cell? ⟨w6.heap.size, 1, none⟩ = some (.int .u64 (wd (ofP kk Lc i) 1)) ∧ w'.cell? ⟨w6.heap.size, 2, none⟩ = some (.int .u64 (wd (ofP kk Lc i) 2)) ∧ w'.cell? ⟨w6.heap.size, 3, none⟩ = some (.int .u64 (wd (ofP kk Lc i) 3)) ∧ w'.cell? ⟨gA + 1, 0, none⟩ = some (.int .u64 0) ∧ w'.cell? ⟨gA + 1, 1, none⟩ = some (.int .u64 0) ∧ w'.cell? ⟨gA + 1, 2, none⟩ = some (.int .u64 0) ∧ w'.cell? ⟨gA + 1, 3, none⟩ = some (.int .u64 0)) (exact MK.out _ (by repeat (first | (with_reducible assumption) | refine Below.drew ?_ | refine Below.alloc ?_ (by first | omega | (simp; omega)) _))) (first | (go_at_call 23; (with_reducible refine (AN.out _ (by repeat (first | (with_reducible assumption) | refine Below.drew ?_ | refine Below.alloc ?_ (by first | omega | (simp; omega)) _))).mono ?_); rintro e wx ⟨rfl, bx⟩; have sx := bx.size))
            all_goals
              go_wp2_with fail
              go_meet
              exact ⟨rfl, Lib.hid (by repeat (first | (with_reducible assumption) | refine Below.drew ?_ | refine Below.alloc ?_ (by first | omega | (simp; omega)) _))⟩
          case rest =>
            obtain ⟨rfl, HB7⟩ := hcut
            clear x0 x1 x2 x3 y0 y1 y2 y3 z0 z1 z2 z3 AN
            go_upto_region 18 with fail
            have H7 := Lib.hid (H6.out.below HB7.out)
            have HX7 := Lib.hid (HX6.out.below HB7.out)
            obtain ⟨x0, x1, x2, x3⟩ := H7.out.al.cells
            obtain ⟨y0, y1, y2, y3⟩ := HX7.out.cells
            have OR := Lib.hid (ror_any [allP kk Lc i, ofP kk Lc i] (by simp) 2 (some ⟨wc.heap.size, 0, none⟩) (wc.alloc (.cells #[.int .u64 (wd (allP kk Lc i) 0), .int .u64 (wd (allP kk Lc i) 1), .int .u64 (wd (allP kk Lc i) 2), .int .u64 (wd (allP kk Lc i) 3), .int .u64 (wd (ofP kk Lc i) 0), .int .u64 (wd (ofP kk Lc i) 1), .int .u64 (wd (ofP kk Lc i) 2), .int .u64 (wd (ofP kk Lc i) 3)] 37)) (sets_two (by simp) (heap_alloc_new wc _)))
            dsimp only [List.length_cons, List.length_nil] at OR
            rw [allP_next kk Lc hi0 (by omega), allP_next kk Lc hi0 (by omega), allP_next kk Lc hi0 (by omega), allP_next kk Lc hi0 (by omega)] at OR
            have HA := Lib.hid (H7.out.below (bw_alloc (Below.refl wc.heap.size wc) (.cells #[.int .u64 (wd (allP kk Lc i) 0), .int .u64 (wd (allP kk Lc i) 1), .int .u64 (wd (allP kk Lc i) 2), .int .u64 (wd (allP kk Lc i) 3), .int .u64 (wd (ofP kk Lc i) 0), .int .u64 (wd (ofP kk Lc i) 1), .int .u64 (wd (ofP kk Lc i) 2), .int .u64 (wd (ofP kk Lc i) 3)] 37)))
            go_wp2_with (go_at_call 24; (refine OR.out.mono ?_); rintro e w9 ⟨rfl, b9⟩; have H9 := Lib.hid (HA.out.below b9); obtain ⟨s0, s1, s2, s3, t0, t1, t2, t3⟩ := H9.out.al.four; clear b9)
            have HN := Lib.hid (H9.out.put (allP kk Lc (i + 1)) (wd (allP kk Lc (i + 1))) (fun _ => rfl))
            go_roundw
            case rel => exact ⟨i + 1, by omega, by omega, by go_num, HN⟩
            case measure => simp [intOf]; omega
        · obtain rfl : i = 17 := by omega
          go_wp2_with fail
          go_meet
          exact HQ
    case rest =>
      have H5 := hcut
      clear hcut H4
      go_upto_block 4 with fail
      go_wp2_with fail
      go_loopw [13, 14] (fun u v wr => ∃ i : Nat, i ≤ kk ∧ u = .int .i64 i ∧ Hid (Own2 w1 b r kk Lc gA (gA + 1) (allP kk Lc 17) wr)) (fun u _ _ => (kk - intOf u).toNat)
      case atStart => exact ⟨0, by omega, rfl, H5⟩
      case round =>
        obtain ⟨i, hi, rfl, HQ⟩ := hrel
        clear H5
        obtain ⟨x0, x1, x2, x3⟩ := HQ.out.al.cells
        by_cases hlt : i < kk
        · have hi1 : (i : Int) < (kk : Int) := by omega
          have hi4 : IntKind.i64.wrap ((i : Int) + 1) = (i : Int) + 1 := IntWalk.i64_in _ (by omega)
          have HC := Lib.hid (fun w => rhas_any (allP kk Lc 17) (i : Int) w)
          rw [allP_has kk Lc HB.out hlt hkk] at HC
          have OC := Lib.hid (fun w (hw : Below wr.heap.size wr w) => cowner_any (HQ.out.own.ch.below hw) (i : Int))
          rw [show ownL kk Lc (i : Int) = Lc i by unfold ownL; rw [if_pos (show okSet kk (i : Int) from ⟨by omega, by omega⟩), Int.toNat_natCast]] at OC
          generalize Lc i = y at HC OC
          obtain ⟨q, hq⟩ : ∃ q, (y != 0) = q := ⟨_, rfl⟩
          rw [show (!(y == 0)) = q from hq] at HC
          go_upto_region 23 with (go_at_call 25; (refine (HC.out _).mono ?_); rintro e w6 ⟨rfl, b6⟩; have H6 := Lib.hid b6; clear b6)
          cases q
          all_goals
            go_wp2_with (go_at_call 18; (refine (OC.out _ H6.out).mono ?_); rintro e w7 ⟨rfl, rfl⟩)
            go_roundw
            case rel => exact ⟨i + 1, by omega, by go_num, HQ.out.below H6.out⟩
            case measure => simp [intOf]; omega
        · obtain rfl : i = kk := by omega
          have hi1 : ¬ (i : Int) < (i : Int) := by omega
          have FC := Lib.hid (cflush_any HQ.out.own.ch)
          go_upto_region 26 with (go_at_call 14; (refine FC.out.mono ?_); rintro e w8 ⟨rfl, hc8, ht8⟩; have H8 := Lib.hid (HQ.out.turn ht8 hc8); clear hc8 ht8)
          refine gen_world (Own2 w1 b r i (fun _ => 0) gA (gA + 1) (allP i Lc 17)) H8.out ?_
          intro V8 hv8
          have H9 := Lib.hid hv8
          have MK : Hid (∀ w', Below V8.heap.size V8 w' → (Below V8.heap.size V8 w' ∧ w'.cell? ⟨gA, 0, none⟩ = some (.int .u64 (wd (allP i Lc 17) 0)) ∧ w'.cell? ⟨gA, 1, none⟩ = some (.int .u64 (wd (allP i Lc 17) 1)) ∧ w'.cell? ⟨gA, 2, none⟩ = some (.int .u64 (wd (allP i Lc 17) 2)) ∧ w'.cell? ⟨gA, 3, none⟩ = some (.int .u64 (wd (allP i Lc 17) 3)) ∧ w'.cell? ⟨gA + 1, 0, none⟩ = some (.int .u64 0) ∧ w'.cell? ⟨gA + 1, 1, none⟩ = some (.int .u64 0) ∧ w'.cell? ⟨gA + 1, 2, none⟩ = some (.int .u64 0) ∧ w'.cell? ⟨gA + 1, 3, none⟩ = some (.int .u64 0))) := fun w' hb => by
            obtain ⟨x0, x1, x2, x3⟩ := (H9.out.al.below hb).cells
            obtain ⟨z0, z1, z2, z3⟩ := (H9.out.no.below hb).cells
            exact ⟨hb, x0, x1, x2, x3, z0, z1, z2, z3⟩
          have C1 : Hid (∀ w, Below V8.heap.size V8 w → Calls Try.prog 18 #[.pointer (some ⟨b, 0, none⟩), .int .i64 0] w fun e w' => e = .returned (.int .i64 (ownL i (fun _ => 0) 0)) ∧ Below V8.heap.size V8 w') := fun w hw => (cowner_any (H9.out.own.ch.below hw) 0).mono fun _ _ ⟨h1, h2⟩ => ⟨h1, by rw [h2]; exact hw⟩
          rw [show ownL i (fun _ => 0) 0 = 0 by unfold ownL; split <;> rfl] at C1
          have C2 := Lib.hid (fun w (hw : Below V8.heap.size V8 w) => (cof_any (H9.out.own.ch.below hw) 1).mono fun _ _ h => And.intro h.1 (below_up hw h.2))
          rw [ofP_zero i 1 (by omega), ofP_zero i 1 (by omega), ofP_zero i 1 (by omega), ofP_zero i 1 (by omega)] at C2
          have C3 := Lib.hid (fun w (hw : Below V8.heap.size V8 w) => (rlen_any (allP i Lc 17) w).mono fun _ _ ⟨h1, h2⟩ => And.intro h1 (below_up hw h2))
          have hle := allP_len i Lc 17 256
          generalize cntN (allP i Lc 17) 256 = c at C3 hle
          have hle2 : (c : Int) ≤ (i : Int) := by omega
          have d9 : decide ((c : Int) ≤ (i : Int)) = true := decide_eq_true hle2
          obtain ⟨_, x0, x1, x2, x3, z0, z1, z2, z3⟩ := MK.out V8 (Below.refl _ _)
          have bb := Below.refl V8.heap.size V8
          clear hv8 H8 HQ FC
          go_region_held3 (fun w' => Below V8.heap.size V8 w' ∧ w'.cell? ⟨gA, 0, none⟩ = some (.int .u64 (wd (allP i Lc 17) 0)) ∧ w'.cell? ⟨gA, 1, none⟩ = some (.int .u64 (wd (allP i Lc 17) 1)) ∧ w'.cell? ⟨gA, 2, none⟩ = some (.int .u64 (wd (allP i Lc 17) 2)) ∧ w'.cell? ⟨gA, 3, none⟩ = some (.int .u64 (wd (allP i Lc 17) 3)) ∧ w'.cell? ⟨gA + 1, 0, none⟩ = some (.int .u64 0) ∧ w'.cell? ⟨gA + 1, 1, none⟩ = some (.int .u64 0) ∧ w'.cell? ⟨gA + 1, 2, none⟩ = some (.int .u64 0) ∧ w'.cell? ⟨gA + 1, 3, none⟩ = some (.int .u64 0)) (exact MK.out _ (by repeat (first | (with_reducible assumption) | refine Below.drew ?_ | refine Below.alloc ?_ (by first | omega | (simp; omega)) _))) (first
            | (go_at_call 18; (with_reducible refine (C1.out _ (by repeat (first | (with_reducible assumption) | refine Below.drew ?_ | refine Below.alloc ?_ (by first | omega | (simp; omega)) _))).mono ?_); rintro e wx ⟨rfl, bx⟩; have sx := bx.size)
            | (go_at_call 20; (with_reducible refine (C2.out _ (by repeat (first | (with_reducible assumption) | refine Below.drew ?_ | refine Below.alloc ?_ (by first | omega | (simp; omega)) _))).mono ?_); rintro e wx ⟨rfl, bx⟩; have sx := bx.size)
            | (go_at_call 26; (with_reducible refine (C3.out _ (by repeat (first | (with_reducible assumption) | refine Below.drew ?_ | refine Below.alloc ?_ (by first | omega | (simp; omega)) _))).mono ?_); rintro e wx ⟨rfl, bx⟩; have sx := bx.size))
          all_goals
            go_wp2
            go_ret
            exact ⟨rfl, below_up HL1.out (below_up H9.out.own.low (by repeat (first | (with_reducible assumption) | refine Below.drew ?_ | refine Below.alloc ?_ (by first | omega | (simp; omega)) _)))⟩
end Go.Proofs.Ytfifgojbihdhcaa

/-
  The row of the statement that each set belongs to one owner at most.
-/
namespace Go.Proofs.Ytfifgojbihdhcaa
open Go.RowKit Go.Maps
theorem row_owns (W : World) (sets : Int) (_ : (Lit.int .i64 sets).wf = true) (a : Option Addr) (n cap : Nat) (l : Nat → Int × Int) (hp : Pairs W a n l) :
    Calls Try.prog 5 #[.int .i64 sets, .slice a n cap] W fun e w' => e = .returned (.bool true) ∧ Below W.heap.size W w' := law_owns W sets a n cap l hp
end Go.Proofs.Ytfifgojbihdhcaa
