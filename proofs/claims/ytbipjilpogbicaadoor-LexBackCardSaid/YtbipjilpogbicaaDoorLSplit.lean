/-
  The walk over what tells the pieces of a text one by one; numbers of a text, as the program reads them.
-/
import Derived.Test.YtbipjilpogbicaaDoorLSeq
import Derived.Test.YtbipjilpogbicaaDoorLPcs
import Derived.Test.YtbipjilpogbicaaDoorLPair
import Derived.Test.YtbipjilpogbicaaDoorLNo
import Derived.Shelf.Abstract
import Derived.Shelf.RegionOpen
import Derived.OwnWalkIn
import Derived.TacticsInMore
import Derived.LoopNIn
import Derived.LoopIn
namespace Go.Proofs.YtbipjilpogbicaaDoor
open Go.RowKit Go.Maps Go.Shelf
attribute [local go_sem] Oper.semAt_some

/-- The text that is left. -/
abbrev TextBox (W : World) (b : Nat) (t : ByteArray) : Prop := Boxed W b 9 (.string t)
def StB (b : Nat) (X Y : World) : Prop := ∃ t u, TextBox X b t ∧ Y = X.setCell ⟨b, 0, none⟩ (.string u)
def KpB (b : Nat) (X Y : World) : Prop := ∀ (B : Nat) (T : TypeId) (v : Value), b ≤ B → B < b + 3 → T ≠ 2 → Boxed X B T v → Boxed Y B T v
theorem kpB_t {b : Nat} {A B C : World} (h : KpB b A B) (k : KpB b B C) : KpB b A C := fun _ _ _ h1 h2 h3 z => k _ _ _ h1 h2 h3 (h _ _ _ h1 h2 h3 z)
theorem kpB_b {b D : Nat} (W : World) (l : Nat) (o o' : Obj) (_ : D ≤ l) (h : W.heap[l]? = some o) (hc : o.isCells = false) (_ : o.isWalk = false) : KpB b W (W.putObj l o') := fun B T v _ _ _ z => by
  by_cases e : B = l
  · subst e
    rw [show W.heap[B]? = _ from z] at h
    cases h
    cases hc
  · exact (World.putObj_heap_other e).trans z
def boxLen (w : World) (b : Nat) : Nat := match w.cell? ⟨b, 0, none⟩ with
  | some (.string t) => t.size
  | _ => 0
theorem boxLen_of {w : World} {b : Nat} {t : ByteArray} (h : TextBox w b t) : boxLen w b = t.size := by unfold boxLen; rw [h.cell]
theorem sindex_any (r : ByteArray) (w : World) : Calls Tryd.prog 44 #[.string r, .string ⟨#[44]⟩] w fun e w' => e = .returned (.int .i64 (Lib.indexByte r.data.toList 44)) ∧ w' = w :=
  Tryd.strings_Index_one r 44 w

theorem sindex_fn : Fence.wide.fn 44 := trivial
set_option maxRecDepth 100000 in
set_option maxHeartbeats 4000000 in
theorem split_in (n : Nat) (hn : 1 ≤ n) (l b : Nat) (s : ByteArray) (hs : s.size ≤ 900000) (J Jx : List ByteArray → World → Prop) (W : World) (hJ : ∀ q X Y, J q X → StB b X Y → J q Y)
    (hY : ∀ pre x W1, x.size ≤ 900000 → J pre W1 → pre.length < s.size + 1 → YieldAt Fence.wide (n - 1) Tryd.prog l #[.string x] W1 fun e W' =>
      (e = .returned (.bool true) ∧ J (pre ++ [x]) W' ∧ KpB b W1 W') ∨ (e = .returned (.bool false) ∧ Jx (pre ++ [x]) W'))
    (hB0 : TextBox W b s) (hB1 : TextBox W (b + 1) ⟨#[44]⟩) (hB2 : Boxed W (b + 2) 3 (.int .i64 0)) (h0 : J [] W) :
    CallsIn Fence.wide n Tryd.prog 42 #[.func (.yield l) #[] #[], .pointer (some ⟨b + 1, 0, none⟩), .pointer (some ⟨b, 0, none⟩), .pointer (some ⟨b + 2, 0, none⟩)] W fun e W' => (∃ v, e = .returned v) ∧
      ((∃ ys, ys = pieces s ∧ J ys W') ∨ (∃ pre, pre <+: pieces s ∧ Jx pre W')) := by
  have HY := Lib.hid hY
  have HJ := Lib.hid hJ
  have q1 := hB1.cell
  have HB0 := Lib.hid hB0
  have HB1 := Lib.hid hB1
  have HB2 := Lib.hid hB2
  have H0 : Hid (J [] W) := h0
  have hcs : (⟨#[44]⟩ : ByteArray).size = 1 := rfl
  clear hY hJ hB0 hB1 hB2 h0
  refine callsIn_of_wp Tryd.func42 rfl trivial ?_ rfl
  simp only [Tryd.ntmps42, List.size_toArray, List.length_cons, List.length_nil, Nat.reduceAdd, Nat.reduceSub, Array.replicate_succ, Array.replicate_zero, List.push_toArray, List.append_toArray, List.nil_append, List.cons_append]
  gi_wp2
  gi_loopw [] (fun wr => ∃ f : Nat, f ≤ s.size ∧ Hid ((prun s f).2 = f) ∧ Hid (J (prun s f).1 wr) ∧ Hid (TextBox wr b (s.extract f s.size)) ∧ Hid (TextBox wr (b + 1) ⟨#[44]⟩) ∧ Hid (Boxed wr (b + 2) 3 (.int .i64 0))) (fun wr => boxLen wr b)
  case atStart =>
    refine ⟨0, by omega, rfl, H0, ?_, HB1, HB2⟩
    show TextBox W b _
    rw [ByteArray.extract_zero_size]
    exact HB0.out
  case round =>
    obtain ⟨f, hf, HF, HJ1, HT, HC, HV⟩ := hrel
    clear q1
    have q0 := HT.out.cell
    have q1 := HC.out.cell
    have q2 := HV.out.cell
    have hlen := prun_len s f
    have HLEN : Hid ((prun s f).1.length < s.size + 1) := by show _ < _; omega
    have hrs : (s.extract f s.size).size = s.size - f := by rw [ByteArray.size_extract]; omega
    have hpc := fun i => piece_step s (i := i) HF.out hf
    have hpl := piece_last s HF.out hf
    obtain ⟨r, hr⟩ : ∃ r, s.extract f s.size = r := ⟨_, rfl⟩
    obtain ⟨done, hdn⟩ : ∃ d, (prun s f).1 = d := ⟨_, rfl⟩
    rw [hr] at HT q0 hrs hpl
    rw [hdn] at HJ1 HLEN hpl
    simp only [hr, hdn] at hpc
    have IX := Lib.hid (fun w => sindex_any r w)
    clear hlen hr hdn
    rcases index_spec r 44 with ⟨hno, hi⟩ | ⟨i, hfi, hi⟩
    · have HP : Hid (pieces s = done ++ [r]) := hpl hno
      rw [hi] at IX
      obtain ⟨fn, tmps, assign, body, hy, hR⟩ := HY.out done r wr (by omega) HJ1.out HLEN.out
      have hR := Lib.hid hR
      clear hpc hpl hno hi
      gi_wp2_with ((with_reducible refine And.intro (a := Fence.wide.fn 44) sindex_fn ?_); gi_at_call 44; (refine (callsIn_wide.2 (IX.out _)).mono ?_); rintro e w' ⟨rfl, rfl⟩)
      refine hR.out.mono ?_
      rintro e W3 (⟨rfl, hJ3, hk3⟩ | ⟨rfl, hJx3⟩)
      · have HG : Hid (J (pieces s) W3) := by show J _ _; rw [HP.out]; exact hJ3
        clear hJ3 hk3 hy
        gi_wp2
        go_end0
        first | exact ⟨⟨_, rfl⟩, .inl ⟨_, rfl, HG.out⟩⟩ | exact ⟨⟨_, rfl⟩, .inl HG.out⟩
      · have HG : Hid (Jx (done ++ [r]) W3) := hJx3
        have HP2 : Hid (done ++ [r] <+: pieces s) := by show _ <+: _; rw [HP.out]; exact List.prefix_rfl
        clear hJx3 hy
        gi_wp2
        go_end0
        exact ⟨⟨_, rfl⟩, .inr ⟨_, HP2.out, HG.out⟩⟩
    · obtain ⟨g1, g2, g3⟩ := hpc i hfi
      have hir := hfi.1
      rw [hi] at IX
      have HG2 : Hid (prun s (f + i + 1) = (done ++ [r.extract 0 i], f + i + 1)) := g2
      have HG3 : Hid (r.extract (i + 1) r.size = s.extract (f + i + 1) s.size) := g3
      have HPX : Hid (done ++ [r.extract 0 i] <+: pieces s) := by
        show _ <+: _
        have := prun_pre s (f + i + 1) (s.size + 1) (by omega)
        rw [HG2.out] at this
        exact this
      obtain ⟨fn, tmps, assign, body, hy, hR⟩ := HY.out done (r.extract 0 i) wr (by rw [ByteArray.size_extract]; omega) HJ1.out HLEN.out
      have hR := Lib.hid hR
      have i0 : (0 : Int) ≤ (i : Int) := by omega
      have i1 : (i : Int) ≤ (r.size : Int) := by omega
      have i2 : (i : Int) + 1 ≤ (r.size : Int) := by omega
      have i3 : (0 : Int) ≤ (i : Int) + 1 := by omega
      have i4 : ¬ (i : Int) < 0 := by omega
      have hw0 : IntKind.i64.wrap (i : Int) = (i : Int) := IntWalk.i64_in _ (by omega)
      have hw1 : IntKind.i64.wrap ((i : Int) + 1) = (i : Int) + 1 := IntWalk.i64_in _ (by omega)
      have e1 : ((i : Int) + 1).toNat = i + 1 := by omega
      have HRS := Lib.hid hrs
      clear hpc hpl hfi hi g2 g3 hir hrs
      gi_wp2_with ((with_reducible refine And.intro (a := Fence.wide.fn 44) sindex_fn ?_); gi_at_call 44; (refine (callsIn_wide.2 (IX.out _)).mono ?_); rintro e w' ⟨rfl, rfl⟩)
      refine hR.out.mono ?_
      rintro e W3 (⟨rfl, hJ3, hk3⟩ | ⟨rfl, hJx3⟩)
      · have HT3 : Hid (TextBox W3 b r) := hk3 _ _ _ (by omega) (by omega) (by decide) HT.out
        have HC3 : Hid (TextBox W3 (b + 1) ⟨#[44]⟩) := hk3 _ _ _ (by omega) (by omega) (by decide) HC.out
        have HV3 : Hid (Boxed W3 (b + 2) 3 (.int .i64 0)) := hk3 _ _ _ (by omega) (by omega) (by decide) HV.out
        have HJ3 : Hid (J (done ++ [r.extract 0 i]) W3) := hJ3
        clear q0 q1 q2 hJ3 hk3 hy
        have q0 := HT3.out.cell
        have q1 := HC3.out.cell
        have q3 := HT3.out.frozen
        gi_wp2
        go_roundw
        case rel =>
          refine ⟨f + i + 1, g1, by show _ = _; rw [HG2.out], ?_, ?_, HC3.out.other (by omega) _, HV3.out.other (by omega) _⟩
          · show J _ _
            rw [HG2.out]
            exact HJ.out _ _ _ HJ3.out ⟨r, _, HT3.out, rfl⟩
          · show TextBox _ _ _
            rw [← HG3.out]
            exact HT3.out.set _
        case measure =>
          rw [boxLen_of HT.out, boxLen_of (HT3.out.set _), ByteArray.size_extract]
          have := HRS.out
          omega
      · have HG : Hid (Jx (done ++ [r.extract 0 i]) W3) := hJx3
        clear hJx3 hy
        gi_wp2
        refine bodyPost_ret (results_none rfl _ _ _) rfl ?_
        exact ⟨⟨_, rfl⟩, .inr ⟨_, HPX.out, HG.out⟩⟩
end Go.Proofs.YtbipjilpogbicaaDoor
