/- Texts of this claim, put together: LW1, LW8, LW2, LW3, LW4, KW7, KW8, KW5, KW9, KW10, KW16, KChk, YDef, YMem, ZOpen, YAs. -/
import Derived.Test.YtlpffgmfgkleiaaGreatDoorRows
import Derived.Test.YtlpffgmfgkleiaaGreatDoorMZ1
import Derived.Maps.Views
import Derived.Recover
import Derived.Tactics2
import Derived.ProofKit
import Derived.OpenShut
import Derived.Deep.Slices
import Derived.Lib.SmallJoins
import Derived.Deep.DeepHandedRow
set_option linter.unusedVariables false
set_option linter.unusedSimpArgs false

/-
  The walk over the document's words of a text.
-/
namespace Go.Proofs.YtlpffgmfgkleiaaGreatDoor
open Go.RowKit Go.Maps

/-- A row of words of one's own that comes back. -/
def WordsBack (l : List WV) (w : World) (e : Ending) (w' : World) : Prop :=
  ∃ (a : Option Addr) (c : Nat), e = .returned (.slice a l.length c) ∧ OwnW w' w.heap.size (.slice a l.length c) l ∧ Below w.heap.size w w'
theorem wstep_go (s : ByteArray) (i : Nat) (q : LS) {c : Nat} (hc : byteAt s i = c) {O K : Bool} (hO : (q.off || decide (c = 35)) = O) (hK : decide (c = 10 ∨ O = true ∨ c = 32 ∨ c = 9) = K) :
    wstep s i q = if K = true then ⟨if q.fr < 0 then q.out else q.out ++ [⟨q.fr, q.ln, s.extract q.fr.toNat i⟩], if c = 10 then q.ln + 1 else q.ln, -1, if c = 10 then false else O⟩ else ⟨q.out, q.ln, if q.fr < 0 then (i : Int) else q.fr, q.off⟩ := by
  subst hc hO hK
  unfold wstep
  simp only [decide_eq_true_eq]
theorem grown_wnew {W w3 w4 : World} {B : Nat} {v : Value} {l : List WV} (hb : Below B W w3) (ho : OwnW w3 B v l) (hB : B ≤ w3.heap.size) (hg : w3.grownBy w4 v.ownBlock) : Below B W w4 :=
  hb.grown hg hB (fun k hk => (ho.new hk).1)

set_option maxRecDepth 100000 in
set_option maxHeartbeats 4000000 in
theorem rwords_any (s : ByteArray) (hs : s.size ≤ 1050000) (w : World) : Calls Tryz.prog 10 #[.string s] w (WordsBack (wordsOf s) w) := by
  go_enter Tryz.func10, Tryz.ntmps10
  go_wp2_with fail
  go_loopw [3, 4, 5, 6, 7] (fun v l f o u wr => ∃ (i m : Nat) (a' : Option Addr) (cp' : Nat) (q : LS), i ≤ s.size + 1 ∧ m ≤ i ∧ 1 ≤ q.ln ∧ q.ln ≤ (i : Int) + 1 ∧ -1 ≤ q.fr ∧ q.fr < i ∧ u = .int .i64 i ∧ o = .bool q.off ∧ f = .int .i64 q.fr ∧ l = .int .i64 q.ln ∧ v = .slice a' m cp' ∧ Hid (q.out.length = m) ∧ Hid (wrun s i = q) ∧ Hid (Below w.heap.size w wr) ∧ Hid (OwnW wr w.heap.size (.slice a' m cp') q.out)) (fun _ _ _ _ u _ => (s.size + 1 - intOf u).toNat)
  case atStart => exact ⟨0, 0, _, _, ⟨[], 1, -1, false⟩, by omega, by omega, by simp, by simp, by simp, by simp, rfl, rfl, rfl, rfl, rfl, rfl, rfl, Below.refl _ _, OwnW.nil _ _⟩
  case round =>
    obtain ⟨i, m, a', cp', q, hi, hm, hl1, hl2, hf1, hf2, rfl, rfl, rfl, rfl, rfl, HQL, HQ, HB, HP⟩ := hrel
    by_cases hlt : i ≤ s.size
    · have hk1 : (i : Int) ≤ (s.size : Int) := by omega
      have hk0 : (0 : Int) ≤ (i : Int) := by omega
      obtain ⟨c, hc⟩ : ∃ c, byteAt s i = c := ⟨_, rfl⟩
      obtain ⟨E, hE⟩ : ∃ E, decide (c = 10) = E := ⟨_, rfl⟩
      obtain ⟨N, hN⟩ : ∃ N, decide (c = 35) = N := ⟨_, rfl⟩
      obtain ⟨O, hO⟩ : ∃ O, (q.off || decide (c = 35)) = O := ⟨_, rfl⟩
      obtain ⟨K, hK⟩ : ∃ K, decide (c = 10 ∨ O = true ∨ c = 32 ∨ c = 9) = K := ⟨_, rfl⟩
      have HST := Lib.hid (wstep_go s i q hc hO hK)
      have HC := Lib.hid hc
      have HE := Lib.hid hE
      have HO : Hid ((q.off || N) = O) := by show _ = _; rw [← hN]; exact hO
      have HNN := Lib.hid hN
      have HK := Lib.hid hK
      have HIN : Hid (∀ h : i < s.size, s[i].toNat = c) := fun h => by
        rw [← hc]; exact (byteAt_in s h).2.symm
      have HIE : Hid (¬ i < s.size → c = 10) := fun h => by rw [← hc]; exact byteAt_end s (by omega)
      clear hc hE hO hK hN
      go_upto_region 8 with fail
      go_cut [8] from 15 to 24 (fun u wx => u = .bool E ∧ Hid (Below w.heap.size w wx) ∧ Hid (OwnW wx w.heap.size (.slice a' m cp') q.out))
      case first =>
        cases E with
        | true =>
          have hc10 : c = 10 := by have := HE.out; simpa using this
          by_cases hin : i < s.size
          · have d1 : ((i : Int) == (s.size : Int)) = false := by rw [beq_eq_false_iff_ne]; omega
            have d2 : ((s[i].toNat : Int) == 10) = true := by rw [beq_iff_eq, HIN.out hin]; omega
            clear hc10
            go_wp2_with fail
            go_meet
            exact ⟨rfl, HB, HP⟩
          · have d1 : ((i : Int) == (s.size : Int)) = true := by rw [beq_iff_eq]; omega
            clear hin hc10
            go_wp2_with fail
            go_meet
            exact ⟨rfl, HB, HP⟩
        | false =>
          have hc10 : ¬ c = 10 := by have := HE.out; simpa using this
          have hin : i < s.size := Decidable.byContradiction fun h => hc10 (HIE.out h)
          have d1 : ((i : Int) == (s.size : Int)) = false := by rw [beq_eq_false_iff_ne]; omega
          have d2 : ((s[i].toNat : Int) == 10) = false := by rw [beq_eq_false_iff_ne, HIN.out hin]; omega
          clear hc10
          go_wp2_with fail
          go_meet
          exact ⟨rfl, HB, HP⟩
      case rest =>
        clear HB HP
        obtain ⟨rfl, HB, HP⟩ := hcut
        go_upto_region 9 with fail
        go_cut [32] from 25 to 32 (fun u wx => u = .bool N ∧ Hid (Below w.heap.size w wx) ∧ Hid (OwnW wx w.heap.size (.slice a' m cp') q.out))
        case first =>
          cases E with
          | true =>
            have HH35 : Hid (decide (c = 35) = false) := by show _ = _; have := HE.out; simp at this; exact decide_eq_false (by omega)
            go_wp2_with fail
            go_meet
            exact ⟨by rw [← HNN.out, HH35.out], HB, HP⟩
          | false =>
            have hc10 : ¬ c = 10 := by have := HE.out; simpa using this
            have hin : i < s.size := Decidable.byContradiction fun h => hc10 (HIE.out h)
            by_cases h35 : c = 35
            · have d2 : ((s[i].toNat : Int) == 35) = true := by rw [beq_iff_eq, HIN.out hin]; omega
              have H35 := Lib.hid (decide_eq_true h35)
              clear hc10 h35
              go_wp2_with fail
              go_meet
              exact ⟨by rw [← HNN.out, H35.out], HB, HP⟩
            · have d2 : ((s[i].toNat : Int) == 35) = false := by rw [beq_eq_false_iff_ne, HIN.out hin]; omega
              have H35 := Lib.hid (decide_eq_false h35)
              clear hc10 h35
              go_wp2_with fail
              go_meet
              exact ⟨by rw [← HNN.out, H35.out], HB, HP⟩
        case rest =>
          clear HB HP
          obtain ⟨rfl, HB, HP⟩ := hcut
          go_upto_if 32 with fail
          go_cut [6] from 33 to 33 (fun u wx => u = .bool O ∧ Hid (Below w.heap.size w wx) ∧ Hid (OwnW wx w.heap.size (.slice a' m cp') q.out))
          case first =>
            cases N with
            | true =>
              have HOO : Hid (O = true) := by show _ = _; rw [← HO.out, Bool.or_true]
              go_wp2_with fail
              go_meet
              exact ⟨by rw [HOO.out], HB, HP⟩
            | false =>
              have HOO : Hid (O = q.off) := by show _ = _; rw [← HO.out, Bool.or_false]
              go_wp2_with fail
              go_meet
              exact ⟨by rw [HOO.out], HB, HP⟩
          case rest =>
            clear HB HP
            obtain ⟨rfl, HB, HP⟩ := hcut
            go_upto_region 11 with fail
            go_cut [48] from 33 to 48 (fun u wx => u = .bool K ∧ Hid (Below w.heap.size w wx) ∧ Hid (OwnW wx w.heap.size (.slice a' m cp') q.out))
            case first =>
              cases E with
              | true =>
                have HKK : Hid (K = true) := by
                  show _ = _; rw [← HK.out]
                  have := HE.out; simp at this
                  exact decide_eq_true (.inl this)
                go_wp2_with fail
                go_meet
                exact ⟨by rw [HKK.out], HB, HP⟩
              | false =>
                have hc10 : ¬ c = 10 := by have := HE.out; simpa using this
                have hin : i < s.size := Decidable.byContradiction fun h => hc10 (HIE.out h)
                cases O with
                | true =>
                  have HKK : Hid (K = true) := by
                    show _ = _; rw [← HK.out]; exact decide_eq_true (.inr (.inl rfl))
                  clear hc10
                  go_wp2_with fail
                  go_meet
                  exact ⟨by rw [HKK.out], HB, HP⟩
                | false =>
                  by_cases h32 : c = 32
                  · have d2 : ((s[i].toNat : Int) == 32) = true := by rw [beq_iff_eq, HIN.out hin]; omega
                    have HKK : Hid (K = true) := by
                      show _ = _; rw [← HK.out]; exact decide_eq_true (.inr (.inr (.inl h32)))
                    clear hc10 h32
                    go_wp2_with fail
                    go_meet
                    exact ⟨by rw [HKK.out], HB, HP⟩
                  · have d2 : ((s[i].toNat : Int) == 32) = false := by rw [beq_eq_false_iff_ne, HIN.out hin]; omega
                    by_cases h9 : c = 9
                    · have d3 : ((s[i].toNat : Int) == 9) = true := by rw [beq_iff_eq, HIN.out hin]; omega
                      have HKK : Hid (K = true) := by
                        show _ = _; rw [← HK.out]; exact decide_eq_true (.inr (.inr (.inr h9)))
                      clear hc10 h32 h9
                      go_wp2_with fail
                      go_meet
                      exact ⟨by rw [HKK.out], HB, HP⟩
                    · have d3 : ((s[i].toNat : Int) == 9) = false := by rw [beq_eq_false_iff_ne, HIN.out hin]; omega
                      have HKK : Hid (K = false) := by
                        show _ = _; rw [← HK.out]; exact decide_eq_false (by rintro (q | q | q | q) <;> first | exact hc10 q | exact h32 q | exact h9 q | cases q)
                      clear hc10 h32 h9
                      go_wp2_with fail
                      go_meet
                      exact ⟨by rw [HKK.out], HB, HP⟩
            case rest =>
              clear HB HP
              obtain ⟨rfl, HB, HP⟩ := hcut
              cases K with
              | true =>
                obtain ⟨F, hF⟩ : ∃ F, decide (0 ≤ q.fr) = F := ⟨_, rfl⟩
                go_upto_if 50 with fail
                have HF := Lib.hid hF
                clear hF
                obtain ⟨out', ho'⟩ : ∃ o, (if q.fr < 0 then q.out else q.out ++ [(⟨q.fr, q.ln, s.extract q.fr.toNat i⟩ : WV)]) = o := ⟨_, rfl⟩
                have HOUT := Lib.hid ho'
                clear ho'
                go_cut [3] from 51 to 60 (fun u wx => ∃ (m2 : Nat) (a2 : Option Addr) (c2 : Nat), u = .slice a2 m2 c2 ∧ m2 ≤ i + 1 ∧ Hid (out'.length = m2) ∧ Hid (Below w.heap.size w wx) ∧ Hid (OwnW wx w.heap.size (.slice a2 m2 c2) out'))
                case first =>
                  cases F with
                  | false =>
                    have hf : q.fr < 0 := by have := HF.out; simp at this; exact this
                    have ho := HOUT.out
                    rw [if_pos hf] at ho
                    subst ho
                    clear HOUT
                    go_wp2_with fail
                    go_meet
                    exact ⟨m, a', cp', rfl, by omega, HQL, HB, HP⟩
                  | true =>
                    have hf9 : 0 ≤ q.fr := by have := HF.out; simpa using this
                    have hf : ¬ q.fr < 0 := by omega
                    have hf8 : q.fr ≤ (i : Int) := by omega
                    have ho := HOUT.out
                    rw [if_neg hf] at ho
                    have HOO := Lib.hid ho
                    have HSM : Hid (q.out.length + 1 ≤ 2000000) := by show _ ≤ _; rw [HQL.out]; omega
                    have HNL : Hid (q.out.length + 1 = m + 1) := by show _ = _; rw [HQL.out]
                    have HL2 : Hid (out'.length = m + 1) := by show _ = _; rw [← ho, List.length_append, HQL.out]; rfl
                    clear HOUT ho hf
                    go_wp2_with (at_builtin; refine wp_wappend (m := 1) (l := [(⟨q.fr, q.ln, s.extract q.fr.toNat i⟩ : WV)]) rfl _ _ rfl rfl rfl (HP.out.below (by repeat (first | exact Below.refl _ _ | (with_reducible assumption) | refine bw_alloc ?_ _ | refine bw_drew ?_))) (Nat.le_trans HB.out.size ((by repeat (first | exact Below.refl _ _ | (with_reducible assumption) | refine bw_alloc ?_ _ | refine bw_drew ?_)) : Below wc.heap.size wc _).size) (WView.of_at (wat_new _ ⟨q.fr, q.ln, s.extract q.fr.toNat i⟩ _)) rfl HSM.out (fun z => by cases z) (m + 1) HNL.out ?_; intro a3 k3 w3 o3 g3 l3; have HN3 := Lib.hid (HOO.out ▸ o3); have HB3 := Lib.hid (grown_wnew (below_up HB.out ((by repeat (first | exact Below.refl _ _ | (with_reducible assumption) | refine bw_alloc ?_ _ | refine bw_drew ?_)) : Below wc.heap.size wc _)) (HP.out.below ((by repeat (first | exact Below.refl _ _ | (with_reducible assumption) | refine bw_alloc ?_ _ | refine bw_drew ?_)) : Below wc.heap.size wc _)) (Nat.le_trans HB.out.size ((by repeat (first | exact Below.refl _ _ | (with_reducible assumption) | refine bw_alloc ?_ _ | refine bw_drew ?_)) : Below wc.heap.size wc _).size) g3); clear o3 g3 l3)
                    go_meet
                    exact ⟨m + 1, a3, k3, rfl, by omega, HL2, HB3, HN3⟩
                case rest =>
                  clear HB HP HQL
                  obtain ⟨m2, a2, c2, rfl, hm2, HQL, HB, HP⟩ := hcut
                  have hw1 : IntKind.i64.wrap (q.ln + 1) = q.ln + 1 := IntWalk.i64_in _ (by omega)
                  have hwi : IntKind.i64.wrap ((i : Int) + 1) = (i : Int) + 1 := IntWalk.i64_in _ (by omega)
                  cases E with
                  | true =>
                    have HS2 : Hid (wrun s (i + 1) = ⟨out', q.ln + 1, -1, false⟩) := by
                      have h10 : c = 10 := by have := HE.out; simpa using this
                      show _ = _
                      rw [wrun, HQ.out, HST.out, if_pos rfl, HOUT.out, if_pos h10, if_pos h10]
                    go_wp2_with fail
                    go_roundw
                    case rel => exact ⟨i + 1, m2, a2, c2, ⟨out', q.ln + 1, -1, false⟩, by omega, by omega, by simp only []; omega, by simp only []; omega, by simp only []; omega, by simp only []; omega, by go_num, rfl, rfl, rfl, rfl, HQL, HS2, HB, HP⟩
                    case measure => simp [intOf]; omega
                  | false =>
                    have HS2 : Hid (wrun s (i + 1) = ⟨out', q.ln, -1, O⟩) := by
                      have h10 : ¬ c = 10 := by have := HE.out; simpa using this
                      show _ = _
                      rw [wrun, HQ.out, HST.out, if_pos rfl, HOUT.out, if_neg h10, if_neg h10]
                    go_wp2_with fail
                    go_roundw
                    case rel => exact ⟨i + 1, m2, a2, c2, ⟨out', q.ln, -1, O⟩, by omega, by omega, by simp only []; omega, by simp only []; omega, by simp only []; omega, by simp only []; omega, by go_num, rfl, rfl, rfl, rfl, HQL, HS2, HB, HP⟩
                    case measure => simp [intOf]; omega
              | false =>
                have HEF : Hid (E = false ∧ O = false) := by
                  have h := HK.out
                  rw [decide_eq_false_iff_not] at h
                  have h1 : ¬ c = 10 := fun z => h (.inl z)
                  have h2 : ¬ O = true := fun z => h (.inr (.inl z))
                  exact ⟨by rw [← HE.out]; exact decide_eq_false h1, by simpa using h2⟩
                obtain ⟨rfl, rfl⟩ := HEF.out
                have HOF : Hid (q.off = false) := by
                  have := HO.out
                  simp only [Bool.or_eq_false_iff] at this
                  exact this.1
                clear HEF
                by_cases hf : q.fr < 0
                · have HS2 : Hid (wrun s (i + 1) = ⟨q.out, q.ln, (i : Int), false⟩) := by
                    show _ = _
                    rw [wrun, HQ.out, HST.out, if_neg (by simp), if_pos hf, HOF.out]
                  go_wp2_with fail
                  go_roundw
                  case rel => exact ⟨i + 1, m, a', cp', ⟨q.out, q.ln, (i : Int), false⟩, by omega, by omega, by simp only []; omega, by simp only []; omega, by simp only []; omega, by simp only []; omega, by go_num, rfl, rfl, rfl, rfl, HQL, HS2, HB, HP⟩
                  case measure => simp [intOf]; omega
                · have HS2 : Hid (wrun s (i + 1) = ⟨q.out, q.ln, q.fr, false⟩) := by
                    show _ = _
                    rw [wrun, HQ.out, HST.out, if_neg (by simp), if_neg hf, HOF.out]
                  go_wp2_with fail
                  go_roundw
                  case rel => exact ⟨i + 1, m, a', cp', ⟨q.out, q.ln, q.fr, false⟩, by omega, by omega, by simp only []; omega, by simp only []; omega, by simp only []; omega, by simp only []; omega, by go_num, rfl, rfl, rfl, rfl, HQL, HS2, HB, HP⟩
                  case measure => simp [intOf]; omega
    · obtain rfl : i = s.size + 1 := by omega
      have HD : Hid (q.out = wordsOf s) := by show _ = _; unfold wordsOf; rw [HQ.out]
      go_wp2_with fail
      go_ret
      exact ⟨a', cp', by rw [← HD.out, HQL.out]; rfl, by rw [← HD.out, HQL.out]; exact HP.out, HB.out⟩
end Go.Proofs.YtlpffgmfgkleiaaGreatDoor

/-
  The walk over the document's lines of words.
-/
namespace Go.Proofs.YtlpffgmfgkleiaaGreatDoor
open Go.RowKit Go.Maps

def lnAt (L : List WV) (i : Nat) : Int := (L[i]?.map WV.ln).getD 0
theorem lnAt_of {L : List WV} {i : Nat} {x : WV} (h : L[i]? = some x) : lnAt L i = x.ln := by unfold lnAt; rw [h]; rfl
/-- The lines that the first words make. -/
def lrun (L : List WV) : Nat → List (List WV)
  | 0 => []
  | i + 1 => if i = 0 ∨ lnAt L i ≠ lnAt L (i - 1) then lrun L i ++ [L[i]?.toList] else (lrun L i).dropLast ++ [((lrun L i).getLast?.getD []) ++ L[i]?.toList]
def linesOf (s : ByteArray) : List (List WV) := lrun (wordsOf s) (wordsOf s).length
theorem lrun_len (L : List WV) : ∀ i, (lrun L i).length ≤ i
  | 0 => Nat.le_refl _
  | i + 1 => by
    have := lrun_len L i
    rw [lrun]; split <;> simp <;> omega
theorem lrun_each (L : List WV) : ∀ i, ∀ g ∈ lrun L i, g.length ≤ i
  | 0, g, h => by simp [lrun] at h
  | i + 1, g, h => by
    have ih := lrun_each L i
    have hx : (L[i]?.toList).length ≤ 1 := by cases L[i]? <;> simp
    rw [lrun] at h
    split at h
    · rcases List.mem_append.1 h with q | q
      · have := ih g q; omega
      · simp at q; subst q; omega
    · rcases List.mem_append.1 h with q | q
      · have := ih g (List.dropLast_subset _ q); omega
      · simp only [List.mem_singleton] at q
        subst q
        rw [List.length_append]
        have : ((lrun L i).getLast?.getD []).length ≤ i := by
          cases e : (lrun L i).getLast? with
          | none => simp
          | some z => exact ih z (List.mem_of_getLast? e)
        omega
theorem lrun_some (L : List WV) {i : Nat} (h : 0 < i) : lrun L i ≠ [] := by
  obtain ⟨j, rfl⟩ : ∃ j, i = j + 1 := ⟨i - 1, by omega⟩
  rw [lrun]; split <;> simp
/-- The row of lines and its last one, that the next word goes to. -/
def NextRow (L : List WV) (i : Nat) (x : WV) (N : Bool) (G0 : List (List WV)) (y : List WV) : Prop :=
  lrun L (i + 1) = G0 ++ [y ++ [x]] ∧ if N = true then G0 = lrun L i ∧ y = [] else 0 < i ∧ lnAt L i = lnAt L (i - 1) ∧ lrun L i = G0 ++ [y]
theorem next_row (L : List WV) (i : Nat) (x : WV) (hx : L[i]? = some x) (N : Bool) (hN : decide (i = 0 ∨ lnAt L i ≠ lnAt L (i - 1)) = N) : ∃ G0 y, NextRow L i x N G0 y := by
  unfold NextRow
  rw [lrun, hx]
  by_cases h : i = 0 ∨ lnAt L i ≠ lnAt L (i - 1)
  · rw [decide_eq_true h] at hN
    subst hN
    exact ⟨lrun L i, [], by rw [if_pos h]; rfl, by rw [if_pos rfl]; exact ⟨rfl, rfl⟩⟩
  · rw [decide_eq_false h] at hN
    subst hN
    have h0 : 0 < i := by omega
    have hne := lrun_some L h0
    refine ⟨(lrun L i).dropLast, (lrun L i).getLast hne, ?_, ?_⟩
    · rw [if_neg h, List.getLast?_eq_some_getLast hne]; rfl
    · rw [if_neg (by simp)]
      refine ⟨h0, Decidable.byContradiction fun z => h (.inr z), ?_⟩
      exact (List.dropLast_concat_getLast hne).symm
/-- Where the walk is, the last line laid out. -/
def AtRow (W : World) (n : Nat) (G0 : List (List WV)) (y : List WV) (v : Value) (w : World) : Prop :=
  Below W.heap.size W w ∧ ∃ g c cs u, v = .slice (some ⟨g, 0, none⟩) n c ∧ Rows w W.heap.size v (cs ++ [u]) (G0 ++ [y])
/-- Rows of words that come back. -/
def LinesBack (G : List (List WV)) (w : World) (e : Ending) (w' : World) : Prop :=
  ∃ (a : Option Addr) (c B : Nat) (cs : List Value), e = .returned (.slice a G.length c) ∧ w.heap.size ≤ B ∧ Rows w' B (.slice a G.length c) cs G ∧ Below w.heap.size w w'
theorem rows_split {w : World} {B : Nat} {v : Value} {cs : List Value} {G0 : List (List WV)} {y : List WV} (h : Rows w B v cs (G0 ++ [y])) : ∃ cs0 u, cs = cs0 ++ [u] ∧ cs0.length = G0.length := by
  have hl := h.len
  rcases List.eq_nil_or_concat cs with q | ⟨cs0, u, q⟩
  · subst q; simp at hl
  · refine ⟨cs0, u, by rw [q, List.concat_eq_append], ?_⟩
    subst q; simp at hl; omega
theorem rows_at {w : World} {B : Nat} {v : Value} {cs : List Value} {u : Value} {G : List (List WV)} (h : Rows w B v (cs ++ [u]) G) : ∃ g c, v = .slice (some ⟨g, 0, none⟩) G.length c ∧ w.cell? ⟨g, cs.length, none⟩ = some u ∧ w.frozen? ⟨g, cs.length, none⟩ = false := by
  obtain ⟨a, c, e, _, _, hj⟩ := h.own.slice
  obtain ⟨g, rfl, h1, h2⟩ := hj cs.length u (by simp)
  exact ⟨g, c, by rw [e, h.len], h1, h2⟩

theorem at_more {W w w' : World} {v v' : Value} {cs : List Value} {G : List (List WV)} {p : Nat} (HB : Below W.heap.size W w) (h : Rows w W.heap.size v cs G) (o3 : OwnR w' W.heap.size v' (cs ++ [.slice none 0 0])) (g3 : w.grownBy w' v.ownBlock) (hn : G.length = p) : AtRow W (p + 1) G [] v' w' := by
  have hr := h.more o3 g3
  obtain ⟨g, c, e, _, _⟩ := rows_at hr
  rw [List.length_append, List.length_singleton, hn] at e
  exact ⟨HB.grown g3 HB.size (fun k hk => (h.own.new hk).1), g, c, cs, _, e, hr⟩
theorem at_same {W w : World} {v : Value} {cs : List Value} {G0 : List (List WV)} {y : List WV} {p : Nat} (HB : Below W.heap.size W w) (h : Rows w W.heap.size v cs (G0 ++ [y])) (hn : G0.length = p) : AtRow W (p + 1) G0 y v w := by
  obtain ⟨cs0, u, rfl, _⟩ := rows_split h
  obtain ⟨g, c, e, _, _⟩ := rows_at h
  rw [List.length_append, List.length_singleton, hn] at e
  exact ⟨HB, g, c, cs0, u, e, h⟩
/-- The last line grows, and is stored. -/
theorem row_grow {W w w' : World} {g n c p : Nat} {cs : List Value} {u u' : Value} {G0 : List (List WV)} {y z : List WV} (HB : Below W.heap.size W w) (h : Rows w W.heap.size (.slice (some ⟨g, 0, none⟩) n c) (cs ++ [u]) (G0 ++ [y])) (hn : G0.length = p) (hz : z.length = y.length + 1) (ho : OwnW w' W.heap.size u' z) (hg : w.grownBy w' u.ownBlock) (hk : ∀ k, u'.ownBlock = some k → u.ownBlock = some k ∨ w.heap.size ≤ k) :
    w'.cell? ⟨g, p, none⟩ = some u ∧ w'.frozen? ⟨g, p, none⟩ = false ∧ Rows (w'.setCell ⟨g, p, none⟩ u') W.heap.size (.slice (some ⟨g, 0, none⟩) n c) (cs ++ [u']) (G0 ++ [z]) ∧ Below W.heap.size W (w'.setCell ⟨g, p, none⟩ u') := by
  subst hn
  obtain ⟨a, d, e, _⟩ := ho.slice
  obtain ⟨hr, hB⟩ := h.grow hz ho ⟨a, d, e⟩ hg hk
  have hcl : cs.length = G0.length := by have := h.len; simpa using this
  obtain ⟨au, du, hu1, hu2⟩ := h.each G0.length y (by simp)
  have hu3 := hu1
  rw [← hcl] at hu1
  simp only [List.getElem?_concat_length, Option.some.injEq] at hu1
  have hou : OwnW w W.heap.size u y := by rw [hu1]; exact hu2
  have hro : OwnR w' W.heap.size (.slice (some ⟨g, 0, none⟩) n c) (cs ++ [u]) := h.own.grown hg (fun k hk e => rw_apart hou h.own e hk)
  obtain ⟨a6, c6, e6, _, _, hj⟩ := hro.slice
  obtain ⟨g6, e7, h1, h2⟩ := hj cs.length u (by simp)
  simp only [Value.slice.injEq] at e6
  rw [e7] at e6
  simp only [Option.some.injEq, Addr.mk.injEq] at e6
  obtain ⟨⟨rfl, _⟩, _⟩ := e6
  rw [hcl] at h1 h2
  exact ⟨h1, h2, hr, (HB.grown hg HB.size (fun k hk => (hou.new hk).1)).setCell (p := ⟨g, G0.length, none⟩) hB _⟩
end Go.Proofs.YtlpffgmfgkleiaaGreatDoor

/-
  The walks over texts that are cut, and over pairs.
-/
namespace Go.Proofs.YtlpffgmfgkleiaaGreatDoor
open Go.RowKit Go.Maps

def shortOf (s : ByteArray) (n : Nat) : ByteArray := if n < s.size then s.extract 0 n else s
set_option maxHeartbeats 1000000 in
theorem short_any (s : ByteArray) (n : Nat) (hn : (n : Int) ≤ 2000000) (w : World) : Calls Tryz.prog 11 #[.string s, .int .i64 n] w fun e w' => e = .returned (.string (shortOf s n)) ∧ w = w' := by
  unfold shortOf
  by_cases h : n < s.size
  · rw [if_pos h]
    have h1 : (n : Int) < (s.size : Int) := by omega
    have h2 : (n : Int) ≤ (s.size : Int) := by omega
    go_enter Tryz.func11, Tryz.ntmps11
    go_wp2
    go_ret
    exact ⟨rfl, rfl⟩
  · rw [if_neg h]
    have h1 : ¬ (n : Int) < (s.size : Int) := by omega
    go_enter Tryz.func11, Tryz.ntmps11
    go_wp2
    go_ret
    exact ⟨rfl, rfl⟩

/-- The first place of a byte. -/
def FirstByte (s : ByteArray) (c : Nat) (i : Nat) : Prop := i < s.size ∧ byteAt s i = c ∧ ∀ j, j < i → byteAt s j ≠ c
def NoByte (s : ByteArray) (c : Nat) : Prop := ∀ j, j < s.size → byteAt s j ≠ c
/-- A text without a line's end. -/
def LineIs (s t : ByteArray) : Prop := (NoByte s 10 ∧ t = s) ∨ ∃ i, FirstByte s 10 i ∧ t = s.extract 0 i
theorem zeroTwo (w : World) : (zeroValue 105).run Tryz.prog w = .ok (.agg #[.string ⟨#[]⟩, .string ⟨#[]⟩, .bool false]) w := by kernel_rfl
/-- What a pair is made of. -/
def PairIs (s : ByteArray) (x y : ByteArray) (b : Bool) : Prop :=
  (NoByte s 61 ∧ x = ⟨#[]⟩ ∧ y = ⟨#[]⟩ ∧ b = false) ∨ ∃ i, FirstByte s 61 i ∧ x = s.extract 0 i ∧ y = s.extract (i + 1) s.size ∧ b = true
def PairBack (s : ByteArray) (w : World) (e : Ending) (w' : World) : Prop := ∃ x y b, e = .returned (.agg #[.string x, .string y, .bool b]) ∧ PairIs s x y b ∧ Below w.heap.size w w'
set_option maxRecDepth 100000 in
set_option maxHeartbeats 2000000 in
theorem rpair_any (s : ByteArray) (hs : (s.size : Int) ≤ 9223372036854775807) (w : World) : Calls Tryz.prog 73 #[.string s] w (PairBack s w) := by
  have hz := zeroTwo
  go_enter Tryz.func73, Tryz.ntmps73
  go_upto_region 1 with fail
  refine gen_world (fun v => Below w.heap.size w v ∧ v.heap[w.heap.size]? = some (.cells #[.string ⟨#[]⟩, .string ⟨#[]⟩, .bool false] 105 (0, 0))) ⟨(by repeat (first | exact Below.refl _ _ | (with_reducible assumption) | refine bw_alloc ?_ _ | refine bw_drew ?_)), heap_alloc_new w _⟩ ?_
  intro W1 ⟨hl1, hb1⟩
  have HL := Lib.hid hl1
  have r0 : W1.cell? ⟨w.heap.size, 0, none⟩ = some (.string ⟨#[]⟩) := by rw [blk_cell hb1]; rfl
  have r1 : W1.cell? ⟨w.heap.size, 1, none⟩ = some (.string ⟨#[]⟩) := by rw [blk_cell hb1]; rfl
  have r2 : W1.cell? ⟨w.heap.size, 2, none⟩ = some (.bool false) := by rw [blk_cell hb1]; rfl
  have f0 := blk_free hb1 0
  have f1 := blk_free hb1 1
  have f2 := blk_free hb1 2
  have hr := lt_of_block hb1
  clear hl1 hb1
  go_wp2_with fail
  go_loop [3] (fun u => ∃ i : Nat, i ≤ s.size ∧ u = .int .i64 i ∧ Hid (∀ j, j < i → byteAt s j ≠ 61)) (fun u => (s.size - intOf u).toNat)
  case atStart => exact ⟨0, by omega, rfl, fun j hj => absurd hj (Nat.not_lt_zero _)⟩
  case round =>
    obtain ⟨i, hi, rfl, HS⟩ := hrel
    by_cases hlt : i < s.size
    · have hk1 : (i : Int) < (s.size : Int) := by omega
      have hk2 : (i : Int) ≤ (s.size : Int) := by omega
      have hk0 : (0 : Int) ≤ (i : Int) := by omega
      have hb := (byteAt_in s hlt).2
      by_cases hq : s[i].toNat = 61
      · have d1 : ((s[i].toNat : Int) == 61) = true := by rw [beq_iff_eq]; omega
        have HF : Hid (FirstByte s 61 i) := ⟨hlt, by rw [hb]; exact hq, HS.out⟩
        have hk3 : (i : Int) + 1 ≤ (s.size : Int) := by omega
        have hk4 : (0 : Int) ≤ (i : Int) + 1 := by omega
        clear hb hq
        have HD : Hid (∀ v, Below w.heap.size w v → PairBack s w (.returned (.agg #[.string (s.extract 0 i), .string (s.extract (i + 1) s.size), .bool true])) v) := fun v hv => ⟨_, _, _, rfl, .inr ⟨i, HF.out, rfl, rfl, rfl⟩, hv⟩
        have hwi : IntKind.i64.wrap ((i : Int) + 1) = ((i + 1 : Nat) : Int) := (IntWalk.i64_in _ (by omega)).trans (by omega)
        have hk5 : ((i + 1 : Nat) : Int) ≤ (s.size : Int) := by omega
        have hk6 : (0 : Int) ≤ ((i + 1 : Nat) : Int) := by omega
        clear hk3 hk4 HS
        go_upto_region 5 with fail
        go_region
        all_goals
          go_wp2_with fail
          exact bodyPost_ret (v := .agg #[.string (s.extract 0 i), .string (s.extract (i + 1) s.size), .bool true]) (by simp [results, Tryz.results73, go_sem, r0, r1, r2]) rfl (HD.out _ (((HL.out.drew.setCell (p := ⟨w.heap.size, 0, none⟩) (Nat.le_refl _) _).setCell (p := ⟨w.heap.size, 1, none⟩) (Nat.le_refl _) _).setCell (p := ⟨w.heap.size, 2, none⟩) (Nat.le_refl _) _))
      · have d1 : ((s[i].toNat : Int) == 61) = false := by rw [beq_eq_false_iff_ne]; omega
        have HS2 : Hid (∀ j, j < i + 1 → byteAt s j ≠ 61) := fun j hj => by
          rcases Nat.lt_or_ge j i with h | h
          · exact HS.out j h
          · have e : j = i := by omega
            subst e; rw [hb]; exact hq
        clear hb hq HS
        go_wp2_with fail
        go_round
        case rel => exact ⟨i + 1, by omega, by go_num, HS2⟩
        case measure => simp [intOf]; omega
    · have e : i = s.size := by omega
      have HN : Hid (NoByte s 61) := fun j hj => HS.out j (by omega)
      have hk1 : ¬ (i : Int) < (s.size : Int) := by omega
      clear e HS
      go_wp2_with fail
      exact bodyPost_ret (v := .agg #[.string ⟨#[]⟩, .string ⟨#[]⟩, .bool false]) (by simp [results, Tryz.results73, go_sem, r0, r1, r2]) rfl ⟨⟨#[]⟩, ⟨#[]⟩, false, rfl, .inl ⟨HN.out, rfl, rfl, rfl⟩, ((HL.out.setCell (p := ⟨w.heap.size, 0, none⟩) (Nat.le_refl _) _).setCell (p := ⟨w.heap.size, 1, none⟩) (Nat.le_refl _) _).setCell (p := ⟨w.heap.size, 2, none⟩) (Nat.le_refl _) _⟩
end Go.Proofs.YtlpffgmfgkleiaaGreatDoor

/-
  The walks over numbers of a text.
-/
namespace Go.Proofs.YtlpffgmfgkleiaaGreatDoor
open Go.RowKit Go.Maps

/-- The number that the first bytes are, if they are digits, and it is not too great. -/
def nrun (s : ByteArray) : Nat → Option Nat
  | 0 => some 0
  | i + 1 => match nrun s i with
    | none => none
    | some n => if byteAt s i < 48 ∨ 57 < byteAt s i ∨ (9223372036854775807 - (byteAt s i - 48)) / 10 < n then none else some (10 * n + (byteAt s i - 48))
def numOf (s : ByteArray) (most : Int) : Option Nat :=
  if s.size = 0 ∨ (1 < s.size ∧ byteAt s 0 = 48) then none else match nrun s s.size with
    | none => none
    | some n => if most < (n : Int) then none else some n
theorem nrun_small (s : ByteArray) : ∀ i n, nrun s i = some n → n ≤ 9223372036854775807
  | 0, n, h => by simp [nrun] at h; omega
  | i + 1, n, h => by
    rw [nrun] at h
    split at h
    · cases h
    · rename_i m _
      split at h
      · cases h
      · rename_i q
        simp only [not_or, Nat.not_lt] at q
        cases h
        omega
theorem nrun_none (s : ByteArray) {i : Nat} (h : nrun s i = none) : ∀ j, i ≤ j → nrun s j = none := by
  intro j hj
  induction j with
  | zero => have : i = 0 := by omega
            subst this; exact h
  | succ j ih =>
    rcases Nat.lt_or_ge j i with q | q
    · have : i = j + 1 := by omega
      subst this; exact h
    · rw [nrun, ih q]
theorem zeroNumb (w : World) : (zeroValue 99).run Tryz.prog w = .ok (.agg #[.int .i64 0, .bool false]) w := by kernel_rfl
/-- A number that comes back. -/
def NumB (o : Option Nat) (w : World) (e : Ending) (w' : World) : Prop :=
  e = .returned (.agg #[.int .i64 ((o.getD 0 : Nat) : Int), .bool o.isSome]) ∧ Below w.heap.size w w'
theorem loop_len (s : ByteArray) : ∀ (k i : Nat) (r : List UInt8), s.size - i = k → (ByteArray.toList.loop s i r).length = r.length + k
  | 0, i, r, h => by
    rw [ByteArray.toList.loop, if_neg (by omega)]; simp
  | k + 1, i, r, h => by
    rw [ByteArray.toList.loop, if_pos (by omega), loop_len s k (i + 1) _ (by omega)]
    simp only [List.length_cons]; omega
theorem nonempty (s : ByteArray) (h : ¬ s.size = 0) : s.toList.isEmpty = false := by
  have := loop_len s s.size 0 [] (by omega)
  cases e : s.toList with
  | nil =>
    have e2 : (ByteArray.toList.loop s 0 []).length = 0 := by
      show s.toList.length = 0
      rw [e]; rfl
    simp at this; omega
  | cons _ _ => rfl

set_option maxRecDepth 100000 in
set_option maxHeartbeats 4000000 in
theorem rnumber_any (s : ByteArray) (hs : (s.size : Int) ≤ 9223372036854775807) (most : Int) (w : World) : Calls Tryz.prog 49 #[.string s, .int .i64 most] w (NumB (numOf s most) w) := by
  have hz := zeroNumb
  by_cases h0 : s.size = 0
  · have hn : numOf s most = none := by unfold numOf; rw [if_pos (.inl h0)]
    rw [hn]
    have he : s = ⟨#[]⟩ := by
      obtain ⟨d⟩ := s
      have : d.size = 0 := h0
      rw [Array.eq_empty_of_size_eq_zero this]
    subst he
    clear hn h0
    go_enter Tryz.func49, Tryz.ntmps49
    go_wp2_with fail
    exact bodyPost_ret (v := .agg #[.int .i64 0, .bool false]) (by simp [results, Tryz.results49, go_sem]) rfl ⟨rfl, (by repeat (first | exact Below.refl _ _ | (with_reducible assumption) | refine bw_alloc ?_ _ | refine bw_drew ?_ | refine Below.setCell ?_ (by simp) _ | refine Below.setCell ?_ (by simp; omega) _))⟩
  · have hes := nonempty s h0
    have hp : 0 < s.size := by omega
    have h00 := (byteAt_in s hp).2
    by_cases hz0 : 1 < s.size ∧ byteAt s 0 = 48
    · have hn : numOf s most = none := by unfold numOf; rw [if_pos (.inr hz0)]
      rw [hn]
      have h1 : (1 : Int) < (s.size : Int) := by omega
      have h2 : 1 < s.size := hz0.1
      have d1 : ((s[0].toNat : Int) == 48) = true := by rw [beq_iff_eq]; omega
      clear hn hz0 h0 h00
      go_enter Tryz.func49, Tryz.ntmps49
      go_wp2_with fail
      exact bodyPost_ret (v := .agg #[.int .i64 0, .bool false]) (by simp [results, Tryz.results49, go_sem]) rfl ⟨rfl, (by repeat (first | exact Below.refl _ _ | (with_reducible assumption) | refine bw_alloc ?_ _ | refine bw_drew ?_ | refine Below.setCell ?_ (by simp) _ | refine Below.setCell ?_ (by simp; omega) _))⟩
    · have hn : numOf s most = match nrun s s.size with
        | none => none
        | some n => if most < (n : Int) then none else some n := by unfold numOf; rw [if_neg (by rintro (q | q); exact h0 q; exact hz0 q)]
      have HN := Lib.hid hn
      clear hn
      have hor : (1 < s.size ∧ ¬ s[0].toNat = 48) ∨ ¬ 1 < s.size := by omega
      rcases hor with ⟨h2, h3⟩ | h2
      all_goals
        first
          | (have d1 : ((s[0].toNat : Int) == 48) = false := by rw [beq_eq_false_iff_ne]; omega)
          | skip
        clear hz0 h0 h00
        go_enter Tryz.func49, Tryz.ntmps49
        go_upto_region 3 with fail
        clear hes
        refine gen_world (fun v => Below w.heap.size w v ∧ v.heap[w.heap.size]? = some (.cells #[.int .i64 0, .bool false] 99 (0, 0))) ⟨(by repeat (first | exact Below.refl _ _ | (with_reducible assumption) | refine bw_alloc ?_ _ | refine bw_drew ?_)), heap_alloc_new w _⟩ ?_
        intro W1 ⟨hl1, hb1⟩
        have HL := Lib.hid hl1
        have r0 : W1.cell? ⟨w.heap.size, 0, none⟩ = some (.int .i64 0) := by rw [blk_cell hb1]; rfl
        have r1 : W1.cell? ⟨w.heap.size, 1, none⟩ = some (.bool false) := by rw [blk_cell hb1]; rfl
        have f0 := blk_free hb1 0
        have f1 := blk_free hb1 1
        have hr := lt_of_block hb1
        have HD : Hid (∀ (x0 x1 : Value), Below w.heap.size w ((W1.setCell ⟨w.heap.size, 0, none⟩ x0).setCell ⟨w.heap.size, 1, none⟩ x1)) := fun x0 x1 => (hl1.setCell (p := ⟨w.heap.size, 0, none⟩) (Nat.le_refl _) _).setCell (p := ⟨w.heap.size, 1, none⟩) (Nat.le_refl _) _
        clear hl1 hb1
        go_wp2_with fail
        go_loop [5, 6] (fun v u => ∃ (i n : Nat), i ≤ s.size ∧ u = .int .i64 i ∧ v = .int .i64 n ∧ n ≤ 9223372036854775807 ∧ Hid (nrun s i = some n)) (fun _ u => (s.size - intOf u).toNat)
        case atStart => exact ⟨0, 0, by omega, rfl, rfl, by omega, rfl⟩
        case round =>
          obtain ⟨i, n, hi, rfl, rfl, hn9, HS⟩ := hrel
          by_cases hlt : i < s.size
          · have hk1 : (i : Int) < (s.size : Int) := by omega
            have hk0 : (0 : Int) ≤ (i : Int) := by omega
            obtain ⟨c, hc⟩ : ∃ c, s[i].toNat = c := ⟨_, rfl⟩
            have hbc : byteAt s i = c := by rw [(byteAt_in s hlt).2]; exact hc
            have HC := Lib.hid hc
            by_cases hbad : c < 48 ∨ 57 < c
            · have HNO : Hid (numOf s most = none) := by
                have h1 : nrun s (i + 1) = none := by
                  rw [nrun, HS.out]; simp only []
                  rw [if_pos (by rw [hbc]; omega)]
                show _ = _
                rw [HN.out, nrun_none s h1 s.size (by omega)]
              rcases (show c < 48 ∨ (¬ c < 48 ∧ 57 < c) by omega) with q1 | ⟨q1, q2⟩
              · have e1 : (s[i].toNat : Int) < 48 := by rw [hc]; omega
                have e2 : s[i].toNat < 48 := by omega
                clear hc hbc hbad HS
                go_wp2_with fail
                exact bodyPost_ret (v := .agg #[.int .i64 0, .bool false]) (by simp [results, Tryz.results49, go_sem, r0, r1]) rfl ⟨by rw [HNO.out]; rfl, HD.out _ _⟩
              · have e1 : ¬ (s[i].toNat : Int) < 48 := by rw [hc]; omega
                have e2 : ¬ s[i].toNat < 48 := by omega
                have e3 : (57 : Int) < (s[i].toNat : Int) := by rw [hc]; omega
                have e4 : 57 < s[i].toNat := by omega
                clear hc hbc hbad HS
                go_wp2_with fail
                exact bodyPost_ret (v := .agg #[.int .i64 0, .bool false]) (by simp [results, Tryz.results49, go_sem, r0, r1]) rfl ⟨by rw [HNO.out]; rfl, HD.out _ _⟩
            · have e1 : ¬ (s[i].toNat : Int) < 48 := by rw [hc]; omega
              have e2 : ¬ s[i].toNat < 48 := by omega
              have e3 : ¬ (57 : Int) < (s[i].toNat : Int) := by rw [hc]; omega
              have e4 : ¬ 57 < s[i].toNat := by omega
              obtain ⟨d, hd⟩ : ∃ d : Nat, c - 48 = d := ⟨_, rfl⟩
              have w1 : IntKind.u8.wrap ((s[i].toNat : Int) - 48) = (d : Int) := by rw [hc, IntKind.wrap_u8]; omega
              have w2 : IntKind.i64.wrap (d : Int) = (d : Int) := IntWalk.i64_in _ (by omega)
              have w3 : IntKind.i64.wrap (9223372036854775807 - (d : Int)) = 9223372036854775807 - (d : Int) := IntWalk.i64_in _ (by omega)
              obtain ⟨k, hk⟩ : ∃ k : Nat, (9223372036854775807 - d) / 10 = k := ⟨_, rfl⟩
              have w4 : (9223372036854775807 - (d : Int)).tdiv 10 = (k : Int) := by rw [Int.tdiv_eq_ediv_of_nonneg (by omega)]; omega
              have w5 : IntKind.i64.wrap (k : Int) = (k : Int) := IntWalk.i64_in _ (by omega)
              by_cases hbig : k < n
              · have HNO : Hid (numOf s most = none) := by
                  have h1 : nrun s (i + 1) = none := by
                    rw [nrun, HS.out]; simp only []
                    rw [if_pos (by rw [hbc, hd, hk]; omega)]
                  show _ = _
                  rw [HN.out, nrun_none s h1 s.size (by omega)]
                have e5 : (k : Int) < (n : Int) := by omega
                clear hc hbc hbad HS hd hk
                go_wp2_with fail
                exact bodyPost_ret (v := .agg #[.int .i64 0, .bool false]) (by simp [results, Tryz.results49, go_sem, r0, r1]) rfl ⟨by rw [HNO.out]; rfl, HD.out _ _⟩
              · have e5 : ¬ (k : Int) < (n : Int) := by omega
                have HS2 : Hid (nrun s (i + 1) = some (10 * n + d)) := by
                  show _ = _
                  rw [nrun, HS.out]; simp only []
                  rw [if_neg (by rw [hbc, hd, hk]; omega), hbc, hd]
                have hb9 : 10 * n + d ≤ 9223372036854775807 := by omega
                have w6 : IntKind.i64.wrap (10 * (n : Int)) = 10 * (n : Int) := IntWalk.i64_in _ (by omega)
                have w7 : IntKind.i64.wrap (10 * (n : Int) + (d : Int)) = ((10 * n + d : Nat) : Int) := (IntWalk.i64_in _ (by omega)).trans (by omega)
                clear hc hbc hbad HS hd hk
                go_wp2_with fail
                go_round
                case rel => exact ⟨i + 1, 10 * n + d, by omega, by go_num, by go_num, hb9, HS2⟩
                case measure => simp [intOf]; omega
          · have hiz : i = s.size := by omega
            have hk1 : ¬ (i : Int) < (s.size : Int) := by omega
            have hns : nrun s s.size = some n := by rw [← hiz]; exact HS.out
            by_cases hm : most < (n : Int)
            · have HNO : Hid (numOf s most = none) := by
                show _ = _
                rw [HN.out, hns]; simp only []; rw [if_pos hm]
              clear hiz hns HS
              go_wp2_with fail
              exact bodyPost_ret (v := .agg #[.int .i64 0, .bool false]) (by simp [results, Tryz.results49, go_sem, r0, r1]) rfl ⟨by rw [HNO.out]; rfl, HD.out _ _⟩
            · have HNO : Hid (numOf s most = some n) := by
                show _ = _
                rw [HN.out, hns]; simp only []; rw [if_neg hm]
              clear hiz hns HS
              go_wp2_with fail
              exact bodyPost_ret (v := .agg #[.int .i64 n, .bool true]) (by simp [results, Tryz.results49, go_sem, r0, r1]) rfl ⟨by rw [HNO.out]; rfl, HD.out _ _⟩
end Go.Proofs.YtlpffgmfgkleiaaGreatDoor

/-
  The walk over rows of numbers of a text.
-/
namespace Go.Proofs.YtlpffgmfgkleiaaGreatDoor
open Go.RowKit Go.Maps

/-- The numbers up to a place, and where the next one begins, if all were. -/
def nsrun (s : ByteArray) (most : Int) : Nat → Option (List Int × Nat)
  | 0 => some ([], 0)
  | i + 1 => match nsrun s most i with
    | none => none
    | some (l, f) => if i < s.size ∧ byteAt s i ≠ 44 then some (l, f) else match numOf (s.extract f i) most with
      | none => none
      | some n => some (l ++ [(n : Int)], i + 1)
def numsOf (s : ByteArray) (most : Int) : Option (List Int) := (nsrun s most (s.size + 1)).map (·.1)
theorem nsrun_none (s : ByteArray) (most : Int) {i : Nat} (h : nsrun s most i = none) : ∀ j, i ≤ j → nsrun s most j = none := by
  intro j hj
  induction j with
  | zero => have : i = 0 := by omega
            subst this; exact h
  | succ j ih =>
    rcases Nat.lt_or_ge j i with q | q
    · have : i = j + 1 := by omega
      subst this; exact h
    · rw [nsrun, ih q]
/-- A row of numbers that comes back, if it is one. -/
def NumsB (o : Option (List Int)) (w : World) (e : Ending) (w' : World) : Prop :=
  Below w.heap.size w w' ∧ ((o = none ∧ e = .returned (.tuple #[.slice none 0 0, .bool false])) ∨ ∃ (l : List Int) (a : Option Addr) (c : Nat), o = some l ∧ e = .returned (.tuple #[.slice a l.length c, .bool true]) ∧ Ints w' a l ∧ (l.length : Int) ≤ 9223372036854775807)
/-- As it comes back from the document's own: a row of its own. -/
def NumsO (o : Option (List Int)) (w : World) (e : Ending) (w' : World) : Prop :=
  Below w.heap.size w w' ∧ ((o = none ∧ e = .returned (.tuple #[.slice none 0 0, .bool false])) ∨ ∃ (l : List Int) (a : Option Addr) (c : Nat), o = some l ∧ e = .returned (.tuple #[.slice a l.length c, .bool true]) ∧ OwnI w' 2 w.heap.size (.slice a l.length c) l ∧ (l.length : Int) ≤ 9223372036854775807)
theorem growni_new {W w3 w4 : World} {B : Nat} {t : TypeId} {v : Value} {l : List Int} (hb : Below B W w3) (ho : OwnI w3 t B v l) (hB : B ≤ w3.heap.size) (hg : w3.grownBy w4 v.ownBlock) : Below B W w4 :=
  hb.grown hg hB (fun k hk => (ho.new hk).1)

set_option maxRecDepth 100000 in
set_option maxHeartbeats 4000000 in
theorem rnumbers_own (s : ByteArray) (hs : s.size ≤ 1050000) (most : Int) (w : World) : Calls Tryz.prog 52 #[.string s, .int .i64 most] w (NumsO (numsOf s most) w) := by
  have hz := zeroNumb
  go_enter Tryz.func52, Tryz.ntmps52
  go_wp2_with fail
  go_loopw [6, 7, 8] (fun v f u wr => ∃ (i m g : Nat) (a' : Option Addr) (cp' : Nat) (l : List Int), i ≤ s.size + 1 ∧ m ≤ i ∧ g ≤ i ∧ u = .int .i64 i ∧ f = .int .i64 g ∧ v = .slice a' m cp' ∧ Hid (l.length = m) ∧ Hid (nsrun s most i = some (l, g)) ∧ Hid (Below w.heap.size w wr) ∧ Hid (OwnI wr 2 w.heap.size (.slice a' m cp') l)) (fun _ _ u _ => (s.size + 1 - intOf u).toNat)
  case atStart => exact ⟨0, 0, 0, _, _, [], by omega, by omega, by omega, rfl, rfl, rfl, rfl, rfl, Below.refl _ _, OwnI.nil _ _ _⟩
  case round =>
    obtain ⟨i, m, g, a', cp', l, hi, hm, hg, rfl, rfl, rfl, HL, HS, HB, HP⟩ := hrel
    by_cases hlt : i ≤ s.size
    · have hk1 : (i : Int) ≤ (s.size : Int) := by omega
      have hk0 : (0 : Int) ≤ (i : Int) := by omega
      have hg0 : (0 : Int) ≤ (g : Int) := by omega
      have hgi : (g : Int) ≤ (i : Int) := by omega
      by_cases hskip : i < s.size ∧ byteAt s i ≠ 44
      · have hin := hskip.1
        have hb := (byteAt_in s hin).2
        have h2 : (i : Int) < (s.size : Int) := by omega
        have d0 : ((s[i].toNat : Int) == 44) = false := by rw [beq_eq_false_iff_ne]; have := hskip.2; omega
        have d1 : ((s[i].toNat : Int) != 44) = true := by rw [bne, d0]; rfl
        have HS2 : Hid (nsrun s most (i + 1) = some (l, g)) := by
          show _ = _; rw [nsrun, HS.out]; simp only []; rw [if_pos hskip]
        clear hb hskip HS
        go_wp2_with fail
        go_roundw
        case rel => exact ⟨i + 1, m, g, a', cp', l, by omega, by omega, by omega, by go_num, rfl, rfl, HL, HS2, HB, HP⟩
        case measure => simp [intOf]; omega
      · have HSK : Hid (nsrun s most (i + 1) = match numOf (s.extract g i) most with
            | none => none
            | some n => some (l ++ [(n : Int)], i + 1)) := by
          show _ = _; rw [nsrun, HS.out]; simp only []; rw [if_neg hskip]
        have hxs : (s.extract g i).size ≤ s.size := by rw [ByteArray.size_extract]; omega
        have CN : Hid (∀ v, Calls Tryz.prog 49 #[.string (s.extract g i), .int .i64 most] v (NumB (numOf (s.extract g i) most) v)) := fun v => rnumber_any _ (by omega) most v
        obtain ⟨o, ho⟩ : ∃ o, numOf (s.extract g i) most = o := ⟨_, rfl⟩
        have HSK2 := Lib.hid (ho ▸ HSK.out)
        rw [ho] at CN
        go_upto_region 6 with fail
        go_cut [25] from 16 to 25 (fun u wx => u = .bool false ∧ Hid (Below w.heap.size w wx) ∧ Hid (OwnI wx 2 w.heap.size (.slice a' m cp') l))
        case first =>
          by_cases hin : i < s.size
          · have hb := (byteAt_in s hin).2
            have h2 : (i : Int) < (s.size : Int) := by omega
            have h44 : byteAt s i = 44 := Decidable.byContradiction fun q => hskip ⟨hin, q⟩
            have d0 : ((s[i].toNat : Int) == 44) = true := by rw [beq_iff_eq]; omega
            have d1 : ((s[i].toNat : Int) != 44) = false := by rw [bne, d0]; rfl
            clear hb h44 hskip
            go_wp2_with fail
            go_meet
            exact ⟨rfl, HB, HP⟩
          · have h2 : ¬ (i : Int) < (s.size : Int) := by omega
            clear hskip
            go_wp2_with fail
            go_meet
            exact ⟨rfl, HB, HP⟩
        case rest =>
          clear HB HP hskip
          obtain ⟨rfl, HB, HP⟩ := hcut
          cases o with
          | none =>
            have HNO : Hid (numsOf s most = none) := by
              show _ = _; unfold numsOf
              rw [nsrun_none s most (i := i + 1) HSK2.out (s.size + 1) (by omega)]; rfl
            clear ho
            go_wp2_with (go_at_call 49; (with_reducible refine (CN.out _).mono ?_); rintro e w5 ⟨rfl, b5⟩; have B5 := Lib.hid (below_up HB.out b5); clear b5)
            go_ret2
            exact ⟨below_up B5.out (by repeat (first | exact Below.refl _ _ | (with_reducible assumption) | refine bw_alloc ?_ _ | refine bw_drew ?_)), .inl ⟨HNO.out, rfl⟩⟩
          | some x =>
            have HSM : Hid (((l.length : Int) + ((1 : Nat) : Int)) ≤ 17592186044416) := by show _ ≤ _; rw [HL.out]; omega
            have HNN : Hid (l.length + 1 = m + 1) := by show _ = _; rw [HL.out]
            have HL2 : Hid ((l ++ [(x : Int)]).length = m + 1) := by show _ = _; rw [List.length_append, HL.out]; rfl
            have hwi : IntKind.i64.wrap ((i : Int) + 1) = (i : Int) + 1 := IntWalk.i64_in _ (by omega)
            clear ho
            go_upto_region 8 with (go_at_call 49; (with_reducible refine (CN.out _).mono ?_); rintro e w5 ⟨rfl, b5⟩; have B5 := Lib.hid b5; clear b5)
            refine gen_world (fun v => Below wc.heap.size wc v ∧ v.cell? ⟨w5.heap.size, 0, none⟩ = some (.int .i64 ((x : Nat) : Int)) ∧ v.cell? ⟨w5.heap.size, 1, none⟩ = some (.bool true)) ⟨below_up B5.out (by repeat (first | exact Below.refl _ _ | (with_reducible assumption) | refine bw_alloc ?_ _ | refine bw_drew ?_)), by rw [World.cell?_alloc_new]; rfl, by rw [World.cell?_alloc_new]; rfl⟩ ?_
            intro V ⟨hv, c0, c1⟩
            have HBV := Lib.hid (below_up HB.out hv)
            have HPV := Lib.hid (HP.out.below hv)
            clear hv HB HP B5
            generalize w5.heap.size = gb at *
            go_wp2_with (at_builtin; refine wp_ints (m := 1) (l := [(x : Int)]) numL rfl _ _ rfl rfl rfl (HPV.out.below (by repeat (first | exact Below.refl _ _ | (with_reducible assumption) | refine bw_alloc ?_ _ | refine bw_drew ?_))) (Nat.le_trans HBV.out.size ((by repeat (first | exact Below.refl _ _ | (with_reducible assumption) | refine bw_alloc ?_ _ | refine bw_drew ?_)) : Below V.heap.size V _).size) (ints_new _ _ _) rfl HSM.out (fun z => by cases z) (m + 1) HNN.out ?_; intro a3 k3 w3 o3 g3 l3; have HN3 := Lib.hid o3; have HB3 := Lib.hid (growni_new (below_up HBV.out ((by repeat (first | exact Below.refl _ _ | (with_reducible assumption) | refine bw_alloc ?_ _ | refine bw_drew ?_)) : Below V.heap.size V _)) (HPV.out.below ((by repeat (first | exact Below.refl _ _ | (with_reducible assumption) | refine bw_alloc ?_ _ | refine bw_drew ?_)) : Below V.heap.size V _)) (Nat.le_trans HBV.out.size ((by repeat (first | exact Below.refl _ _ | (with_reducible assumption) | refine bw_alloc ?_ _ | refine bw_drew ?_)) : Below V.heap.size V _).size) g3); clear o3 g3 l3)
            go_roundw
            case rel => exact ⟨i + 1, m + 1, i + 1, a3, k3, l ++ [(x : Int)], by omega, by omega, by omega, by go_num, by go_num, rfl, HL2, HSK2, HB3, HN3⟩
            case measure => simp [intOf]; omega
    · have hiz : i = s.size + 1 := by omega
      have HNO : Hid (numsOf s most = some l) := by
        show _ = _; unfold numsOf
        rw [← hiz, HS.out]; rfl
      have hk1 : ¬ (i : Int) ≤ (s.size : Int) := by omega
      clear hiz
      go_wp2_with fail
      go_ret2
      exact ⟨HB.out, .inr ⟨l, a', cp', HNO.out, by rw [HL.out]; rfl, by rw [HL.out]; exact HP.out, by rw [HL.out]; omega⟩⟩
theorem rnumbers_any (s : ByteArray) (hs : s.size ≤ 1050000) (most : Int) (w : World) : Calls Tryz.prog 52 #[.string s, .int .i64 most] w (NumsB (numsOf s most) w) :=
  (rnumbers_own s hs most w).mono fun _ _ ⟨h1, h2⟩ => ⟨h1, h2.imp id fun ⟨l, a, c, q1, q2, q3, q4⟩ => by
    obtain ⟨a5, c5, e5, i5, -, -⟩ := q3.slice
    cases e5
    exact ⟨l, a, c, q1, q2, i5, q4⟩⟩
end Go.Proofs.YtlpffgmfgkleiaaGreatDoor

/-
  The walk over what is wrong with a task.
-/
namespace Go.Proofs.YtlpffgmfgkleiaaGreatDoor
open Go.RowKit Go.Maps

/-- What is wrong with a task, beside so many sets. -/
def idBad (x : TV) : Prop := ¬ (1 ≤ x.id ∧ x.id ≤ 99 ∧ 1 ≤ x.p ∧ x.p ≤ 99)
def cdBad (x : TV) : Prop := ¬ (1 ≤ x.c ∧ x.c ≤ x.d ∧ x.d ≤ x.t ∧ x.t ≤ 1073741824)
def chBad (x : TV) : Prop := 64 < x.ch.length ∨ (x.ch ≠ [] ∧ fillB x.ch x.c = false)
def usBad (x : TV) (s : Int) : Prop := 64 < x.us.length ∨ x.us.any (badB s) = true
instance (x : TV) : Decidable (idBad x) := by unfold idBad; infer_instance
instance (x : TV) : Decidable (cdBad x) := by unfold cdBad; infer_instance
instance (x : TV) : Decidable (chBad x) := by unfold chBad; infer_instance
instance (x : TV) (s : Int) : Decidable (usBad x s) := by unfold usBad; infer_instance
def rightOf (x : TV) (s : Int) : Int := if idBad x then 1 else if cdBad x then 10 else if chBad x then 13 else if usBad x s then 12 else 0

theorem fill_chunks (x : TV) (h : 1 ≤ x.c) : fillB (chunksOf x) x.c = true ↔ ¬ (x.ch ≠ [] ∧ fillB x.ch x.c = false) := by
  unfold chunksOf
  split
  · rename_i e
    rw [fillB, if_pos ⟨h, Int.le_refl _⟩, fillB]
    simp [e]
  · rename_i e
    simp [e]

/-- A task in a box, and its bound in another one. -/
structure Boxed (w : World) (x : TV) (s : Int) (v : World) : Prop where
  low : Below w.heap.size w v
  at_ : AtB v w.heap.size x
  cell : v.cell? ⟨w.heap.size + 1, 0, none⟩ = some (.int .i64 s)
theorem Boxed.below {w v v' : World} {x : TV} {s : Int} (h : Boxed w x s v) (hb : Below v.heap.size v v') : Boxed w x s v' :=
  ⟨below_up h.low hb, h.at_.below hb, kept_cell hb h.cell⟩
theorem boxed_new {w : World} {x : TV} {s : Int} {T T' : TypeId} :
    Boxed w x s ((w.alloc (.cells #[.int .i64 x.id, .int .i64 x.c, .int .i64 x.d, .int .i64 x.t, .int .i64 x.p, .slice x.a1 x.ch.length x.c1, .slice x.a2 x.us.length x.c2] T)).alloc (.cells #[.int .i64 s] T')) :=
  ⟨(by repeat (first | exact Below.refl _ _ | (with_reducible assumption) | refine bw_alloc ?_ _ | refine bw_drew ?_)), (atB_new w x T).below ((Below.refl _ _).alloc (Nat.le_refl _) _), (new_second w _ _ _ 0).trans rfl⟩

theorem fillC {w : World} {x : TV} (hx : x.ok w) (hc : x.c ≤ 9223372036854775807) {a : Option Addr} {cap : Nat} {v : World} (hv : Ints v a (chunksOf x)) (hl : ((chunksOf x).length : Int) ≤ 9223372036854775807) {q : Bool} (hq : fillB (chunksOf x) x.c = q) :
    Calls Tryz.prog 35 #[.slice a (chunksOf x).length cap, .int .i64 x.c] v fun e w' => e = .returned (.bool q) ∧ v = w' := by
  rw [← hq]
  exact fill_any a _ cap _ rfl hl _ hc v hv

set_option maxRecDepth 100000 in
set_option maxHeartbeats 8000000 in
theorem right_any (x : TV) (s : Int) (w : World) (hx : x.ok w) : Calls Tryz.prog 15 #[x.val, .int .i64 s] w fun e w' => e = .returned (.int .i64 (rightOf x s)) ∧ Below w.heap.size w w' := by
  have HX := Lib.hid hx
  unfold TV.val
  by_cases h1 : 1 ≤ x.id ∧ x.id ≤ 99
  rotate_left
  · have hr : rightOf x s = 1 := by unfold rightOf; rw [if_pos]; unfold idBad; omega
    rw [hr]
    have C := Lib.hid (fun w => within_no x.id 1 99 h1 w)
    clear hr h1 hx
    go_enter Tryz.func15, Tryz.ntmps15
    go_wp2_with (go_at_call 34; (with_reducible refine (C.out _).mono ?_); rintro e w1 ⟨rfl, rfl⟩)
    go_ret
    exact ⟨rfl, (by repeat (first | exact Below.refl _ _ | (with_reducible assumption) | refine bw_alloc ?_ _ | refine bw_drew ?_))⟩
  by_cases h2 : 1 ≤ x.p ∧ x.p ≤ 99
  rotate_left
  · have hr : rightOf x s = 1 := by unfold rightOf; rw [if_pos]; unfold idBad; omega
    rw [hr]
    have C := Lib.hid (fun w => within_yes x.id 1 99 h1.1 h1.2 w)
    have D := Lib.hid (fun w => within_no x.p 1 99 h2 w)
    clear hr h1 h2 hx
    go_enter Tryz.func15, Tryz.ntmps15
    go_wp2_with (first
      | (go_at_call 34; (with_reducible refine (C.out _).mono ?_); rintro e w1 ⟨rfl, rfl⟩)
      | (go_at_call 34; (with_reducible refine (D.out _).mono ?_); rintro e w1 ⟨rfl, rfl⟩))
    go_ret
    exact ⟨rfl, (by repeat (first | exact Below.refl _ _ | (with_reducible assumption) | refine bw_alloc ?_ _ | refine bw_drew ?_))⟩
  have hid : ¬ idBad x := fun z => z ⟨h1.1, h1.2, h2.1, h2.2⟩
  have C := Lib.hid (fun w => within_yes x.id 1 99 h1.1 h1.2 w)
  have D := Lib.hid (fun w => within_yes x.p 1 99 h2.1 h2.2 w)
  have hr0 : rightOf x s = if cdBad x then 10 else if chBad x then 13 else if usBad x s then 12 else 0 := by unfold rightOf; rw [if_neg hid]
  rw [hr0]
  clear h1 h2 hid hr0
  by_cases h3 : cdBad x
  · rw [if_pos h3]
    clear hx
    unfold cdBad at h3
    have d : decide (x.c < 1) = true ∨ (decide (x.c < 1) = false ∧ decide (x.d < x.c) = true) ∨ (decide (x.c < 1) = false ∧ decide (x.d < x.c) = false ∧ decide (x.t < x.d) = true) ∨ (decide (x.c < 1) = false ∧ decide (x.d < x.c) = false ∧ decide (x.t < x.d) = false ∧ decide (1073741824 < x.t) = true) := by
      simp only [decide_eq_true_eq, decide_eq_false_iff_not]; omega
    clear h3
    rcases d with d1 | ⟨d1, d2⟩ | ⟨d1, d2, d3⟩ | ⟨d1, d2, d3, d4⟩
    all_goals
      go_enter Tryz.func15, Tryz.ntmps15
      go_wp2_with (first
        | (go_at_call 34; (with_reducible refine (C.out _).mono ?_); rintro e w1 ⟨rfl, rfl⟩)
        | (go_at_call 34; (with_reducible refine (D.out _).mono ?_); rintro e w1 ⟨rfl, rfl⟩))
      go_ret
      exact ⟨rfl, (by repeat (first | exact Below.refl _ _ | (with_reducible assumption) | refine bw_alloc ?_ _ | refine bw_drew ?_))⟩
  rw [if_neg h3]
  unfold cdBad at h3
  have hc1 : 1 ≤ x.c := by omega
  have hc2 : x.c ≤ 9223372036854775807 := by omega
  have d1 : decide (x.c < 1) = false := decide_eq_false (by omega)
  have d2 : decide (x.d < x.c) = false := decide_eq_false (by omega)
  have d3 : decide (x.t < x.d) = false := decide_eq_false (by omega)
  have d4 : decide (1073741824 < x.t) = false := decide_eq_false (by omega)
  clear h3
  by_cases h4 : 64 < x.ch.length
  · rw [if_pos (show chBad x from .inl h4)]
    have d5 : decide ((64 : Int) < (x.ch.length : Int)) = true := decide_eq_true (by omega)
    clear hc1 hc2 hx
    have h5 : (64 : Int) < (x.ch.length : Int) := by omega
    go_enter Tryz.func15, Tryz.ntmps15
    go_wp2_with (first
      | (go_at_call 34; (with_reducible refine (C.out _).mono ?_); rintro e w1 ⟨rfl, rfl⟩)
      | (go_at_call 34; (with_reducible refine (D.out _).mono ?_); rintro e w1 ⟨rfl, rfl⟩))
    go_ret
    exact ⟨rfl, (by repeat (first | exact Below.refl _ _ | (with_reducible assumption) | refine bw_alloc ?_ _ | refine bw_drew ?_))⟩
  have d5 : decide ((64 : Int) < (x.ch.length : Int)) = false := decide_eq_false (by omega)
  have h5 : ¬ (64 : Int) < (x.ch.length : Int) := by omega
  by_cases h6 : fillB (chunksOf x) x.c = true
  rotate_left
  · have hb : chBad x := .inr (by have := mt (fill_chunks x hc1).2 h6; simpa using this)
    rw [if_pos hb]
    have F : Hid (∀ (a : Option Addr) (cap : Nat) (v : World), Ints v a (chunksOf x) → ((chunksOf x).length : Int) ≤ 9223372036854775807 → _) := fun a cap v hv hl => fillC (cap := cap) hx hc2 hv hl (q := false) (by simpa using h6)
    clear hb h6 hc1 hc2 hx h4
    go_enter Tryz.func15, Tryz.ntmps15
    go_upto_region 10 with (first
      | (go_at_call 34; (with_reducible refine (C.out _).mono ?_); rintro e w1 ⟨rfl, rfl⟩)
      | (go_at_call 34; (with_reducible refine (D.out _).mono ?_); rintro e w1 ⟨rfl, rfl⟩))
    refine gen_world (Boxed w x s) boxed_new ?_
    intro W1 hw1
    have H1 := Lib.hid hw1
    obtain ⟨_, ⟨c0, c1, c2, c3, c4, c5, c6⟩, e0⟩ := hw1
    have K : Hid (∀ v, Below W1.heap.size W1 v → _) := fun v hb => chunks_under x W1 v hb (HX.out.below H1.out.low)
    have MK : Hid (∀ v, Below W1.heap.size W1 v → (Below W1.heap.size W1 v ∧ v.cell? ⟨w.heap.size, 0, none⟩ = some (.int .i64 x.id) ∧ v.cell? ⟨w.heap.size, 1, none⟩ = some (.int .i64 x.c) ∧ v.cell? ⟨w.heap.size, 2, none⟩ = some (.int .i64 x.d) ∧ v.cell? ⟨w.heap.size, 3, none⟩ = some (.int .i64 x.t) ∧ v.cell? ⟨w.heap.size, 4, none⟩ = some (.int .i64 x.p) ∧ v.cell? ⟨w.heap.size, 5, none⟩ = some (.slice x.a1 x.ch.length x.c1) ∧ v.cell? ⟨w.heap.size, 6, none⟩ = some (.slice x.a2 x.us.length x.c2))) :=
      fun v hb => ⟨hb, (H1.out.below hb).at_.c0, (H1.out.below hb).at_.c1, (H1.out.below hb).at_.c2, (H1.out.below hb).at_.c3, (H1.out.below hb).at_.c4, (H1.out.below hb).at_.c5, (H1.out.below hb).at_.c6⟩
    clear e0
    go_region_held3 (fun v => Below W1.heap.size W1 v ∧ v.cell? ⟨w.heap.size, 0, none⟩ = some (.int .i64 x.id) ∧ v.cell? ⟨w.heap.size, 1, none⟩ = some (.int .i64 x.c) ∧ v.cell? ⟨w.heap.size, 2, none⟩ = some (.int .i64 x.d) ∧ v.cell? ⟨w.heap.size, 3, none⟩ = some (.int .i64 x.t) ∧ v.cell? ⟨w.heap.size, 4, none⟩ = some (.int .i64 x.p) ∧ v.cell? ⟨w.heap.size, 5, none⟩ = some (.slice x.a1 x.ch.length x.c1) ∧ v.cell? ⟨w.heap.size, 6, none⟩ = some (.slice x.a2 x.us.length x.c2)) (exact MK.out _ (by repeat (first | exact Below.refl _ _ | (with_reducible assumption) | refine bw_alloc ?_ _ | refine bw_drew ?_)))
      (first
        | (go_at_call 36; (with_reducible refine (K.out _ (by repeat (first | exact Below.refl _ _ | (with_reducible assumption) | refine bw_alloc ?_ _ | refine bw_drew ?_))).mono ?_); rintro e wx ⟨a, cp, rfl, hI, bx, hl⟩)
        | (go_at_call 35; (with_reducible refine (F.out _ _ _ hI hl).mono ?_); rintro e wy ⟨rfl, rfl⟩))
    all_goals
      have BX := Lib.hid bx
      clear bx hI hl
      go_wp2
      go_ret
      exact ⟨rfl, below_up H1.out.low BX.out⟩
  have hnc : ¬ chBad x := by
    rintro (z | z)
    · exact h4 z
    · exact (fill_chunks x hc1).1 h6 z
  rw [if_neg hnc]
  have F : Hid (∀ (a : Option Addr) (cap : Nat) (v : World), Ints v a (chunksOf x) → ((chunksOf x).length : Int) ≤ 9223372036854775807 → _) := fun a cap v hv hl => fillC (cap := cap) hx hc2 hv hl (q := true) h6
  have hul : (x.us.length : Int) ≤ 9223372036854775807 := by have := hx.l2; have := hx.m2; omega
  clear hnc h6 hc1 hc2 hx h4
  by_cases h7 : 64 < x.us.length
  · rw [if_pos (show usBad x s from .inl h7)]
    have d6 : decide ((64 : Int) < (x.us.length : Int)) = true := decide_eq_true (by omega)
    have h8 : (64 : Int) < (x.us.length : Int) := by omega
    clear h7 hul
    go_enter Tryz.func15, Tryz.ntmps15
    go_upto_region 10 with (first
      | (go_at_call 34; (with_reducible refine (C.out _).mono ?_); rintro e w1 ⟨rfl, rfl⟩)
      | (go_at_call 34; (with_reducible refine (D.out _).mono ?_); rintro e w1 ⟨rfl, rfl⟩))
    refine gen_world (Boxed w x s) boxed_new ?_
    intro W1 hw1
    have H1 := Lib.hid hw1
    obtain ⟨_, ⟨c0, c1, c2, c3, c4, c5, c6⟩, e0⟩ := hw1
    have K : Hid (∀ v, Below W1.heap.size W1 v → _) := fun v hb => chunks_under x W1 v hb (HX.out.below H1.out.low)
    have MK : Hid (∀ v, Below W1.heap.size W1 v → (Below W1.heap.size W1 v ∧ v.cell? ⟨w.heap.size, 0, none⟩ = some (.int .i64 x.id) ∧ v.cell? ⟨w.heap.size, 1, none⟩ = some (.int .i64 x.c) ∧ v.cell? ⟨w.heap.size, 2, none⟩ = some (.int .i64 x.d) ∧ v.cell? ⟨w.heap.size, 3, none⟩ = some (.int .i64 x.t) ∧ v.cell? ⟨w.heap.size, 4, none⟩ = some (.int .i64 x.p) ∧ v.cell? ⟨w.heap.size, 5, none⟩ = some (.slice x.a1 x.ch.length x.c1) ∧ v.cell? ⟨w.heap.size, 6, none⟩ = some (.slice x.a2 x.us.length x.c2))) :=
      fun v hb => ⟨hb, (H1.out.below hb).at_.c0, (H1.out.below hb).at_.c1, (H1.out.below hb).at_.c2, (H1.out.below hb).at_.c3, (H1.out.below hb).at_.c4, (H1.out.below hb).at_.c5, (H1.out.below hb).at_.c6⟩
    clear e0
    go_region_held3 (fun v => Below W1.heap.size W1 v ∧ v.cell? ⟨w.heap.size, 0, none⟩ = some (.int .i64 x.id) ∧ v.cell? ⟨w.heap.size, 1, none⟩ = some (.int .i64 x.c) ∧ v.cell? ⟨w.heap.size, 2, none⟩ = some (.int .i64 x.d) ∧ v.cell? ⟨w.heap.size, 3, none⟩ = some (.int .i64 x.t) ∧ v.cell? ⟨w.heap.size, 4, none⟩ = some (.int .i64 x.p) ∧ v.cell? ⟨w.heap.size, 5, none⟩ = some (.slice x.a1 x.ch.length x.c1) ∧ v.cell? ⟨w.heap.size, 6, none⟩ = some (.slice x.a2 x.us.length x.c2)) (exact MK.out _ (by repeat (first | exact Below.refl _ _ | (with_reducible assumption) | refine bw_alloc ?_ _ | refine bw_drew ?_)))
      (first
        | (go_at_call 36; (with_reducible refine (K.out _ (by repeat (first | exact Below.refl _ _ | (with_reducible assumption) | refine bw_alloc ?_ _ | refine bw_drew ?_))).mono ?_); rintro e wx ⟨a, cp, rfl, hI, bx, hl⟩)
        | (go_at_call 35; (with_reducible refine (F.out _ _ _ hI hl).mono ?_); rintro e wy ⟨rfl, rfl⟩))
    all_goals
      have H2 := Lib.hid (H1.out.below bx)
      obtain ⟨_, ⟨f0, f1, f2, f3, f4, f5, f6⟩, g0⟩ := H2.out
      clear bx hI hl c0 c1 c2 c3 c4 c5 c6
      go_wp2
      go_ret
      exact ⟨rfl, H2.out.low⟩
  have d6 : decide ((64 : Int) < (x.us.length : Int)) = false := decide_eq_false (by omega)
  have h8 : ¬ (64 : Int) < (x.us.length : Int) := by omega
  by_cases h9 : x.us.any (badB s) = true
  · rw [if_pos (show usBad x s from .inr h9)]
    have HN := Lib.hid h9
    clear h7 h9
    go_enter Tryz.func15, Tryz.ntmps15
    go_upto_region 10 with (first
      | (go_at_call 34; (with_reducible refine (C.out _).mono ?_); rintro e w1 ⟨rfl, rfl⟩)
      | (go_at_call 34; (with_reducible refine (D.out _).mono ?_); rintro e w1 ⟨rfl, rfl⟩))
    refine gen_world (Boxed w x s) boxed_new ?_
    intro W1 hw1
    have H1 := Lib.hid hw1
    obtain ⟨_, ⟨c0, c1, c2, c3, c4, c5, c6⟩, e0⟩ := hw1
    have K : Hid (∀ v, Below W1.heap.size W1 v → _) := fun v hb => chunks_under x W1 v hb (HX.out.below H1.out.low)
    have MK : Hid (∀ v, Below W1.heap.size W1 v → (Below W1.heap.size W1 v ∧ v.cell? ⟨w.heap.size, 0, none⟩ = some (.int .i64 x.id) ∧ v.cell? ⟨w.heap.size, 1, none⟩ = some (.int .i64 x.c) ∧ v.cell? ⟨w.heap.size, 2, none⟩ = some (.int .i64 x.d) ∧ v.cell? ⟨w.heap.size, 3, none⟩ = some (.int .i64 x.t) ∧ v.cell? ⟨w.heap.size, 4, none⟩ = some (.int .i64 x.p) ∧ v.cell? ⟨w.heap.size, 5, none⟩ = some (.slice x.a1 x.ch.length x.c1) ∧ v.cell? ⟨w.heap.size, 6, none⟩ = some (.slice x.a2 x.us.length x.c2))) :=
      fun v hb => ⟨hb, (H1.out.below hb).at_.c0, (H1.out.below hb).at_.c1, (H1.out.below hb).at_.c2, (H1.out.below hb).at_.c3, (H1.out.below hb).at_.c4, (H1.out.below hb).at_.c5, (H1.out.below hb).at_.c6⟩
    clear e0
    go_region_held3 (fun v => Below W1.heap.size W1 v ∧ v.cell? ⟨w.heap.size, 0, none⟩ = some (.int .i64 x.id) ∧ v.cell? ⟨w.heap.size, 1, none⟩ = some (.int .i64 x.c) ∧ v.cell? ⟨w.heap.size, 2, none⟩ = some (.int .i64 x.d) ∧ v.cell? ⟨w.heap.size, 3, none⟩ = some (.int .i64 x.t) ∧ v.cell? ⟨w.heap.size, 4, none⟩ = some (.int .i64 x.p) ∧ v.cell? ⟨w.heap.size, 5, none⟩ = some (.slice x.a1 x.ch.length x.c1) ∧ v.cell? ⟨w.heap.size, 6, none⟩ = some (.slice x.a2 x.us.length x.c2)) (exact MK.out _ (by repeat (first | exact Below.refl _ _ | (with_reducible assumption) | refine bw_alloc ?_ _ | refine bw_drew ?_)))
      (first
        | (go_at_call 36; (with_reducible refine (K.out _ (by repeat (first | exact Below.refl _ _ | (with_reducible assumption) | refine bw_alloc ?_ _ | refine bw_drew ?_))).mono ?_); rintro e wx ⟨a, cp, rfl, hI, bx, hl⟩)
        | (go_at_call 35; (with_reducible refine (F.out _ _ _ hI hl).mono ?_); rintro e wy ⟨rfl, rfl⟩))
    all_goals
      have H2 := Lib.hid (H1.out.below bx)
      obtain ⟨_, ⟨f0, f1, f2, f3, f4, f5, f6⟩, g0⟩ := H2.out
      have G := Lib.hid (contains_any x.a2 x.us.length x.c2 x.us rfl hul s (w.heap.size + 1) _ (HX.out.below H2.out.low).two g0)
      rw [HN.out] at G
      clear bx hI hl c0 c1 c2 c3 c4 c5 c6
      go_wp2_with (go_at_call 37; (with_reducible refine (G.out).mono ?_); rintro e w1 ⟨rfl, rfl⟩)
      go_ret
      exact ⟨rfl, H2.out.low⟩
  · have hnu : ¬ usBad x s := fun z => z.elim h7 h9
    rw [if_neg hnu]
    have HN : Hid (x.us.any (badB s) = false) := by show _ = _; simpa using h9
    clear h7 h9 hnu
    go_enter Tryz.func15, Tryz.ntmps15
    go_upto_region 10 with (first
      | (go_at_call 34; (with_reducible refine (C.out _).mono ?_); rintro e w1 ⟨rfl, rfl⟩)
      | (go_at_call 34; (with_reducible refine (D.out _).mono ?_); rintro e w1 ⟨rfl, rfl⟩))
    refine gen_world (Boxed w x s) boxed_new ?_
    intro W1 hw1
    have H1 := Lib.hid hw1
    obtain ⟨_, ⟨c0, c1, c2, c3, c4, c5, c6⟩, e0⟩ := hw1
    have K : Hid (∀ v, Below W1.heap.size W1 v → _) := fun v hb => chunks_under x W1 v hb (HX.out.below H1.out.low)
    have MK : Hid (∀ v, Below W1.heap.size W1 v → (Below W1.heap.size W1 v ∧ v.cell? ⟨w.heap.size, 0, none⟩ = some (.int .i64 x.id) ∧ v.cell? ⟨w.heap.size, 1, none⟩ = some (.int .i64 x.c) ∧ v.cell? ⟨w.heap.size, 2, none⟩ = some (.int .i64 x.d) ∧ v.cell? ⟨w.heap.size, 3, none⟩ = some (.int .i64 x.t) ∧ v.cell? ⟨w.heap.size, 4, none⟩ = some (.int .i64 x.p) ∧ v.cell? ⟨w.heap.size, 5, none⟩ = some (.slice x.a1 x.ch.length x.c1) ∧ v.cell? ⟨w.heap.size, 6, none⟩ = some (.slice x.a2 x.us.length x.c2))) :=
      fun v hb => ⟨hb, (H1.out.below hb).at_.c0, (H1.out.below hb).at_.c1, (H1.out.below hb).at_.c2, (H1.out.below hb).at_.c3, (H1.out.below hb).at_.c4, (H1.out.below hb).at_.c5, (H1.out.below hb).at_.c6⟩
    clear e0
    go_region_held3 (fun v => Below W1.heap.size W1 v ∧ v.cell? ⟨w.heap.size, 0, none⟩ = some (.int .i64 x.id) ∧ v.cell? ⟨w.heap.size, 1, none⟩ = some (.int .i64 x.c) ∧ v.cell? ⟨w.heap.size, 2, none⟩ = some (.int .i64 x.d) ∧ v.cell? ⟨w.heap.size, 3, none⟩ = some (.int .i64 x.t) ∧ v.cell? ⟨w.heap.size, 4, none⟩ = some (.int .i64 x.p) ∧ v.cell? ⟨w.heap.size, 5, none⟩ = some (.slice x.a1 x.ch.length x.c1) ∧ v.cell? ⟨w.heap.size, 6, none⟩ = some (.slice x.a2 x.us.length x.c2)) (exact MK.out _ (by repeat (first | exact Below.refl _ _ | (with_reducible assumption) | refine bw_alloc ?_ _ | refine bw_drew ?_)))
      (first
        | (go_at_call 36; (with_reducible refine (K.out _ (by repeat (first | exact Below.refl _ _ | (with_reducible assumption) | refine bw_alloc ?_ _ | refine bw_drew ?_))).mono ?_); rintro e wx ⟨a, cp, rfl, hI, bx, hl⟩)
        | (go_at_call 35; (with_reducible refine (F.out _ _ _ hI hl).mono ?_); rintro e wy ⟨rfl, rfl⟩))
    all_goals
      have H2 := Lib.hid (H1.out.below bx)
      obtain ⟨_, ⟨f0, f1, f2, f3, f4, f5, f6⟩, g0⟩ := H2.out
      have G := Lib.hid (contains_any x.a2 x.us.length x.c2 x.us rfl hul s (w.heap.size + 1) _ (HX.out.below H2.out.low).two g0)
      rw [HN.out] at G
      clear bx hI hl c0 c1 c2 c3 c4 c5 c6
      go_wp2_with (go_at_call 37; (with_reducible refine (G.out).mono ?_); rintro e w1 ⟨rfl, rfl⟩)
      go_ret
      exact ⟨rfl, H2.out.low⟩
end Go.Proofs.YtlpffgmfgkleiaaGreatDoor

/-
  The walk over what is wrong with a task, by the document's own words.
-/
namespace Go.Proofs.YtlpffgmfgkleiaaGreatDoor
open Go.RowKit Go.Maps

set_option maxRecDepth 100000 in
set_option maxHeartbeats 8000000 in
theorem rright_any (x : TV) (s : Int) (w : World) (hx : x.ok w) : Calls Tryz.prog 20 #[x.val, .int .i64 s] w fun e w' => e = .returned (.int .i64 (rightOf x s)) ∧ Below w.heap.size w w' := by
  obtain ⟨id, c, d, t, p, a1, ch, c1, a2, us, c2⟩ := x
  obtain ⟨i1, i2, l1, m1, l2, m2⟩ := hx
  simp only at i1 i2 l1 m1 l2 m2
  unfold TV.val
  simp only []
  by_cases h1 : idBad ⟨id, c, d, t, p, a1, ch, c1, a2, us, c2⟩
  · have hr : rightOf ⟨id, c, d, t, p, a1, ch, c1, a2, us, c2⟩ s = 1 := by unfold rightOf; rw [if_pos h1]
    rw [hr]
    clear hr i1 i2
    unfold idBad at h1
    simp only at h1
    have d : decide (id < 1) = true ∨ (decide (id < 1) = false ∧ decide (99 < id) = true) ∨ (decide (id < 1) = false ∧ decide (99 < id) = false ∧ decide (p < 1) = true) ∨ (decide (id < 1) = false ∧ decide (99 < id) = false ∧ decide (p < 1) = false ∧ decide (99 < p) = true) := by
      simp only [decide_eq_true_eq, decide_eq_false_iff_not]; omega
    clear h1
    rcases d with d1 | ⟨d1, d2⟩ | ⟨d1, d2, d3⟩ | ⟨d1, d2, d3, d4⟩
    all_goals
      go_enter Tryz.func20, Tryz.ntmps20
      go_wp2
      go_ret
      exact ⟨rfl, (by repeat (first | exact Below.refl _ _ | (with_reducible assumption) | refine bw_alloc ?_ _ | refine bw_drew ?_))⟩
  have hr0 : rightOf ⟨id, c, d, t, p, a1, ch, c1, a2, us, c2⟩ s = if cdBad ⟨id, c, d, t, p, a1, ch, c1, a2, us, c2⟩ then 10 else if chBad ⟨id, c, d, t, p, a1, ch, c1, a2, us, c2⟩ then 13 else if usBad ⟨id, c, d, t, p, a1, ch, c1, a2, us, c2⟩ s then 12 else 0 := by unfold rightOf; rw [if_neg h1]
  rw [hr0]
  unfold idBad at h1
  simp only at h1
  have x1 : decide (id < 1) = false := decide_eq_false (by omega)
  have x2 : decide (99 < id) = false := decide_eq_false (by omega)
  have x3 : decide (p < 1) = false := decide_eq_false (by omega)
  have x4 : decide (99 < p) = false := decide_eq_false (by omega)
  clear h1 hr0
  by_cases h3 : cdBad ⟨id, c, d, t, p, a1, ch, c1, a2, us, c2⟩
  · rw [if_pos h3]
    clear i1 i2
    unfold cdBad at h3
    simp only at h3
    have d : decide (c < 1) = true ∨ (decide (c < 1) = false ∧ decide (d < c) = true) ∨ (decide (c < 1) = false ∧ decide (d < c) = false ∧ decide (t < d) = true) ∨ (decide (c < 1) = false ∧ decide (d < c) = false ∧ decide (t < d) = false ∧ decide (1073741824 < t) = true) := by
      simp only [decide_eq_true_eq, decide_eq_false_iff_not]; omega
    clear h3
    rcases d with d1 | ⟨d1, d2⟩ | ⟨d1, d2, d3⟩ | ⟨d1, d2, d3, d4⟩
    all_goals
      go_enter Tryz.func20, Tryz.ntmps20
      go_wp2
      go_ret
      exact ⟨rfl, (by repeat (first | exact Below.refl _ _ | (with_reducible assumption) | refine bw_alloc ?_ _ | refine bw_drew ?_))⟩
  rw [if_neg h3]
  unfold cdBad at h3
  simp only at h3
  have hc1 : 1 ≤ c := by omega
  have hc2 : c ≤ 1073741824 := by omega
  have d1 : decide (c < 1) = false := decide_eq_false (by omega)
  have d2 : decide (d < c) = false := decide_eq_false (by omega)
  have d3 : decide (t < d) = false := decide_eq_false (by omega)
  have d4 : decide (1073741824 < t) = false := decide_eq_false (by omega)
  have I1 := Lib.hid i1
  have I2 := Lib.hid i2
  have HB : Hid ((fillB ch c = false ∧ 0 < ch.length) ∨ 64 < ch.length ↔ chBad ⟨id, c, d, t, p, a1, ch, c1, a2, us, c2⟩) := by
    show _ ↔ _
    unfold chBad
    simp only [ne_eq, ← List.length_eq_zero_iff]
    constructor
    · rintro (⟨h1, h2⟩ | h)
      · exact .inr ⟨by omega, h1⟩
      · exact .inl h
    · rintro (h | ⟨h1, h2⟩)
      · exact .inr h
      · exact .inl ⟨h2, by omega⟩
  have HU : Hid (us.any (badB s) = true ∨ 64 < us.length ↔ usBad ⟨id, c, d, t, p, a1, ch, c1, a2, us, c2⟩ s) := by
    show _ ↔ _
    unfold usBad
    exact or_comm
  generalize hcb : (if chBad ⟨id, c, d, t, p, a1, ch, c1, a2, us, c2⟩ then (13 : Int) else if usBad ⟨id, c, d, t, p, a1, ch, c1, a2, us, c2⟩ s then 12 else 0) = R
  have HR := Lib.hid hcb
  obtain ⟨n, hn⟩ : ∃ n, ch.length = n := ⟨_, rfl⟩
  obtain ⟨m, hm⟩ : ∃ m, us.length = m := ⟨_, rfl⟩
  rw [hn] at l1 HB ⊢
  rw [hm] at l2 HU ⊢
  have HL := Lib.hid hn
  have HM := Lib.hid hm
  have hn9 : (n : Int) ≤ 9223372036854775807 := by omega
  have hm9 : (m : Int) ≤ 9223372036854775807 := by omega
  clear i1 i2 hcb h3 hn hm l1 m1 l2 m2
  go_enter Tryz.func20, Tryz.ntmps20
  go_wp2
  go_loop [5, 6] (fun u v => ∃ (k : Nat) (c' : Int), k ≤ n ∧ v = .int .i64 k ∧ u = .int .i64 c' ∧ 0 ≤ c' ∧ c' ≤ 1073741824 ∧ Hid (fillB (ch.drop k) c' = fillB ch c)) (fun _ v => (n - intOf v).toNat)
  case atStart => exact ⟨0, c, by omega, rfl, rfl, by omega, by omega, by show _ = _; rw [List.drop_zero]⟩
  case round =>
    obtain ⟨k, c', hk, rfl, rfl, hc0, hc', HF⟩ := hrel
    by_cases hlt : k < n
    · obtain ⟨x, hx⟩ := nth_of HL.out hlt
      obtain ⟨g, o, rfl, z0⟩ := (I1.out.below (show Below w.heap.size w (w.alloc (.cells #[.int .i64 id, .int .i64 c, .int .i64 d, .int .i64 t, .int .i64 p, .slice a1 n c1, .slice a2 m c2] 26)) from (by repeat (first | exact Below.refl _ _ | (with_reducible assumption) | refine bw_alloc ?_ _ | refine bw_drew ?_)))).at_ hx
      have z1 : w.cell? ⟨g, o + k, none⟩ = some (.int .i64 x) := by
        obtain ⟨g', o', e, z1⟩ := I1.out.at_ hx
        cases e; exact z1
      have hk1 : (k : Int) < (n : Int) := by omega
      have hk0 : (0 : Int) ≤ (k : Int) := by omega
      have hg := block_of_cell z1
      by_cases hb : 1 ≤ x ∧ x ≤ c'
      · have y1 : decide (x < 1) = false := decide_eq_false (by omega)
        have y2 : decide (c' < x) = false := decide_eq_false (by omega)
        have HF2 : Hid (fillB (ch.drop (k + 1)) (c' - x) = fillB ch c) := by
          have := HF.out
          rw [fill_drop hx, if_pos hb] at this
          exact this
        have hw : IntKind.i64.wrap (c' - x) = c' - x := IntWalk.i64_in _ (by omega)
        have hx1 : 0 ≤ c' - x := by omega
        have hx2 : c' - x ≤ 1073741824 := by omega
        clear HF hb hx
        go_wp2
        go_round
        case rel => exact ⟨k + 1, c' - x, by omega, by go_num, by first | rfl | (rw [hw]), hx1, hx2, HF2⟩
        case measure => simp [intOf]; omega
      · have HF2 : Hid (fillB ch c = false) := by
          have := HF.out
          rw [fill_drop hx, if_neg hb] at this
          exact this.symm
        have hR : Hid (R = 13) := by
          show _ = _
          rw [← HR.out, if_pos (HB.out.1 (.inl ⟨HF2.out, by omega⟩))]
        have y : decide (x < 1) = true ∨ (decide (x < 1) = false ∧ decide (c' < x) = true) := by
          simp only [decide_eq_true_eq, decide_eq_false_iff_not]; omega
        clear HF hb hx
        rcases y with y1 | ⟨y1, y2⟩
        all_goals
          go_wp2
          go_ret
          rw [hR.out]
          exact ⟨rfl, (by repeat (first | exact Below.refl _ _ | (with_reducible assumption) | refine bw_alloc ?_ _ | refine bw_drew ?_))⟩
    · obtain rfl : n = k := by omega
      have HF2 : Hid ((c' == 0) = fillB ch c) := by
        have := HF.out
        rw [List.drop_of_length_le (by rw [HL.out]; exact Nat.le_refl _), fillB] at this
        exact this
      clear HF
      by_cases hbad : chBad ⟨id, c, d, t, p, a1, ch, c1, a2, us, c2⟩
      · have hR : Hid (R = 13) := by
          show _ = _
          rw [← HR.out, if_pos hbad]
        have y : decide ((64 : Int) < (n : Int)) = true ∨ (decide ((64 : Int) < (n : Int)) = false ∧ ¬ (64 : Int) < (n : Int) ∧ (0 : Int) < (n : Int) ∧ (c' == 0) = false) := by
          rcases HB.out.2 hbad with ⟨q1, q2⟩ | q
          · by_cases g : (64 : Int) < (n : Int)
            · exact .inl (decide_eq_true g)
            · exact .inr ⟨decide_eq_false g, g, by omega, HF2.out.trans q1⟩
          · exact .inl (decide_eq_true (by omega))
        clear hbad
        rcases y with y1 | ⟨y1, y2, y3, y4⟩
        · have y2 : (64 : Int) < (n : Int) := of_decide_eq_true y1
          go_wp2
          go_ret
          rw [hR.out]
          exact ⟨rfl, (by repeat (first | exact Below.refl _ _ | (with_reducible assumption) | refine bw_alloc ?_ _ | refine bw_drew ?_))⟩
        · have y5 : (c' != 0) = true := by rw [bne, y4]; rfl
          have y6 : 0 < n := by omega
          go_wp2
          go_ret
          rw [hR.out]
          exact ⟨rfl, (by repeat (first | exact Below.refl _ _ | (with_reducible assumption) | refine bw_alloc ?_ _ | refine bw_drew ?_))⟩
      · have HR2 : Hid ((if usBad ⟨id, c, d, t, p, a1, ch, c1, a2, us, c2⟩ s then (12 : Int) else 0) = R) := by
          show _ = _
          rw [← HR.out, if_neg hbad]
        have y1 : ¬ (64 : Int) < (n : Int) := fun z => hbad (HB.out.1 (.inr (by omega)))
        have y : (n = 0) ∨ (0 < n ∧ c' = 0) := by
          rcases Nat.eq_zero_or_pos n with z | z
          · exact .inl z
          · refine .inr ⟨z, ?_⟩
            by_cases g : c' = 0
            · exact g
            · exfalso
              refine hbad (HB.out.1 (.inl ⟨?_, z⟩))
              rw [← HF2.out, beq_eq_false_iff_ne]; exact g
        clear hbad HB HF2 HR
        have y' : (¬ (0 : Int) < (n : Int) ∧ ¬ 0 < n) ∨ ((0 : Int) < (n : Int) ∧ 0 < n ∧ (c' != 0) = false) := by
          rcases y with z | ⟨z, rfl⟩
          · exact .inl ⟨by omega, by omega⟩
          · exact .inr ⟨by omega, z, rfl⟩
        clear y
        rcases y' with ⟨y2, y3⟩ | ⟨y2, y3, y4⟩
        all_goals
          go_wp2
          go_loop [7] (fun u => ∃ k : Nat, k ≤ m ∧ u = .int .i64 k ∧ Hid ((us.take k).any (badB s) = false)) (fun u => (m - intOf u).toNat)
          case atStart => exact ⟨0, by omega, rfl, by show _ = _; simp⟩
          case round =>
            obtain ⟨k, hk, rfl, HS⟩ := hrel
            by_cases hlt2 : k < m
            · obtain ⟨x, hx⟩ := nth_of HM.out hlt2
              obtain ⟨g, o, rfl, z1⟩ := I2.out.at_ hx
              have hk1 : (k : Int) < (m : Int) := by omega
              have hk0 : (0 : Int) ≤ (k : Int) := by omega
              have hg := block_of_cell z1
              by_cases hf : badB s x = true
              · have HF := Lib.hid (any_found hx hf)
                have hR : Hid (R = 12) := by
                  show _ = _
                  rw [← HR2.out, if_pos (HU.out.1 (.inl HF.out))]
                have yy : decide (x < 0) = true ∨ (decide (x < 0) = false ∧ decide (s ≤ x) = true) := by
                  unfold badB at hf
                  simp only [decide_eq_true_eq, decide_eq_false_iff_not] at hf ⊢; omega
                clear hx hf HS
                rcases yy with y6 | ⟨y6, y7⟩
                all_goals
                  go_wp2
                  go_ret
                  rw [hR.out]
                  exact ⟨rfl, (by repeat (first | exact Below.refl _ _ | (with_reducible assumption) | refine bw_alloc ?_ _ | refine bw_drew ?_))⟩
              · have hf2 : badB s x = false := by simpa using hf
                have HS2 := Lib.hid (any_take HS.out hx hf2)
                unfold badB at hf2
                have y6 : decide (x < 0) = false := by simp only [decide_eq_false_iff_not] at hf2 ⊢; omega
                have y7 : decide (s ≤ x) = false := by simp only [decide_eq_false_iff_not] at hf2 ⊢; omega
                clear hx hf hf2 HS
                go_wp2
                go_round
                case rel => exact ⟨k + 1, by omega, by go_num, HS2⟩
                case measure => simp [intOf]; omega
            · obtain rfl : m = k := by omega
              have HF := Lib.hid (any_all HS.out HM.out)
              by_cases h9 : (64 : Int) < (m : Int)
              · have hR : Hid (R = 12) := by
                  show _ = _
                  rw [← HR2.out, if_pos (HU.out.1 (.inr (by omega)))]
                go_wp2
                go_ret
                rw [hR.out]
                exact ⟨rfl, (by repeat (first | exact Below.refl _ _ | (with_reducible assumption) | refine bw_alloc ?_ _ | refine bw_drew ?_))⟩
              · have hR : Hid (R = 0) := by
                  show _ = _
                  rw [← HR2.out, if_neg]
                  intro z
                  rcases HU.out.2 z with q | q
                  · rw [HF.out] at q; cases q
                  · omega
                go_wp2
                go_ret
                rw [hR.out]
                exact ⟨rfl, (by repeat (first | exact Below.refl _ _ | (with_reducible assumption) | refine bw_alloc ?_ _ | refine bw_drew ?_))⟩
end Go.Proofs.YtlpffgmfgkleiaaGreatDoor

/-
  The walks over whether two rows of tasks, and two systems, are the same.
-/
namespace Go.Proofs.YtlpffgmfgkleiaaGreatDoor
open Go.RowKit Go.Maps

theorem row_step {L M : List TV} {k : Nat} {x y : TV} (h : (L.take k).map TV.tk = (M.take k).map TV.tk) (hx : L[k]? = some x) (hy : M[k]? = some y) (e : x.tk = y.tk) : (L.take (k + 1)).map TV.tk = (M.take (k + 1)).map TV.tk := by
  rw [List.take_add_one, List.take_add_one, List.map_append, List.map_append, h, hx, hy]
  simp [e]
theorem row_end {L M : List TV} {k : Nat} (h : (L.take k).map TV.tk = (M.take k).map TV.tk) (hl : L.length = k) (hm : M.length = k) : L.map TV.tk = M.map TV.tk := by
  rwa [List.take_of_length_le (by omega), List.take_of_length_le (by omega)] at h
theorem row_not {L M : List TV} {k : Nat} {x y : TV} (hx : L[k]? = some x) (hy : M[k]? = some y) (e : ¬ x.tk = y.tk) : ¬ L.map TV.tk = M.map TV.tk := by
  intro h
  have h1 : (L.map TV.tk)[k]? = some x.tk := by simp [hx]
  have h2 : (M.map TV.tk)[k]? = some y.tk := by simp [hy]
  rw [h, h2] at h1; exact e (Option.some.inj h1).symm
theorem row_len {L M : List TV} (h : ¬ L.length = M.length) : ¬ L.map TV.tk = M.map TV.tk := by
  intro z
  have := congrArg List.length z
  simp at this; exact h this
end Go.Proofs.YtlpffgmfgkleiaaGreatDoor

/-
  The walks over what is wrong with a system.
-/
namespace Go.Proofs.YtlpffgmfgkleiaaGreatDoor
open Go.RowKit Go.Maps

theorem lawK : Keyed Tryz.prog 3 := int_keyed Tryz.underlying3
theorem zeroK (w : World) : (zeroValue 3).run Tryz.prog w = .ok (.int .i64 0) w := by kernel_rfl

/-- What the entries read as. -/
def IsF (D : DataW Unit) (f : Int → Option Int) : Prop :=
  ∀ k : Int, Maps.has D (.int .i64 k) = (f k).isSome ∧ D.atKey (.int .i64 k) (.lit (.int .i64 0)) = .lit (.int .i64 ((f k).getD 0))
/-- A block is a map of at most N entries, that are f. -/
def MapIs (w : World) (bm N : Nat) (f : Int → Option Int) : Prop := ∃ D : DataW Unit, w.ownsMap Tryz.prog 3 (plainElem Tryz.prog 3) bm N D ∧ IsF D f
/-- One entry set; one struck. -/
def fput (f : Int → Option Int) (k v : Int) (x : Int) : Option Int := if x = k then some v else f x
def fdel (f : Int → Option Int) (k : Int) (x : Int) : Option Int := if x = k then none else f x

theorem IsF.put {D : DataW Unit} {f : Int → Option Int} (h : IsF D f) (hD : IsMap D) (k v : Int) : IsF (D.put (.int .i64 k) (.lit (.int .i64 v))) (fput f k v) := by
  intro x
  unfold fput
  by_cases e : x = k
  · subst e
    rw [if_pos rfl, has_put_same hD (by trivial), atKey_put_same hD (by trivial)]
    exact ⟨rfl, rfl⟩
  · rw [if_neg e, has_put_other (by simp [e]), atKey_put_other (by simp [e])]
    exact h x
theorem IsF.del {D : DataW Unit} {f : Int → Option Int} (h : IsF D f) (k : Int) : IsF (D.del (.int .i64 k)) (fdel f k) := by
  intro x
  unfold fdel
  by_cases e : x = k
  · subst e
    rw [if_pos rfl, has_del_same, atKey_del_same]
    exact ⟨rfl, rfl⟩
  · rw [if_neg e, has_del_other (by simp [e]), atKey_del_other (by simp [e])]
    exact h x

theorem owns_tight {w : World} {bm n m : Nat} {D : DataW Unit} {R : Value → Option (DataW Unit × List MemPlace)} {P : Program} {k : TypeId} (h : w.ownsMap P k R bm n D) (hm : Maps.size D ≤ m) : w.ownsMap P k R bm m D := by
  obtain ⟨es, clock, hb, F, hs, rfl⟩ := h
  refine ⟨es, clock, hb, F, ?_, rfl⟩
  have : Maps.size (DataW.map ((es.toList.map (WideElems.rg P k R)).foldr DataW.insert [])) = es.size := by simp [Maps.size, length_sorted]
  omega

/-- Behind a store. -/
theorem MapIs.stored {w' : World} {bm N : Nat} {D : DataW Unit} {f : Int → Option Int} {k v : Int} (hf : IsF D f) (ht : Tidy D) (hs : Maps.size D ≤ N)
    (h : w'.ownsMap Tryz.prog 3 (plainElem Tryz.prog 3) bm (N + 1) (D.put (.int .i64 k) (.lit (.int .i64 v)))) : MapIs w' bm (if (f k).isSome then N else N + 1) (fput f k v) := by
  refine ⟨_, ?_, hf.put ht.isMap k v⟩
  split
  · rename_i hk
    refine owns_tight h ?_
    rw [size_put ht, if_pos ((hf k).1.trans hk)]; exact hs
  · exact h

theorem MapIs.lt {w : World} {bm N : Nat} {f : Int → Option Int} (h : MapIs w bm N f) : bm < w.heap.size := by
  obtain ⟨D, h, _⟩ := h; exact h.lt
theorem MapIs.obj {w : World} {bm N : Nat} {f : Int → Option Int} (h : MapIs w bm N f) : ∃ es clock, w.heap[bm]? = some (.map es clock) := by
  obtain ⟨D, ⟨es, clock, hb, _⟩, _⟩ := h; exact ⟨es, clock, hb⟩
theorem MapIs.ne_cells {w : World} {bm N b : Nat} {f : Int → Option Int} {cs : Array Value} {T : TypeId} {fr : Nat × Nat} (h : MapIs w bm N f) (hb : w.heap[b]? = some (.cells cs T fr)) : b ≠ bm := by
  obtain ⟨es, clock, h⟩ := h.obj
  rintro rfl
  rw [h] at hb; cases hb
theorem MapIs.ext {w : World} {bm N : Nat} {f f' : Int → Option Int} (h : MapIs w bm N f) (he : ∀ k, f k = f' k) : MapIs w bm N f' := by
  obtain ⟨D, h, hf⟩ := h
  exact ⟨D, h, fun k => by rw [← he]; exact hf k⟩
theorem MapIs.mono {w : World} {bm N M : Nat} {f : Int → Option Int} (h : MapIs w bm N f) (hm : N ≤ M) : MapIs w bm M f := by
  obtain ⟨D, h, hf⟩ := h
  exact ⟨D, h.mono hm, hf⟩


theorem I64.wf {x : Int} (h : I64 x) : (Lit.int .i64 x).wf = true := by
  unfold I64 at h
  simp [Lit.wf, IntKind.min, IntKind.max, IntKind.signed, IntKind.bits]; omega
theorem new_map (w : World) : MapIs (w.alloc (.map #[] 0)) w.heap.size 0 (fun _ => none) := ⟨.map [], World.ownsMap_made w _ _ _, fun _ => ⟨rfl, rfl⟩⟩
theorem MapIs.below {w w' : World} {bm N : Nat} {f : Int → Option Int} (h : MapIs w bm N f) (hb : Below w.heap.size w w') : MapIs w' bm N f := by
  obtain ⟨D, ⟨es, clock, hm, r⟩, hf⟩ := h
  exact ⟨D, ⟨es, clock, kept_obj hb hm, r⟩, hf⟩

/-- What is wrong with the tasks of a system. -/
def firstOf (s : Int) : Int → List Int → List TV → Int
  | _, _, [] => 0
  | last, seen, x :: l => if rightOf x s ≠ 0 then rightOf x s else if x.id ≤ last then 10 else if x.p ∈ seen then 14 else firstOf s x.id (x.p :: seen) l
def sysBad (s r : Int) (L : List TV) : Prop := ¬ (0 ≤ s ∧ s ≤ 256 ∧ 0 ≤ r ∧ r ≤ 1000) ∨ L.length = 0
instance (s r : Int) (L : List TV) : Decidable (sysBad s r L) := by unfold sysBad; infer_instance
def checkOf (s r : Int) (L : List TV) : Int := if sysBad s r L then 1 else if 64 < L.length then 15 else firstOf s 0 [] L
theorem first_drop {s last : Int} {seen : List Int} {L : List TV} {k : Nat} {x : TV} (hx : L[k]? = some x) :
    firstOf s last seen (L.drop k) = if rightOf x s ≠ 0 then rightOf x s else if x.id ≤ last then 10 else if x.p ∈ seen then 14 else firstOf s x.id (x.p :: seen) (L.drop (k + 1)) := by
  obtain ⟨h2, h3⟩ := List.getElem?_eq_some_iff.1 hx
  rw [List.drop_eq_getElem_cons h2, h3, firstOf]

/-- The keys of a map. -/
def Seen (w : World) (bm N : Nat) (seen : List Int) : Prop := ∃ f, MapIs w bm N f ∧ ∀ k, (f k).isSome = decide (k ∈ seen)
/-- Where the rounds stand. -/
structure Rounds (w : World) (s r : Int) (a : Option Addr) (n cap bm N : Nat) (seen : List Int) (v : World) : Prop where
  low : Below w.heap.size w v
  s0 : v.cell? ⟨w.heap.size, 0, none⟩ = some (.int .i64 s)
  s2 : v.cell? ⟨w.heap.size, 2, none⟩ = some (.slice a n cap)
  map : Seen v bm N seen
  new : w.heap.size ≤ bm
theorem Rounds.below {w v v' : World} {s r : Int} {a : Option Addr} {n cap bm N : Nat} {seen : List Int} (h : Rounds w s r a n cap bm N seen v) (hb : Below v.heap.size v v') : Rounds w s r a n cap bm N seen v' := by
  obtain ⟨f, hm, hf⟩ := h.map
  exact ⟨below_up h.low hb, kept_cell hb h.s0, kept_cell hb h.s2, ⟨f, hm.below hb, hf⟩, h.new⟩
theorem rounds_new {w : World} {s r : Int} {a : Option Addr} {n cap : Nat} {T : TypeId} : Rounds w s r a n cap (w.heap.size + 1) 0 [] ((w.alloc (.cells #[.int .i64 s, .int .i64 r, .slice a n cap] T)).alloc (.map #[] 0)) := by
  refine ⟨(by repeat (first | exact Below.refl _ _ | (with_reducible assumption) | refine bw_alloc ?_ _ | refine bw_drew ?_)), (new_first w _ _ _ 0).trans rfl, (new_first w _ _ _ 2).trans rfl, ⟨fun _ => none, ?_, fun k => by simp⟩, by omega⟩
  have := new_map (w.alloc (.cells #[.int .i64 s, .int .i64 r, .slice a n cap] T))
  rwa [World.size_alloc] at this
/-- What a store into the map leaves. -/
theorem Rounds.put {w v v' : World} {s r : Int} {a : Option Addr} {n cap bm N : Nat} {seen : List Int} {D : DataW Unit} {f : Int → Option Int} {k y : Int} (h : Rounds w s r a n cap bm N seen v) (hD : v.ownsMap Tryz.prog 3 (plainElem Tryz.prog 3) bm N D) (hf : IsF D f) (hs : ∀ k, (f k).isSome = decide (k ∈ seen))
    (h1 : v'.ownsMap Tryz.prog 3 (plainElem Tryz.prog 3) bm (N + 1) (D.put (.int .i64 k) (.lit (.int .i64 y)))) (ht : v.mapTurned v' bm) : Rounds w s r a n cap bm (N + 1) (k :: seen) v' := by
  have hm := (MapIs.stored (w' := v') (bm := bm) (N := N) (k := k) (v := y) hf (hD.tidy lawK) hD.size_le h1).mono (M := N + 1) (by split <;> omega)
  have hg : v.grownBy v' (some bm) := World.mapTurned.grown ht
  obtain ⟨es, clock, hb, _⟩ := hD
  have hne : ∀ o x, v.cell? ⟨w.heap.size, o, none⟩ = some x → w.heap.size ≠ bm := by
    rintro o x hx rfl
    rw [World.cell?] at hx
    simp [hb] at hx
  have hk : ∀ o x, v.cell? ⟨w.heap.size, o, none⟩ = some x → v'.cell? ⟨w.heap.size, o, none⟩ = some x := by
    intro o x hx
    rw [← hx]
    exact World.cell?_of_block (hg.block _ (block_of_cell hx) (fun e => hne o x hx (Option.some.inj e)))
  refine ⟨h.low.grown hg h.low.size (fun k hk => by cases hk; exact h.new), hk _ _ h.s0, hk _ _ h.s2, ⟨_, hm, fun x => ?_⟩, h.new⟩
  unfold fput
  by_cases e : x = k
  · subst e; simp
  · rw [if_neg e, hs]; simp [e]

set_option maxRecDepth 100000 in
set_option maxHeartbeats 8000000 in
theorem first_any {w : World} {a : Option Addr} {n cap : Nat} {L : List TV} (s r : Int) (ha : Tasks w a n cap L) (hw : ∀ x ∈ L, I64 x.p ∧ I64 x.id) (hn64 : n ≤ 64) :
    Calls Tryz.prog 55 #[.agg #[.int .i64 s, .int .i64 r, .slice a n cap]] w fun e w' => e = .returned (.int .i64 (firstOf s 0 [] L)) ∧ Below w.heap.size w w' := by
  have HA := Lib.hid ha
  have HW := Lib.hid hw
  generalize hR : firstOf s 0 [] L = R
  have HR := Lib.hid hR
  have hmm := @run_makeMap Tryz.prog
  have hn : (n : Int) ≤ 9223372036854775807 := by omega
  clear ha hw hR
  go_enter Tryz.func55, Tryz.ntmps55
  go_wp2
  go_step3
  go_wp2
  go_step3
  go_wp2
  refine gen_world (Rounds w s r a n cap (w.heap.size + 1) 0 []) rounds_new ?_
  intro W1 hw1
  have H1 := Lib.hid hw1
  clear hw1 hmm
  generalize w.heap.size + 1 = bm at H1 ⊢
  go_loopw [3, 4, 14] (fun v t u wr => ∃ (k : Nat) (last : Int) (seen : List Int), k ≤ n ∧ u = .int .i64 k ∧ t = .int .i64 last ∧ v = .int .i64 0 ∧ Hid (firstOf s last seen (L.drop k) = R) ∧ Hid (Rounds w s r a n cap bm k seen wr)) (fun _ _ u _ => (n - intOf u).toNat)
  case atStart => exact ⟨0, 0, [], by omega, rfl, rfl, rfl, by show _ = _; rw [List.drop_zero]; exact HR.out, H1⟩
  case round =>
    obtain ⟨k, last, seen, hk, rfl, rfl, rfl, HS, HP⟩ := hrel
    obtain ⟨f, ⟨D, hown, hf⟩, hs⟩ := HP.out.map
    have e0 := HP.out.s0
    have e2 := HP.out.s2
    have e9 := block_of_cell e0
    by_cases hlt : k < n
    · obtain ⟨x, hx⟩ := nth_of HA.out.len hlt
      obtain ⟨g, o, rfl, ⟨c0, c1, c2, c3, c4, c5, c6⟩⟩ := (HA.out.view.below HP.out.low).at_ hx
      have hk1 : (k : Int) < (n : Int) := by omega
      have hk0 : (0 : Int) ≤ (k : Int) := by omega
      have hwf := HW.out x (List.mem_of_getElem? hx)
      have hkey := keyOf_int_mk Tryz.underlying3 hwf.1.wf
      have hwv : (Lit.int .i64 x.id).wf = true := hwf.2.wf
      have hh : Maps.has D (.int .i64 x.p) = decide (x.p ∈ seen) := by rw [(hf x.p).1, hs]
      have hF := first_drop (s := s) (last := last) (seen := seen) hx
      rw [HS.out] at hF
      have HX := Lib.hid ((HA.out.ok.at_ hx).below HP.out.low)
      have RX := Lib.hid (fun v (hb : Below wr.heap.size wr v) => right_any x s v (HX.out.below hb))
      unfold TV.val at RX
      clear hx hwf
      by_cases h1 : rightOf x s = 0
      rotate_left
      · rw [if_pos h1] at hF
        have d1 : (rightOf x s == 0) = false := by rw [beq_eq_false_iff_ne]; exact h1
        have d2 : (rightOf x s != 0) = true := by rw [bne, d1]; rfl
        have HF := Lib.hid hF
        generalize rightOf x s = q at *
        clear hF h1 hs hf
        go_wp2_with (first
            | (at_lookup; refine wpList_lookup_own_ok_int _ rfl _ _ 136 rfl 3 3 .i64 lawK Tryz.underlying136 Tryz.underlying3 (zeroK _) bm k D rfl (hown.alloc _) _ _ rfl hkey ?_; rw [hh]; intro c _ _)
            | (go_at_call 15; (with_reducible refine (RX.out _ (by repeat (first | exact Below.refl _ _ | (with_reducible assumption) | refine bw_alloc ?_ _ | refine bw_drew ?_))).mono ?_); rintro e wx ⟨rfl, bx⟩; have BX := Lib.hid (bw_alloc (Below.refl _ wr) (.cells #[.int .i64 x.id, .int .i64 x.c, .int .i64 x.d, .int .i64 x.t, .int .i64 x.p, .slice x.a1 x.ch.length x.c1, .slice x.a2 x.us.length x.c2] 26)); have k0 := kept_cell (v := .int .i64 x.id) bx ((atB_new _ x _).c0); have k4 := kept_cell (v := .int .i64 x.p) bx ((atB_new _ x _).c4); have HB := Lib.hid (below_up BX.out bx); clear bx BX))
        rw [Exit.noGoto_ret]
        go_ret
        rw [HF.out]
        exact ⟨rfl, (HP.out.below HB.out).low⟩
      rw [if_neg (fun z => z h1)] at hF
      rw [h1] at RX
      by_cases h2 : x.id ≤ last
      · rw [if_pos h2] at hF
        have d1 : decide (x.id ≤ last) = true := decide_eq_true h2
        have HF := Lib.hid hF
        clear hF h1 hs hf
        go_wp2_with (first
            | (at_lookup; refine wpList_lookup_own_ok_int _ rfl _ _ 136 rfl 3 3 .i64 lawK Tryz.underlying136 Tryz.underlying3 (zeroK _) bm k D rfl (hown.alloc _) _ _ rfl hkey ?_; rw [hh]; intro c _ _)
            | (go_at_call 15; (with_reducible refine (RX.out _ (by repeat (first | exact Below.refl _ _ | (with_reducible assumption) | refine bw_alloc ?_ _ | refine bw_drew ?_))).mono ?_); rintro e wx ⟨rfl, bx⟩; have BX := Lib.hid (bw_alloc (Below.refl _ wr) (.cells #[.int .i64 x.id, .int .i64 x.c, .int .i64 x.d, .int .i64 x.t, .int .i64 x.p, .slice x.a1 x.ch.length x.c1, .slice x.a2 x.us.length x.c2] 26)); have k0 := kept_cell (v := .int .i64 x.id) bx ((atB_new _ x _).c0); have k4 := kept_cell (v := .int .i64 x.p) bx ((atB_new _ x _).c4); have HB := Lib.hid (below_up BX.out bx); clear bx BX))
        rw [Exit.noGoto_ret]
        go_ret
        rw [HF.out]
        exact ⟨rfl, (HP.out.below HB.out).low⟩
      rw [if_neg h2] at hF
      have d1 : decide (x.id ≤ last) = false := decide_eq_false h2
      by_cases h3 : x.p ∈ seen
      · rw [if_pos h3] at hF
        rw [decide_eq_true h3] at hh
        have HF := Lib.hid hF
        clear hF h1 hs hf h3
        go_wp2_with (first
            | (at_lookup; refine wpList_lookup_own_ok_int _ rfl _ _ 136 rfl 3 3 .i64 lawK Tryz.underlying136 Tryz.underlying3 (zeroK _) bm k D rfl (hown.alloc _) _ _ rfl hkey ?_; rw [hh]; intro c _ _)
            | (go_at_call 15; (with_reducible refine (RX.out _ (by repeat (first | exact Below.refl _ _ | (with_reducible assumption) | refine bw_alloc ?_ _ | refine bw_drew ?_))).mono ?_); rintro e wx ⟨rfl, bx⟩; have BX := Lib.hid (bw_alloc (Below.refl _ wr) (.cells #[.int .i64 x.id, .int .i64 x.c, .int .i64 x.d, .int .i64 x.t, .int .i64 x.p, .slice x.a1 x.ch.length x.c1, .slice x.a2 x.us.length x.c2] 26)); have k0 := kept_cell (v := .int .i64 x.id) bx ((atB_new _ x _).c0); have k4 := kept_cell (v := .int .i64 x.p) bx ((atB_new _ x _).c4); have HB := Lib.hid (below_up BX.out bx); clear bx BX))
        rw [Exit.noGoto_ret]
        go_ret
        rw [HF.out]
        exact ⟨rfl, (HP.out.below HB.out).low⟩
      · rw [if_neg h3] at hF
        rw [decide_eq_false h3] at hh
        have HF : Hid (firstOf s x.id (x.p :: seen) (L.drop (k + 1)) = R) := hF.symm
        have HS3 := Lib.hid hs
        have HF3 := Lib.hid hf
        have HN3 : k < maxLen := by unfold maxLen; omega
        have HPUT : Hid (∀ v v', Below wr.heap.size wr v → v.ownsMap Tryz.prog 3 (plainElem Tryz.prog 3) bm k D → v'.ownsMap Tryz.prog 3 (plainElem Tryz.prog 3) bm (k + 1) (D.put (.int .i64 x.p) (.lit (.int .i64 x.id))) → v.mapTurned v' bm → Rounds w s r (some ⟨g, o, none⟩) n cap bm (k + 1) (x.p :: seen) v') :=
          fun v v' hb ho h1 h2 => (HP.out.below hb).put ho hf hs h1 h2
        have HOWN : Hid (∀ v, Below wr.heap.size wr v → v.ownsMap Tryz.prog 3 (plainElem Tryz.prog 3) bm k D) := fun v hb => by
          obtain ⟨es, clock, hm, q⟩ := hown
          exact ⟨es, clock, kept_obj hb hm, q⟩
        clear hF h1 hs hf h3
        go_wp2_with (first
            | (at_mapUpdate; refine wpList_mapUpdate_in _ rfl _ _ _ 136 rfl 3 3 lawK Tryz.underlying136 _ bm k D rfl (HOWN.out _ HB.out) HN3 _ _ _ rfl rfl hkey _ [] (plainElem_int Tryz.underlying3 hwv) ?_; intro w5 hown1 hturn1; have H5 := Lib.hid (HPUT.out _ _ HB.out (HOWN.out _ HB.out) hown1 hturn1); clear hown1 hturn1)
            | (at_lookup; refine wpList_lookup_own_ok_int _ rfl _ _ 136 rfl 3 3 .i64 lawK Tryz.underlying136 Tryz.underlying3 (zeroK _) bm k D rfl (hown.alloc _) _ _ rfl hkey ?_; rw [hh]; intro c _ _)
            | (go_at_call 15; (with_reducible refine (RX.out _ (by repeat (first | exact Below.refl _ _ | (with_reducible assumption) | refine bw_alloc ?_ _ | refine bw_drew ?_))).mono ?_); rintro e wx ⟨rfl, bx⟩; have BX := Lib.hid (bw_alloc (Below.refl _ wr) (.cells #[.int .i64 x.id, .int .i64 x.c, .int .i64 x.d, .int .i64 x.t, .int .i64 x.p, .slice x.a1 x.ch.length x.c1, .slice x.a2 x.us.length x.c2] 26)); have k0 := kept_cell (v := .int .i64 x.id) bx ((atB_new _ x _).c0); have k4 := kept_cell (v := .int .i64 x.p) bx ((atB_new _ x _).c4); have HB := Lib.hid (below_up BX.out bx); clear bx BX))
        go_roundw
        case rel => exact ⟨k + 1, x.id, x.p :: seen, by omega, by go_num, rfl, rfl, HF, H5⟩
        case measure => simp [intOf]; omega
    · obtain rfl : n = k := by omega
      have HF : Hid (R = 0) := by
        show _ = _
        rw [← HS.out, List.drop_of_length_le (by rw [HA.out.len]; exact Nat.le_refl _), firstOf]
      go_wp2_with fail
      go_ret
      rw [HF.out]
      exact ⟨rfl, HP.out.low⟩

set_option maxRecDepth 100000 in
set_option maxHeartbeats 4000000 in
theorem check_any {w : World} {a : Option Addr} {n cap : Nat} {L : List TV} (s r : Int) (ha : Tasks w a n cap L) (hw : ∀ x ∈ L, I64 x.p ∧ I64 x.id) :
    Calls Tryz.prog 27 #[.agg #[.int .i64 s, .int .i64 r, .slice a n cap]] w fun e w' => e = .returned (.int .i64 (checkOf s r L)) ∧ Below w.heap.size w w' := by
  have hl := ha.len
  have hn : (n : Int) ≤ 9223372036854775807 := by have := ha.le; have := ha.small; omega
  by_cases h1 : 0 ≤ s ∧ s ≤ 256
  rotate_left
  · have hr : checkOf s r L = 1 := by unfold checkOf; rw [if_pos]; unfold sysBad; omega
    rw [hr]
    have C := Lib.hid (fun w => within_no s 0 256 h1 w)
    clear hr h1 ha hw hl
    go_enter Tryz.func27, Tryz.ntmps27
    go_wp2_with (go_at_call 34; (with_reducible refine (C.out _).mono ?_); rintro e w1 ⟨rfl, rfl⟩)
    go_ret
    exact ⟨rfl, (by repeat (first | exact Below.refl _ _ | (with_reducible assumption) | refine bw_alloc ?_ _ | refine bw_drew ?_))⟩
  have C := Lib.hid (fun w => within_yes s 0 256 h1.1 h1.2 w)
  by_cases h2 : 0 ≤ r ∧ r ≤ 1000
  rotate_left
  · have hr : checkOf s r L = 1 := by unfold checkOf; rw [if_pos]; unfold sysBad; omega
    rw [hr]
    have D := Lib.hid (fun w => within64_no r 0 1000 h2 w)
    clear hr h1 h2 ha hw hl
    go_enter Tryz.func27, Tryz.ntmps27
    go_wp2_with (first
      | (go_at_call 34; (with_reducible refine (C.out _).mono ?_); rintro e w1 ⟨rfl, rfl⟩)
      | (go_at_call 54; (with_reducible refine (D.out _).mono ?_); rintro e w1 ⟨rfl, rfl⟩))
    go_ret
    exact ⟨rfl, (by repeat (first | exact Below.refl _ _ | (with_reducible assumption) | refine bw_alloc ?_ _ | refine bw_drew ?_))⟩
  have D := Lib.hid (fun w => within64_yes r 0 1000 h2.1 h2.2 w)
  by_cases h3 : n = 0
  · have hr : checkOf s r L = 1 := by unfold checkOf; rw [if_pos]; unfold sysBad; omega
    rw [hr]
    have d1 : ((n : Int) == 0) = true := by rw [beq_iff_eq]; omega
    clear hr h1 h2 h3 ha hw hl
    go_enter Tryz.func27, Tryz.ntmps27
    go_wp2_with (first
      | (go_at_call 34; (with_reducible refine (C.out _).mono ?_); rintro e w1 ⟨rfl, rfl⟩)
      | (go_at_call 54; (with_reducible refine (D.out _).mono ?_); rintro e w1 ⟨rfl, rfl⟩))
    go_ret
    exact ⟨rfl, (by repeat (first | exact Below.refl _ _ | (with_reducible assumption) | refine bw_alloc ?_ _ | refine bw_drew ?_))⟩
  have hr : checkOf s r L = if 64 < L.length then 15 else firstOf s 0 [] L := by unfold checkOf; rw [if_neg]; unfold sysBad; omega
  rw [hr]
  have d1 : ((n : Int) == 0) = false := by rw [beq_eq_false_iff_ne]; omega
  by_cases h4 : 64 < n
  · rw [if_pos (by omega)]
    have h5 : (64 : Int) < (n : Int) := by omega
    clear hr h1 h2 h3 ha hw hl
    go_enter Tryz.func27, Tryz.ntmps27
    go_wp2_with (first
      | (go_at_call 34; (with_reducible refine (C.out _).mono ?_); rintro e w1 ⟨rfl, rfl⟩)
      | (go_at_call 54; (with_reducible refine (D.out _).mono ?_); rintro e w1 ⟨rfl, rfl⟩))
    go_ret
    exact ⟨rfl, (by repeat (first | exact Below.refl _ _ | (with_reducible assumption) | refine bw_alloc ?_ _ | refine bw_drew ?_))⟩
  · rw [if_neg (by omega)]
    have h5 : ¬ (64 : Int) < (n : Int) := by omega
    have F : Hid (∀ v, Below w.heap.size w v → _) := fun v hb => first_any s r (ha.below hb) hw (by omega)
    clear hr h1 h2 h3 ha hw hl
    go_enter Tryz.func27, Tryz.ntmps27
    go_wp2_with (first
      | (go_at_call 34; (with_reducible refine (C.out _).mono ?_); rintro e w1 ⟨rfl, rfl⟩)
      | (go_at_call 54; (with_reducible refine (D.out _).mono ?_); rintro e w1 ⟨rfl, rfl⟩)
      | (go_at_call 55; (with_reducible refine (F.out _ (by repeat (first | exact Below.refl _ _ | (with_reducible assumption) | refine bw_alloc ?_ _ | refine bw_drew ?_))).mono ?_); rintro e w1 ⟨rfl, b1⟩; have B1 := Lib.hid b1; clear b1))
    go_ret
    exact ⟨rfl, below_up (by repeat (first | exact Below.refl _ _ | (with_reducible assumption) | refine bw_alloc ?_ _ | refine bw_drew ?_)) B1.out⟩
end Go.Proofs.YtlpffgmfgkleiaaGreatDoor

/-
  The walk over what is wrong with a system, by the document's own words.
-/
namespace Go.Proofs.YtlpffgmfgkleiaaGreatDoor
open Go.RowKit Go.Maps

/-- A system in a box. -/
structure SysB (w : World) (g : Nat) (s r : Int) (a : Option Addr) (n cap : Nat) (v : World) : Prop where
  low : Below w.heap.size w v
  s0 : v.cell? ⟨g, 0, none⟩ = some (.int .i64 s)
  s1 : v.cell? ⟨g, 1, none⟩ = some (.int .i64 r)
  s2 : v.cell? ⟨g, 2, none⟩ = some (.slice a n cap)
theorem SysB.below {w v v' : World} {g : Nat} {s r : Int} {a : Option Addr} {n cap : Nat} (h : SysB w g s r a n cap v) (hb : Below v.heap.size v v') : SysB w g s r a n cap v' :=
  ⟨below_up h.low hb, kept_cell hb h.s0, kept_cell hb h.s1, kept_cell hb h.s2⟩
theorem sysB_new {w : World} {s r : Int} {a : Option Addr} {n cap : Nat} {T : TypeId} : SysB w w.heap.size s r a n cap (w.alloc (.cells #[.int .i64 s, .int .i64 r, .slice a n cap] T)) :=
  ⟨(by repeat (first | exact Below.refl _ _ | (with_reducible assumption) | refine bw_alloc ?_ _ | refine bw_drew ?_)), by rw [World.cell?_alloc_new]; rfl, by rw [World.cell?_alloc_new]; rfl, by rw [World.cell?_alloc_new]; rfl⟩

theorem right_id {x : TV} {s : Int} (h : rightOf x s = 0) : 1 ≤ x.id := by
  unfold rightOf at h
  by_cases g : idBad x
  · rw [if_pos g] at h; omega
  · unfold idBad at g; omega
/-- The priorities ahead, the last one first; the last number ahead. -/
def seenOf (L : List TV) : List Int := (L.map TV.p).reverse
def lastOf (L : List TV) (k : Nat) : Int := match k with
  | 0 => 0
  | k + 1 => (L[k]?.map TV.id).getD 0
theorem seen_next {L : List TV} {k : Nat} {x : TV} (hx : L[k]? = some x) : seenOf (L.take (k + 1)) = x.p :: seenOf (L.take k) := by
  unfold seenOf
  rw [List.take_add_one, hx]
  simp
theorem seen_mem {L : List TV} {j k : Nat} {x : TV} (hx : L[j]? = some x) (hj : j < k) : x.p ∈ seenOf (L.take k) := by
  unfold seenOf
  rw [List.mem_reverse, List.mem_map]
  exact ⟨x, List.mem_of_getElem? (i := j) (by rw [List.getElem?_take, if_pos hj]; exact hx), rfl⟩
theorem seen_not {L : List TV} {k : Nat} {p : Int} (h : ∀ j y, j < k → L[j]? = some y → ¬ y.p = p) : ¬ p ∈ seenOf (L.take k) := by
  unfold seenOf
  rw [List.mem_reverse, List.mem_map]
  rintro ⟨y, hy, rfl⟩
  obtain ⟨j, hj⟩ := List.mem_iff_getElem?.1 hy
  rw [List.getElem?_take] at hj
  split at hj
  · rename_i q; exact h j y q hj rfl
  · cases hj

set_option maxRecDepth 100000 in
set_option maxHeartbeats 8000000 in
theorem rcheck_any {w : World} {a : Option Addr} {n cap : Nat} {L : List TV} (s r : Int) (ha : Tasks w a n cap L) :
    Calls Tryz.prog 30 #[.agg #[.int .i64 s, .int .i64 r, .slice a n cap]] w fun e w' => e = .returned (.int .i64 (checkOf s r L)) ∧ Below w.heap.size w w' := by
  have hl := ha.len
  have hn : (n : Int) ≤ 9223372036854775807 := by have := ha.le; have := ha.small; omega
  by_cases hbad : sysBad s r L
  · have hr : checkOf s r L = 1 := by unfold checkOf; rw [if_pos hbad]
    rw [hr]
    unfold sysBad at hbad
    have d : decide (s < 0) = true ∨ (decide (s < 0) = false ∧ decide (256 < s) = true) ∨ (decide (s < 0) = false ∧ decide (256 < s) = false ∧ decide (r < 0) = true) ∨ (decide (s < 0) = false ∧ decide (256 < s) = false ∧ decide (r < 0) = false ∧ decide (1000 < r) = true) ∨ (decide (s < 0) = false ∧ decide (256 < s) = false ∧ decide (r < 0) = false ∧ decide (1000 < r) = false ∧ ((n : Int) == 0) = true) := by
      simp only [decide_eq_true_eq, decide_eq_false_iff_not, beq_iff_eq]; omega
    clear hr hbad ha hl
    rcases d with d1 | ⟨d1, d2⟩ | ⟨d1, d2, d3⟩ | ⟨d1, d2, d3, d4⟩ | ⟨d1, d2, d3, d4, d5⟩
    all_goals
      go_enter Tryz.func30, Tryz.ntmps30
      go_wp2
      go_ret
      exact ⟨rfl, (by repeat (first | exact Below.refl _ _ | (with_reducible assumption) | refine bw_alloc ?_ _ | refine bw_drew ?_))⟩
  have hr : checkOf s r L = if 64 < L.length then 15 else firstOf s 0 [] L := by unfold checkOf; rw [if_neg hbad]
  rw [hr]
  unfold sysBad at hbad
  have d1 : decide (s < 0) = false := decide_eq_false (by omega)
  have d2 : decide (256 < s) = false := decide_eq_false (by omega)
  have d3 : decide (r < 0) = false := decide_eq_false (by omega)
  have d4 : decide (1000 < r) = false := decide_eq_false (by omega)
  have d5 : ((n : Int) == 0) = false := by rw [beq_eq_false_iff_ne]; omega
  by_cases h4 : 64 < n
  · rw [if_pos (by omega)]
    have h5 : (64 : Int) < (n : Int) := by omega
    clear hr hbad ha hl
    go_enter Tryz.func30, Tryz.ntmps30
    go_wp2
    go_ret
    exact ⟨rfl, (by repeat (first | exact Below.refl _ _ | (with_reducible assumption) | refine bw_alloc ?_ _ | refine bw_drew ?_))⟩
  rw [if_neg (by omega)]
  have h5 : ¬ (64 : Int) < (n : Int) := by omega
  have HA := Lib.hid ha
  generalize hR : firstOf s 0 [] L = R
  have HR := Lib.hid hR
  clear hr hbad ha hl hR h4
  go_enter Tryz.func30, Tryz.ntmps30
  go_wp2
  refine gen_world (SysB w w.heap.size s r a n cap) sysB_new ?_
  intro W1 hw1
  have H1 := Lib.hid hw1
  clear hw1
  go_loopw [3] (fun u wr => ∃ (k : Nat), k ≤ n ∧ u = .int .i64 k ∧ Hid (firstOf s (lastOf L k) (seenOf (L.take k)) (L.drop k) = R) ∧ Hid (SysB w w.heap.size s r a n cap wr)) (fun u _ => (n - intOf u).toNat)
  case atStart => exact ⟨0, by omega, rfl, by show _ = _; rw [List.drop_zero]; exact HR.out, H1⟩
  case round =>
    obtain ⟨k, hk, rfl, HS, HP⟩ := hrel
    obtain ⟨_, e0, e1, e2⟩ := HP.out
    by_cases hlt : k < n
    · obtain ⟨x, hx⟩ := nth_of HA.out.len hlt
      obtain ⟨g, o, rfl, ⟨c0, c1, c2, c3, c4, c5, c6⟩⟩ := (HA.out.view.below HP.out.low).at_ hx
      have hk1 : (k : Int) < (n : Int) := by omega
      have hk0 : (0 : Int) ≤ (k : Int) := by omega
      have hF := first_drop (s := s) (last := lastOf L k) (seen := seenOf (L.take k)) hx
      rw [HS.out] at hF
      have HX := Lib.hid ((HA.out.ok.at_ hx).below HP.out.low)
      have RX := Lib.hid (fun v (hb : Below wr.heap.size wr v) => rright_any x s v (HX.out.below hb))
      unfold TV.val at RX
      have HXX := Lib.hid hx
      clear hx
      by_cases h1 : rightOf x s = 0
      rotate_left
      · rw [if_pos h1] at hF
        have d6 : (rightOf x s == 0) = false := by rw [beq_eq_false_iff_ne]; exact h1
        have d7 : (rightOf x s != 0) = true := by rw [bne, d6]; rfl
        have HF := Lib.hid hF
        generalize rightOf x s = q at *
        clear hF h1
        go_upto_region 8 with fail
        go_still_tail 7, (by kernel_rfl)
        go_wp2_with (go_at_call 20; (with_reducible refine (RX.out _ (by repeat (first | exact Below.refl _ _ | (with_reducible assumption) | refine bw_alloc ?_ _ | refine bw_drew ?_))).mono ?_); rintro e w1 ⟨rfl, b1⟩; have B1 := Lib.hid (below_up (W := wr) (by repeat (first | exact Below.refl _ _ | (with_reducible assumption) | refine bw_alloc ?_ _ | refine bw_drew ?_)) b1); clear b1)
        go_ret
        rw [HF.out]
        exact ⟨rfl, below_up HP.out.low B1.out⟩
      rw [if_neg (fun z => z h1)] at hF
      rw [h1] at RX
      have HF := Lib.hid hF
      have HID := Lib.hid (right_id h1)
      clear hF h1
      go_upto_region 8 with fail
      go_still_tail 7, (by kernel_rfl)
      go_upto_region 11 with (go_at_call 20; (with_reducible refine (RX.out _ (by repeat (first | exact Below.refl _ _ | (with_reducible assumption) | refine bw_alloc ?_ _ | refine bw_drew ?_))).mono ?_); rintro e w1 ⟨rfl, b1⟩; have HP1 := Lib.hid (HP.out.below (below_up (W := wr) (by repeat (first | exact Below.refl _ _ | (with_reducible assumption) | refine bw_alloc ?_ _ | refine bw_drew ?_)) b1)); clear b1)
      clear HP c0 c1 c2 c3 c4 c5 c6 e0 e1 e2 RX HX
      obtain ⟨_, e0, e1, e2⟩ := HP1.out
      by_cases hk9 : k = 0
      · have HF2 : Hid (R = if x.p ∈ seenOf (L.take k) then 14 else firstOf s x.id (x.p :: seenOf (L.take k)) (L.drop (k + 1))) := by
          show _ = _
          have := HF.out
          rw [if_neg (by rw [hk9, lastOf]; have := HID.out; omega)] at this
          exact this
        have f1 : ¬ (0 : Int) < (k : Int) := by omega
        have f2 : ¬ 0 < k := by omega
        have f3 : decide ((0 : Int) < (k : Int)) = false := decide_eq_false f1
        clear hk9
        go_quiet (fail)
        go_wp2
        go_loopw [5] (fun u wr => ∃ (i : Nat), i ≤ k ∧ u = .int .i64 i ∧ Hid (∀ j y, j < i → L[j]? = some y → ¬ y.p = x.p) ∧ Hid (SysB w w.heap.size s r (some ⟨g, o, none⟩) n cap wr)) (fun u _ => (k - intOf u).toNat)
        case atStart => exact ⟨0, by omega, rfl, fun j y hj => absurd hj (Nat.not_lt_zero _), HP1.out.below (below_same (Below.refl _ _) rfl rfl rfl rfl)⟩
        case round =>
          obtain ⟨i, hi, rfl, HT, HQ⟩ := hrel
          obtain ⟨_, e0, e1, e2⟩ := HQ.out
          by_cases hlt2 : i < k
          · obtain ⟨y, hy⟩ := nth_of HA.out.len (show i < n by omega)
            obtain ⟨g', o', eq, ⟨b0, b1, b2, b3, b4, b5, b6⟩⟩ := (HA.out.view.below HQ.out.low).at_ hy
            cases eq
            obtain ⟨g', o', eq, ⟨c0, c1, c2, c3, c4, c5, c6⟩⟩ := (HA.out.view.below HQ.out.low).at_ HXX.out
            cases eq
            have hi1 : (i : Int) < (n : Int) := by omega
            have hi2 : (i : Int) < (k : Int) := by omega
            have hi0 : (0 : Int) ≤ (i : Int) := by omega
            by_cases hp : y.p = x.p
            · have hR : Hid (R = 14) := by
                show _ = _
                have := HF2.out
                rw [if_pos (hp ▸ seen_mem hy hlt2)] at this
                exact this
              have d6 : (y.p == x.p) = true := by rw [beq_iff_eq]; exact hp
              clear hy hp b0 b1 b2 b3 b5 b6 c0 c1 c2 c3 c5 c6 HT
              go_upto_region 16 with fail
              go_quiet (fail)
              go_wp2
              go_ret
              rw [hR.out]
              exact ⟨rfl, below_same HQ.out.low rfl rfl rfl rfl⟩
            · have HT2 : Hid (∀ j z, j < i + 1 → L[j]? = some z → ¬ z.p = x.p) := by
                intro j z hj hz
                rcases Nat.lt_succ_iff_lt_or_eq.1 hj with q | rfl
                · exact HT.out j z q hz
                · rw [hy] at hz; cases hz; exact hp
              have d6 : (y.p == x.p) = false := by rw [beq_eq_false_iff_ne]; exact hp
              clear hy hp b0 b1 b2 b3 b5 b6 c0 c1 c2 c3 c5 c6 HT
              go_upto_region 16 with fail
              go_quiet (fail)
              go_wp2
              go_roundw
              case rel => exact ⟨i + 1, by omega, by go_num, HT2, HQ.out.below (below_same (Below.refl _ _) rfl rfl rfl rfl)⟩
              case measure => simp [intOf]; omega
          · obtain rfl : i = k := by omega
            have HN : Hid (firstOf s (lastOf L (i + 1)) (seenOf (L.take (i + 1))) (L.drop (i + 1)) = R) := by
              show _ = _
              have := HF2.out
              rw [if_neg (seen_not HT.out)] at this
              rw [seen_next HXX.out, lastOf, HXX.out, this]
              rfl
            go_wp2
            go_roundw
            case rel => exact ⟨i + 1, by omega, by go_num, HN, HQ⟩
            case measure => simp [intOf]; omega
      · obtain ⟨j, hj⟩ : ∃ j, k = j + 1 := ⟨k - 1, by omega⟩
        obtain ⟨y, hy⟩ := nth_of HA.out.len (show j < n by omega)
        obtain ⟨g', o', eq, ⟨b0, b1, b2, b3, b4, b5, b6⟩⟩ := (HA.out.view.below HP1.out.low).at_ hy
        cases eq
        obtain ⟨g', o', eq, ⟨c0, c1, c2, c3, c4, c5, c6⟩⟩ := (HA.out.view.below HP1.out.low).at_ HXX.out
        cases eq
        have f1 : (0 : Int) < (k : Int) := by omega
        have f2 : 0 < k := by omega
        have f3 : decide ((0 : Int) < (k : Int)) = true := decide_eq_true f1
        have f4 : (j : Int) < (n : Int) := by omega
        have f5 : (0 : Int) ≤ (j : Int) := by omega
        have HL : Hid (lastOf L k = y.id) := by
          show _ = _
          rw [hj, lastOf, hy]; rfl
        have hw : IntKind.i64.wrap ((k : Int) - 1) = (j : Int) := by rw [hj]; exact (IntWalk.i64_in _ (by omega)).trans (by omega)
        clear hk9 hj b1 b2 b3 b4 b5 b6 c1 c2 c3 c4 c5 c6 hy
        by_cases hle : x.id ≤ y.id
        · have hR : Hid (R = 10) := by
            show _ = _
            have := HF.out
            rw [HL.out, if_pos hle] at this
            exact this
          have d6 : decide (x.id ≤ y.id) = true := decide_eq_true hle
          go_quiet (fail)
          go_wp2
          go_ret
          rw [hR.out]
          exact ⟨rfl, below_same HP1.out.low rfl rfl rfl rfl⟩
        have HF2 : Hid (R = if x.p ∈ seenOf (L.take k) then 14 else firstOf s x.id (x.p :: seenOf (L.take k)) (L.drop (k + 1))) := by
          show _ = _
          have := HF.out
          rw [HL.out, if_neg hle] at this
          exact this
        have d6 : decide (x.id ≤ y.id) = false := decide_eq_false hle
        go_quiet (fail)
        clear b0 c0
        go_wp2
        go_loopw [5] (fun u wr => ∃ (i : Nat), i ≤ k ∧ u = .int .i64 i ∧ Hid (∀ j y, j < i → L[j]? = some y → ¬ y.p = x.p) ∧ Hid (SysB w w.heap.size s r (some ⟨g, o, none⟩) n cap wr)) (fun u _ => (k - intOf u).toNat)
        case atStart => exact ⟨0, by omega, rfl, fun j y hj => absurd hj (Nat.not_lt_zero _), HP1.out.below (below_same (Below.refl _ _) rfl rfl rfl rfl)⟩
        case round =>
          obtain ⟨i, hi, rfl, HT, HQ⟩ := hrel
          obtain ⟨_, e0, e1, e2⟩ := HQ.out
          by_cases hlt2 : i < k
          · obtain ⟨y, hy⟩ := nth_of HA.out.len (show i < n by omega)
            obtain ⟨g', o', eq, ⟨b0, b1, b2, b3, b4, b5, b6⟩⟩ := (HA.out.view.below HQ.out.low).at_ hy
            cases eq
            obtain ⟨g', o', eq, ⟨c0, c1, c2, c3, c4, c5, c6⟩⟩ := (HA.out.view.below HQ.out.low).at_ HXX.out
            cases eq
            have hi1 : (i : Int) < (n : Int) := by omega
            have hi2 : (i : Int) < (k : Int) := by omega
            have hi0 : (0 : Int) ≤ (i : Int) := by omega
            by_cases hp : y.p = x.p
            · have hR : Hid (R = 14) := by
                show _ = _
                have := HF2.out
                rw [if_pos (hp ▸ seen_mem hy hlt2)] at this
                exact this
              have d6 : (y.p == x.p) = true := by rw [beq_iff_eq]; exact hp
              clear hy hp b0 b1 b2 b3 b5 b6 c0 c1 c2 c3 c5 c6 HT
              go_upto_region 16 with fail
              go_quiet (fail)
              go_wp2
              go_ret
              rw [hR.out]
              exact ⟨rfl, below_same HQ.out.low rfl rfl rfl rfl⟩
            · have HT2 : Hid (∀ j z, j < i + 1 → L[j]? = some z → ¬ z.p = x.p) := by
                intro j z hj hz
                rcases Nat.lt_succ_iff_lt_or_eq.1 hj with q | rfl
                · exact HT.out j z q hz
                · rw [hy] at hz; cases hz; exact hp
              have d6 : (y.p == x.p) = false := by rw [beq_eq_false_iff_ne]; exact hp
              clear hy hp b0 b1 b2 b3 b5 b6 c0 c1 c2 c3 c5 c6 HT
              go_upto_region 16 with fail
              go_quiet (fail)
              go_wp2
              go_roundw
              case rel => exact ⟨i + 1, by omega, by go_num, HT2, HQ.out.below (below_same (Below.refl _ _) rfl rfl rfl rfl)⟩
              case measure => simp [intOf]; omega
          · obtain rfl : i = k := by omega
            have HN : Hid (firstOf s (lastOf L (i + 1)) (seenOf (L.take (i + 1))) (L.drop (i + 1)) = R) := by
              show _ = _
              have := HF2.out
              rw [if_neg (seen_not HT.out)] at this
              rw [seen_next HXX.out, lastOf, HXX.out, this]
              rfl
            go_wp2
            go_roundw
            case rel => exact ⟨i + 1, by omega, by go_num, HN, HQ⟩
            case measure => simp [intOf]; omega
    · obtain rfl : n = k := by omega
      have HF : Hid (R = 0) := by
        show _ = _
        rw [← HS.out, List.drop_of_length_le (by rw [HA.out.len]; exact Nat.le_refl _), firstOf]
      go_wp2_with fail
      go_ret
      rw [HF.out]
      exact ⟨rfl, HP.out.low⟩
end Go.Proofs.YtlpffgmfgkleiaaGreatDoor

/-
  The walk over the system that plain numbers mean.
-/
namespace Go.Proofs.YtlpffgmfgkleiaaGreatDoor
open Go.RowKit Go.Maps

/-- What is promised of a system by plain numbers. -/
structure Made (sets r : Int) (L : List TV) : Prop where
  s1 : 1 ≤ sets
  s8 : sets ≤ 8
  r0 : 0 ≤ r
  r3 : r ≤ 3
  pos : 0 < L.length
  six : L.length ≤ 6
  good : ∀ (k : Nat) (x : TV), L[k]? = some x → Good k sets x
/-- The system that comes back. -/
def MadeBack (w : World) (e : Ending) (w' : World) : Prop :=
  ∃ (s r : Int) (a : Option Addr) (n c : Nat) (L : List TV), e = .returned (.agg #[.int .i64 s, .int .i64 r, .slice a n c]) ∧ OwnT w' w.heap.size (.slice a n c) L ∧ AllOk w' L ∧ (∀ x ∈ L, IsI w' x.a1 x.ch ∧ IsI w' x.a2 x.us) ∧ Made s r L ∧ Below w.heap.size w w'

/-- Plain numbers in a box, a system that comes back, one that is being made. -/
structure MakeAt (w : World) (S R : Int) (a : Option Addr) (n cap : Nat) (g : Nat) (s r : Int) (v : Value) (L : List TV) (W : World) : Prop where
  low : Below w.heap.size w W
  gl : w.heap.size + 1 < g
  src : W.heap[w.heap.size]? = some (.cells #[.int .i64 S, .int .i64 R, .slice a n cap] 55 (0, 0))
  res : W.heap[w.heap.size + 1]? = some (.cells #[.int .i64 0, .int .i64 0, .slice none 0 0] 29 (0, 0))
  box : W.heap[g]? = some (.cells #[.int .i64 s, .int .i64 r, v] 29 (0, 0))
  own : OwnT W (g + 1) v L
  ok : AllOk W L
  ints : ∀ x ∈ L, IsI W x.a1 x.ch ∧ IsI W x.a2 x.us
theorem MakeAt.below {w W W' : World} {S R s r : Int} {a : Option Addr} {n cap g : Nat} {v : Value} {L : List TV} (h : MakeAt w S R a n cap g s r v L W) (hb : Below W.heap.size W W') : MakeAt w S R a n cap g s r v L W' :=
  ⟨below_up h.low hb, h.gl, kept_obj hb h.src, kept_obj hb h.res, kept_obj hb h.box, h.own.below hb, h.ok.below hb, fun x hx => ⟨(h.ints x hx).1.below hb, (h.ints x hx).2.below hb⟩⟩
theorem makeAt_new {w W : World} {S R s r : Int} {a : Option Addr} {n cap : Nat} (hl : Below w.heap.size w W) (h1 : W.heap[w.heap.size]? = some (.cells #[.int .i64 S, .int .i64 R, .slice a n cap] 55 (0, 0))) (h2 : W.heap[w.heap.size + 1]? = some (.cells #[.int .i64 0, .int .i64 0, .slice none 0 0] 29 (0, 0))) :
    MakeAt w S R a n cap W.heap.size s r (.slice none 0 0) [] (W.alloc (.cells #[.int .i64 s, .int .i64 r, .slice none 0 0] 29)) :=
  ⟨below_up hl (by repeat (first | exact Below.refl _ _ | (with_reducible assumption) | refine bw_alloc ?_ _ | refine bw_drew ?_)), lt_of_block h2, kept_obj (by repeat (first | exact Below.refl _ _ | (with_reducible assumption) | refine bw_alloc ?_ _ | refine bw_drew ?_)) h1, kept_obj (by repeat (first | exact Below.refl _ _ | (with_reducible assumption) | refine bw_alloc ?_ _ | refine bw_drew ?_)) h2, heap_alloc_new W _, OwnT.nil _ _, (fun x hx => by cases hx), (fun x hx => by cases hx)⟩

/-- A row of numbers is where it was, whatever is stored elsewhere. -/
theorem IsI.kept {w w' : World} {a : Option Addr} {l : List Int} (h : IsI w a l) (hk : ∀ (g : Nat) (cs : Array Value) (T : TypeId) (fr : Nat × Nat), w.heap[g]? = some (.cells cs T fr) → (T = 2 ∨ T = 3) → w'.heap[g]? = w.heap[g]?) : IsI w' a l := by
  rcases h with h | h
  · exact .inl h
  · refine .inr fun g o e => ?_
    obtain ⟨cs, T, fr, h1, h2⟩ := h g o e
    exact ⟨cs, T, fr, (hk g cs T fr h1 h2).trans h1, h2⟩
theorem Ints.kept {w w' : World} {a : Option Addr} {l : List Int} (h : Ints w a l) (hi : IsI w a l) (hk : ∀ (g : Nat) (cs : Array Value) (T : TypeId) (fr : Nat × Nat), w.heap[g]? = some (.cells cs T fr) → (T = 2 ∨ T = 3) → w'.heap[g]? = w.heap[g]?) : Ints w' a l := by
  rcases h with rfl | ⟨g, o, rfl, hc⟩
  · exact .inl rfl
  · rcases hi with rfl | hi
    · exact .inl rfl
    · obtain ⟨cs, T, fr, h1, h2⟩ := hi g o rfl
      refine .inr ⟨g, o, rfl, fun j u hj => ?_⟩
      rw [World.cell?_of_block (hk g cs T fr h1 h2)]; exact hc j u hj
theorem TV.ok.kept {w w' : World} {x : TV} (h : x.ok w) (hi : IsI w x.a1 x.ch ∧ IsI w x.a2 x.us) (hk : ∀ (g : Nat) (cs : Array Value) (T : TypeId) (fr : Nat × Nat), w.heap[g]? = some (.cells cs T fr) → (T = 2 ∨ T = 3) → w'.heap[g]? = w.heap[g]?) : x.ok w' :=
  ⟨h.one.kept hi.1 hk, h.two.kept hi.2 hk, h.l1, h.m1, h.l2, h.m2⟩
theorem OwnT.set {w : World} {B : Nat} {v : Value} {l : List TV} (h : OwnT w B v l) {a : Addr} (ha : a.block < B) (u : Value) : OwnT (w.setCell a u) B v l := ownsRow_setCell_below h ha u
theorem MakeAt.lay {w W w3 : World} {S R s r : Int} {a : Option Addr} {n cap g : Nat} {v v' : Value} {L L' : List TV} (h : MakeAt w S R a n cap g s r v L W) (hb : Below (g + 1) W w3) (hk3 : ∀ (b : Nat) (cs : Array Value) (T : TypeId) (fr : Nat × Nat), W.heap[b]? = some (.cells cs T fr) → (T = 2 ∨ T = 3) → w3.heap[b]? = W.heap[b]?) (ho : OwnT w3 (g + 1) v' L') (hall : ∀ x ∈ L', x.ok W ∧ (IsI W x.a1 x.ch ∧ IsI W x.a2 x.us)) :
    MakeAt w S R a n cap g s r v' L' (w3.setCell ⟨g, 2, none⟩ v') ∧ w3.cell? ⟨g, 2, none⟩ = some v ∧ w3.frozen? ⟨g, 2, none⟩ = false := by
  have hgl := h.gl
  have h3 := kept_objB hb (by omega) h.box
  have hk : ∀ (b : Nat) (cs : Array Value) (T : TypeId) (fr : Nat × Nat), W.heap[b]? = some (.cells cs T fr) → (T = 2 ∨ T = 3) → (w3.setCell ⟨g, 2, none⟩ v').heap[b]? = W.heap[b]? := by
    intro b cs T fr hc hT
    have e1 := hk3 b cs T fr hc hT
    rw [blk_far (a := ⟨g, 2, none⟩) ?_ v']
    · exact e1
    · rintro rfl
      rw [hc] at e1
      rw [h3] at e1
      simp at e1
      rcases hT with q | q <;> rw [q] at e1 <;> exact absurd e1.2.1 (by decide)
  refine ⟨⟨(h.low.trans (hb.mono (by omega))).setCell (p := ⟨g, 2, none⟩) (by show _ ≤ g; omega) _, h.gl, ?_, ?_, (blk_set h3 _).trans rfl, ho.set (by simp) _, fun x hx => (hall x hx).1.kept (hall x hx).2 hk, fun x hx => ⟨(hall x hx).2.1.kept hk, (hall x hx).2.2.kept hk⟩⟩, by rw [blk_cell h3]; rfl, blk_free h3 2⟩
  · rw [blk_far (a := ⟨g, 2, none⟩) (by show _ ≠ g; omega)]; exact kept_objB hb (by omega) h.src
  · rw [blk_far (a := ⟨g, 2, none⟩) (by show _ ≠ g; omega)]; exact kept_objB hb (by omega) h.res
theorem MakeAt.push {w W w3 : World} {S R s r : Int} {a : Option Addr} {n cap g : Nat} {v v' : Value} {L : List TV} {y : TV} (h : MakeAt w S R a n cap g s r v L W) (hg : W.grownBy w3 v.ownBlock) (ho : OwnT w3 (g + 1) v' (L ++ [y])) (hy : y.ok W) (hi : IsI W y.a1 y.ch ∧ IsI W y.a2 y.us) :
    MakeAt w S R a n cap g s r v' (L ++ [y]) (w3.setCell ⟨g, 2, none⟩ v') ∧ w3.cell? ⟨g, 2, none⟩ = some v ∧ w3.frozen? ⟨g, 2, none⟩ = false := by
  have hs : g + 1 ≤ W.heap.size := lt_of_block h.box
  have hb : Below (g + 1) W w3 := (Below.refl _ W).grown hg hs (fun k hk => (h.own.new hk).1)
  refine h.lay hb ?_ ho ?_
  · intro b cs T fr hc hT
    refine hg.block b (lt_of_block hc) ?_
    intro z
    rcases h.own with ⟨_, q | ⟨k', cap', cur', e', hB', h3', _⟩⟩
    · rw [q.1] at z; cases z
    · rw [e'] at z
      simp [Value.ownBlock] at z
      subst z
      rw [hc] at h3'
      simp at h3'
      rcases hT with q | q <;> rw [q] at h3' <;> exact absurd h3'.2.1 (by decide)
  · intro x hx
    rcases List.mem_append.1 hx with q | q
    · exact ⟨h.ok x q, h.ints x q⟩
    · simp at q; subst q; exact ⟨hy, hi⟩
/-- The task of a system that has none. -/
def lone : TV := ⟨1, 1, 4, 4, 10, none, [], 0, none, [], 0⟩
theorem lone_good (s : Int) : Good 0 s lone := ⟨rfl, by simp [lone], by simp [lone], by simp [lone], by simp [lone], by simp [lone], by simp [lone], by simp [lone], .inl rfl, (fun u hu => by simp [lone] at hu), by simp [lone]⟩
theorem lone_own (W : World) (B : Nat) (hB : B ≤ W.heap.size) : OwnT (W.alloc (.cells #[.int .i64 1, .int .i64 1, .int .i64 4, .int .i64 4, .int .i64 10, .slice none 0 0, .slice none 0 0] TT)) B (.slice (some ⟨W.heap.size, 0, none⟩) 1 1) [lone] :=
  World.ownsRow_lit (w := W) #[.int .i64 1, .int .i64 1, .int .i64 4, .int .i64 4, .int .i64 10, .slice none 0 0, .slice none 0 0] 1 hB (by decide) rfl
theorem MakeAt.lone {w W : World} {S R s r : Int} {a : Option Addr} {n cap g : Nat} {v : Value} {L : List TV} (h : MakeAt w S R a n cap g s r v L W) :
    MakeAt w S R a n cap g s r (.slice (some ⟨W.heap.size, 0, none⟩) 1 1) [lone] ((W.alloc (.cells #[.int .i64 1, .int .i64 1, .int .i64 4, .int .i64 4, .int .i64 10, .slice none 0 0, .slice none 0 0] TT)).setCell ⟨g, 2, none⟩ (.slice (some ⟨W.heap.size, 0, none⟩) 1 1)) := by
  have hs : g + 1 ≤ W.heap.size := lt_of_block h.box
  refine (h.lay (L' := [Go.Proofs.YtlpffgmfgkleiaaGreatDoor.lone]) (((Below.refl _ W).alloc (Nat.le_refl _) _).mono hs) ?_ (lone_own W _ hs) ?_).1
  · intro b cs T fr hc _
    exact Below.heap_alloc _ _ _ (lt_of_block hc)
  · intro x hx
    simp at hx; subst hx
    exact ⟨⟨.inl rfl, .inl rfl, by simp [Go.Proofs.YtlpffgmfgkleiaaGreatDoor.lone], by simp [Go.Proofs.YtlpffgmfgkleiaaGreatDoor.lone], by simp [Go.Proofs.YtlpffgmfgkleiaaGreatDoor.lone], by simp [Go.Proofs.YtlpffgmfgkleiaaGreatDoor.lone]⟩, .inl rfl, .inl rfl⟩
/-- The end. -/
theorem MakeAt.done {w W : World} {S R s r : Int} {a a' : Option Addr} {n cap g m c : Nat} {L : List TV} (h : MakeAt w S R a n cap g s r (.slice a' m c) L W) (hL : Made s r L) (x0 x1 x2 : Value) :
    MadeBack w (.returned (.agg #[.int .i64 s, .int .i64 r, .slice a' m c])) (((W.setCell ⟨w.heap.size + 1, 0, none⟩ x0).setCell ⟨w.heap.size + 1, 1, none⟩ x1).setCell ⟨w.heap.size + 1, 2, none⟩ x2) := by
  have hgl := h.gl
  have hb : Below w.heap.size w (((W.setCell ⟨w.heap.size + 1, 0, none⟩ x0).setCell ⟨w.heap.size + 1, 1, none⟩ x1).setCell ⟨w.heap.size + 1, 2, none⟩ x2) :=
    ((h.low.setCell (p := ⟨w.heap.size + 1, 0, none⟩) (Nat.le_succ _) x0).setCell (p := ⟨w.heap.size + 1, 1, none⟩) (Nat.le_succ _) x1).setCell (p := ⟨w.heap.size + 1, 2, none⟩) (Nat.le_succ _) x2
  have ho := ((h.own.set (a := ⟨w.heap.size + 1, 0, none⟩) (Nat.lt_succ_of_lt hgl) x0).set (a := ⟨w.heap.size + 1, 1, none⟩) (Nat.lt_succ_of_lt hgl) x1).set (a := ⟨w.heap.size + 1, 2, none⟩) (Nat.lt_succ_of_lt hgl) x2
  have hk : ∀ (b : Nat) (cs : Array Value) (T : TypeId) (fr : Nat × Nat), W.heap[b]? = some (.cells cs T fr) → (T = 2 ∨ T = 3) → (((W.setCell ⟨w.heap.size + 1, 0, none⟩ x0).setCell ⟨w.heap.size + 1, 1, none⟩ x1).setCell ⟨w.heap.size + 1, 2, none⟩ x2).heap[b]? = W.heap[b]? := by
    intro b cs T fr hc hT
    have hne : b ≠ w.heap.size + 1 := by
      rintro rfl
      rw [h.res] at hc
      simp at hc
      rcases hT with q | q <;> rw [q] at hc <;> exact absurd hc.2.1 (by decide)
    rw [blk_far (a := ⟨w.heap.size + 1, 2, none⟩) hne, blk_far (a := ⟨w.heap.size + 1, 1, none⟩) hne, blk_far (a := ⟨w.heap.size + 1, 0, none⟩) hne]
  exact ⟨s, r, a', m, c, L, rfl, ho.low (by omega), fun x hx => (h.ok x hx).kept (h.ints x hx) hk, fun x hx => ⟨(h.ints x hx).1.kept hk, (h.ints x hx).2.kept hk⟩, hL, hb⟩

set_option maxRecDepth 100000 in
set_option maxHeartbeats 4000000 in
theorem made_any {w : World} {a : Option Addr} {n cap : Nat} {L : List NV} (S R : Int) (hn : Nums w a n cap L) :
    Calls Tryz.prog 23 #[.agg #[.int .i64 S, .int .i64 R, .slice a n cap]] w (MadeBack w) := by
  have HA := Lib.hid hn
  have hz := zeroSys
  have hn9 := hn.small
  obtain ⟨s, hs⟩ : ∃ s, restI S 8 = s := ⟨_, rfl⟩
  have R1 := Lib.hid (fun w => hs ▸ rest_any S 8 (by omega) (by omega) w)
  have hs0 : 0 ≤ s := by rw [← hs]; exact Int.emod_nonneg _ (by omega)
  have hs1 : s < 8 := by rw [← hs]; exact Int.emod_lt_of_pos _ (by omega)
  have hw1 : IntKind.i64.wrap (1 + s) = 1 + s := IntWalk.i64_in _ (by omega)
  obtain ⟨r, hr, hr2⟩ := and_small R 3 (by omega)
  have hr3 : bits .and .i64 R 3 = (r : Int) := hr2
  have hr9 : (r : Int) ≤ 3 := by omega
  clear hn hs hr2
  go_enter Tryz.func23, Tryz.ntmps23
  go_upto_region 1 with fail
  refine gen_world (fun v => Below w.heap.size w v ∧ v.heap[w.heap.size]? = some (.cells #[.int .i64 S, .int .i64 R, .slice a n cap] 55 (0, 0)) ∧ v.heap[w.heap.size + 1]? = some (.cells #[.int .i64 0, .int .i64 0, .slice none 0 0] 29 (0, 0))) ⟨(by repeat (first | exact Below.refl _ _ | (with_reducible assumption) | refine bw_alloc ?_ _ | refine bw_drew ?_)), by rw [Below.heap_alloc _ _ _ (by simp)]; exact heap_alloc_new w _, by have := heap_alloc_new (w.alloc (.cells #[.int .i64 S, .int .i64 R, .slice a n cap] 55)) (.cells #[.int .i64 0, .int .i64 0, .slice none 0 0] 29); rwa [World.size_alloc] at this⟩ ?_
  intro W1 ⟨hl, h1, h2⟩
  have HL := Lib.hid hl
  have H1 := Lib.hid h1
  have H2 := Lib.hid h2
  have e0 : W1.cell? ⟨w.heap.size, 0, none⟩ = some (.int .i64 S) := by rw [blk_cell h1]; rfl
  have e1 : W1.cell? ⟨w.heap.size, 1, none⟩ = some (.int .i64 R) := by rw [blk_cell h1]; rfl
  have hlt := lt_of_block h1
  clear hl h1 h2
  go_cut [3] from 5 to 12 (fun u wx => u = .pointer (some ⟨W1.heap.size, 0, none⟩) ∧ wx = (W1.alloc (.cells #[.int .i64 (1 + s), .int .i64 r, .slice none 0 0] 29)).drew)
  case first =>
    have MK : Hid (∀ v, Below W1.heap.size W1 v → (Below W1.heap.size W1 v ∧ v.cell? ⟨w.heap.size, 0, none⟩ = some (.int .i64 S) ∧ v.cell? ⟨w.heap.size, 1, none⟩ = some (.int .i64 R))) := fun v hb => ⟨hb, kept_cell hb (by rw [blk_cell H1.out]; rfl), kept_cell hb (by rw [blk_cell H1.out]; rfl)⟩
    go_region_held3 (fun v => Below W1.heap.size W1 v ∧ v.cell? ⟨w.heap.size, 0, none⟩ = some (.int .i64 S) ∧ v.cell? ⟨w.heap.size, 1, none⟩ = some (.int .i64 R)) (exact MK.out _ (by repeat (first | exact Below.refl _ _ | (with_reducible assumption) | refine bw_alloc ?_ _ | refine bw_drew ?_))) ((go_at_call 43; (with_reducible refine (R1.out _).mono ?_); rintro e w3 ⟨rfl, rfl⟩))
    all_goals (go_wp2_with fail; go_meet; exact ⟨rfl, rfl⟩)
  case rest =>
    obtain ⟨rfl, rfl⟩ := hcut
    have hgl0 : w.heap.size + 1 < W1.heap.size := lt_of_block H2.out
    go_wp2_with fail
    refine gen_world (MakeAt w S R a n cap W1.heap.size (1 + s) r (.slice none 0 0) []) ((makeAt_new HL.out H1.out H2.out).below (Below.refl _ _).drew) ?_
    intro W3 hw3
    have H3 := Lib.hid hw3
    have hs1' : 1 ≤ 1 + s := by omega
    have hs8' : 1 + s ≤ 8 := by omega
    have hr0 : (0 : Int) ≤ (r : Int) := by omega
    clear hw3 HL H1 H2 e0 e1 hlt hw1 hr3 R1 hs0 hs1
    generalize W1.heap.size = g at *
    generalize 1 + s = s at *
    generalize (r : Int) = r at *
    clear hgl0
    obtain ⟨m, hm⟩ : ∃ m, m = min n 6 := ⟨_, rfl⟩
    have hm1 : m ≤ n := by omega
    have hm6 : m ≤ 6 := by omega
    have hor : m = n ∨ (m = 6 ∧ 6 < n) := by omega
    have HOR := Lib.hid hor
    clear hm hor
    go_loopw [4] (fun u wr => ∃ (k : Nat) (a' : Option Addr) (cp' : Nat) (M : List TV), k ≤ m ∧ u = .int .i64 k ∧ Hid (M.length = k) ∧ Hid (∀ (j : Nat) (x : TV), M[j]? = some x → Good j s x) ∧ Hid (MakeAt w S R a n cap g s r (.slice a' k cp') M wr)) (fun u _ => (m - intOf u).toNat)
    case atStart => exact ⟨0, _, _, [], by omega, rfl, rfl, (fun j x hx => by simp at hx), H3⟩
    case round =>
      obtain ⟨k, a', cp', M, hk, rfl, HML, HMG, HP⟩ := hrel
      clear H3
      have b0 : wr.cell? ⟨g, 0, none⟩ = some (.int .i64 s) := by rw [blk_cell HP.out.box]; rfl
      have b2 : wr.cell? ⟨g, 2, none⟩ = some (.slice a' k cp') := by rw [blk_cell HP.out.box]; rfl
      have s2 : wr.cell? ⟨w.heap.size, 2, none⟩ = some (.slice a n cap) := by rw [blk_cell HP.out.src]; rfl
      have hgw : g < wr.heap.size := lt_of_block HP.out.box
      by_cases hlt : k < m
      · obtain ⟨x, hx⟩ := nth_of HA.out.len (show k < n by omega)
        obtain ⟨g', o', rfl, ⟨c0, c1, c2, c3, c4, c5⟩⟩ := (HA.out.view.below HP.out.low).at_ hx
        have hk1 : (k : Int) < (n : Int) := by omega
        have hk6 : (k : Int) < 6 := by omega
        have hk0 : (0 : Int) ≤ (k : Int) := by omega
        have HXO := Lib.hid ((HA.out.ok x (List.mem_of_getElem? hx)).below HP.out.low)
        have T : Hid (∀ v, Below wr.heap.size wr v → _) := fun v hb => task_any x k s ⟨hk0, hk6⟩ ⟨hs1', hs8'⟩ v (HXO.out.below hb)
        have HSM : Hid (M.length + 1 ≤ 2000000) := by show _ ≤ _; have := HML.out; omega
        have HNN : Hid (M.length + 1 = k + 1) := by show _ = _; rw [HML.out]
        have HL2 : Hid (∀ y, (M ++ [y]).length = k + 1) := fun y => by rw [List.length_append, HML.out]; rfl
        have HG2 : Hid (∀ y, Good k s y → ∀ (j : Nat) (x : TV), (M ++ [y])[j]? = some x → Good j s x) := fun y hy j x hj => by
          rw [List.getElem?_append] at hj
          split at hj
          · exact HMG.out j x hj
          · rename_i q
            have hjk : j = k := by
              have := (List.getElem?_eq_some_iff.1 hj).1
              simp at this
              have := HML.out; omega
            subst hjk
            have hj0 : j - M.length = 0 := by have := HML.out; omega
            rw [hj0] at hj
            simp at hj; subst hj; exact hy
        clear hx
        go_upto_region 5 with fail
        go_region_law (first
          | (refine step_append (m := 1) (l := [y]) rfl (.tmp 25) (.tmp 35) rfl (by rfl) (by rfl) (H5.out.below (by repeat (first | exact Below.refl _ _ | (with_reducible assumption) | refine bw_alloc ?_ _ | refine bw_drew ?_))).own (Nat.le_trans (lt_of_block H5.out.box) ((by repeat (first | exact Below.refl _ _ | (with_reducible assumption) | refine bw_alloc ?_ _ | refine bw_drew ?_)) : Below w5.heap.size w5 _).size) (by first | exact View.of_at (at_new _ _ _) | exact (View.of_at (at_new _ _ _)).below (by repeat (first | exact Below.refl _ _ | (with_reducible assumption) | refine bw_alloc ?_ _ | refine bw_drew ?_))) rfl HSM.out (fun z => by cases z) (k + 1) HNN.out ?_
             intro a3 k3 w3 o3 g3 l3
             obtain ⟨hn, z1, z2⟩ := (H5.out.below (by repeat (first | exact Below.refl _ _ | (with_reducible assumption) | refine bw_alloc ?_ _ | refine bw_drew ?_))).push g3 o3 (HY.out.below (by repeat (first | exact Below.refl _ _ | (with_reducible assumption) | refine bw_alloc ?_ _ | refine bw_drew ?_))) ⟨HI.out.1.below (by repeat (first | exact Below.refl _ _ | (with_reducible assumption) | refine bw_alloc ?_ _ | refine bw_drew ?_)), HI.out.2.below (by repeat (first | exact Below.refl _ _ | (with_reducible assumption) | refine bw_alloc ?_ _ | refine bw_drew ?_))⟩
             have HN := Lib.hid hn
             clear hn o3 g3 l3)
          | (go_simp; (with_reducible refine (T.out _ (by repeat (first | exact Below.refl _ _ | (with_reducible assumption) | refine bw_alloc ?_ _ | refine bw_drew ?_))).mono ?_); rintro e w5 ⟨y, rfl, hy, hgood, b5, hi1, hi2⟩; have H5 := Lib.hid (HP.out.below (below_up (W := wr) (by repeat (first | exact Below.refl _ _ | (with_reducible assumption) | refine bw_alloc ?_ _ | refine bw_drew ?_)) b5)); have b2' : w5.cell? ⟨g, 2, none⟩ = some (.slice a' k cp') := (by rw [blk_cell H5.out.box]; rfl); have hgw5 : g < w5.heap.size := lt_of_block H5.out.box; have HY := Lib.hid hy; have HG := Lib.hid hgood; have HI := Lib.hid (And.intro hi1 hi2); clear hy hgood b5 hi1 hi2))
        all_goals
          go_wp2
          go_roundw
          case rel => exact ⟨k + 1, a3, k3, M ++ [y], by omega, by go_num, HL2.out y, HG2.out y HG.out, HN⟩
          case measure => simp [intOf]; omega
      · obtain rfl : m = k := by omega
        have hr1 : w.heap.size + 1 < wr.heap.size := lt_of_block HP.out.res
        have b1 : wr.cell? ⟨g, 1, none⟩ = some (.int .i64 r) := by rw [blk_cell HP.out.box]; rfl
        have bf := blk_free HP.out.box 2
        have r0 : wr.cell? ⟨w.heap.size + 1, 0, none⟩ = some (.int .i64 0) := by rw [blk_cell HP.out.res]; rfl
        have r1 : wr.cell? ⟨w.heap.size + 1, 1, none⟩ = some (.int .i64 0) := by rw [blk_cell HP.out.res]; rfl
        have r2 : wr.cell? ⟨w.heap.size + 1, 2, none⟩ = some (.slice none 0 0) := by rw [blk_cell HP.out.res]; rfl
        have f0 := blk_free HP.out.res 0
        have f1 := blk_free HP.out.res 1
        have f2 := blk_free HP.out.res 2
        have hgne : ¬ g = w.heap.size + 1 := by have := HP.out.gl; omega
        by_cases hm0 : m = 0
        · have HD := Lib.hid (fun x0 x1 x2 => HP.out.lone.done (⟨hs1', hs8', hr0, hr9, by simp, by simp, (fun j x hx => by
            match j, hx with
            | 0, hx => simp at hx; subst hx; exact lone_good s
            | j + 1, hx => simp at hx)⟩ : Made s r [lone]) x0 x1 x2)
          have d1 : ((m : Int) == 0) = true := by rw [beq_iff_eq]; omega
          have d2 : ¬ (m : Int) < (n : Int) := by have := HOR.out; omega
          have HD2 : Hid (∀ x0 x1 x2, MadeBack w (.returned (.agg #[.int .i64 s, .int .i64 r, .slice (some ⟨wr.heap.size, 0, none⟩) 1 1])) (((((wr.setCell ⟨g, 2, none⟩ (.slice (some ⟨wr.heap.size, 0, none⟩) 1 1)).setCell ⟨w.heap.size + 1, 0, none⟩ x0).setCell ⟨w.heap.size + 1, 1, none⟩ x1).setCell ⟨w.heap.size + 1, 2, none⟩ x2).alloc (.cells #[.int .i64 1, .int .i64 1, .int .i64 4, .int .i64 4, .int .i64 10, .slice none 0 0, .slice none 0 0] TT))) := by
            intro x0 x1 x2
            have := HD.out x0 x1 x2
            rw [World.setCell_alloc_past _ _ _ _ hgw, World.setCell_alloc_past _ _ _ _ (by simpa using hr1), World.setCell_alloc_past _ _ _ _ (by simpa using hr1), World.setCell_alloc_past _ _ _ _ (by simpa using hr1)] at this
            exact this
          clear hm0 HMG HML hm1 HD
          go_wp2_with fail
          exact bodyPost_ret (v := .agg #[.int .i64 s, .int .i64 r, .slice (some ⟨wr.heap.size, 0, none⟩) 1 1]) (by simp [results, Tryz.results23, go_sem, r0, r1, r2, hr1]) rfl (HD2.out _ _ _)
        · have HD := Lib.hid (fun x0 x1 x2 => HP.out.done (⟨hs1', hs8', hr0, hr9, by rw [HML.out]; omega, by rw [HML.out]; omega, HMG.out⟩ : Made s r M) x0 x1 x2)
          have d1 : ((m : Int) == 0) = false := by rw [beq_eq_false_iff_ne]; omega
          have q1 : ¬ ((m : Int) < (n : Int)) ∨ ((m : Int) < (n : Int) ∧ ¬ ((m : Int) < 6)) := by
            rcases HOR.out with h | ⟨h1, h2⟩
            · left; omega
            · right; omega
          clear HMG HML
          rcases q1 with q1 | ⟨q1, q2⟩
          all_goals
            go_wp2_with fail
            exact bodyPost_ret (v := .agg #[.int .i64 s, .int .i64 r, .slice a' m cp']) (by simp [results, Tryz.results23, go_sem, r0, r1, r2, hr1]) rfl (HD.out _ _ _)
end Go.Proofs.YtlpffgmfgkleiaaGreatDoor

/-
  What is wrong with a system by plain numbers: nothing; and with what becomes of it.
-/
namespace Go.Proofs.YtlpffgmfgkleiaaGreatDoor
open Go.RowKit Go.Maps

theorem good_right {k : Nat} {s : Int} {x : TV} (h : Good k s x) (hk : k < 6) : rightOf x s = 0 := by
  have h1 := h.id; have h2 := h.c1; have h3 := h.cd; have h4 := h.dt; have h5 := h.t24; have h6 := h.p1; have h7 := h.p99
  have hl : x.ch.length ≤ 24 := by
    rcases h.ch with e | e
    · rw [e]; simp
    · have := fill_len _ _ (by omega) e; omega
  have a1 : ¬ idBad x := by unfold idBad; omega
  have a2 : ¬ cdBad x := by unfold cdBad; omega
  have a3 : ¬ chBad x := by
    unfold chBad
    rintro (q | ⟨q1, q2⟩)
    · omega
    · rcases h.ch with e | e
      · exact q1 e
      · rw [e] at q2; cases q2
  have a4 : ¬ usBad x s := by
    unfold usBad
    rintro (q | q)
    · have := h.us5; omega
    · obtain ⟨u, hu, hb⟩ := List.any_eq_true.1 q
      have := h.us u hu
      unfold badB at hb
      simp only [decide_eq_true_eq] at hb
      omega
  unfold rightOf
  rw [if_neg a1, if_neg a2, if_neg a3, if_neg a4]

/-- The tasks ahead pass. -/
theorem first_pass {s : Int} (M : List TV) : ∀ (L : List TV) (k : Nat) (seen : List Int), k + L.length ≤ 6 → (∀ (j : Nat) (x : TV), L[j]? = some x → Good ((k + j : Nat) : Int) s x) → (∀ q ∈ seen, ∃ j : Nat, j < k ∧ (q - j) % 10 = 0) →
    firstOf s k seen (L ++ M) = firstOf s ((k + L.length : Nat) : Int) ((L.map TV.p).reverse ++ seen) M
  | [], k, seen, _, _, _ => rfl
  | x :: L, k, seen, hl, hg, hs => by
    have hx := hg 0 x rfl
    simp only [Nat.add_zero] at hx
    simp only [List.length_cons] at hl
    have hr := good_right hx (by omega)
    have hid : ¬ x.id ≤ (k : Int) := by rw [hx.id]; omega
    have hp : ¬ x.p ∈ seen := by
      intro q
      obtain ⟨j, hj, h⟩ := hs _ q
      have := hx.pi
      omega
    have hs' : ∀ q ∈ x.p :: seen, ∃ j : Nat, j < k + 1 ∧ (q - j) % 10 = 0 := by
      intro q hq
      rcases List.mem_cons.1 hq with rfl | hq
      · exact ⟨k, by omega, hx.pi⟩
      · obtain ⟨j, hj, h⟩ := hs _ hq
        exact ⟨j, by omega, h⟩
    have h2 := first_pass M L (k + 1) (x.p :: seen) (by omega) (fun j y hy => by
      have := hg (j + 1) y (by simpa using hy)
      rwa [show k + (j + 1) = k + 1 + j by omega] at this) hs'
    rw [List.cons_append, firstOf, if_neg (fun z => z hr), if_neg hid, if_neg hp, hx.id, show ((k : Int) + 1) = ((k + 1 : Nat) : Int) by omega, h2]
    simp only [List.length_cons, List.map_cons, List.reverse_cons, List.append_assoc, List.singleton_append]
    rw [show k + 1 + L.length = k + (L.length + 1) by omega]
theorem made_pass {s r : Int} {L : List TV} (h : Made s r L) (M : List TV) : firstOf s 0 [] (L ++ M) = firstOf s (L.length : Int) ((L.map TV.p).reverse ++ []) M := by
  have := first_pass (s := s) M L 0 [] (by have := h.six; omega) (fun j x hx => by simpa using h.good j x hx) (fun q hq => by cases hq)
  simpa using this
theorem made_ok {s r : Int} {L : List TV} (h : Made s r L) : ¬ sysBad s r L := by
  have h1 := h.s1; have h2 := h.s8; have h3 := h.r0; have h4 := h.r3; have h5 := h.pos
  unfold sysBad; omega
theorem check_made {s r : Int} {L : List TV} (h : Made s r L) : checkOf s r L = 0 := by
  unfold checkOf
  rw [if_neg (made_ok h), if_neg (by have := h.six; omega)]
  have := made_pass h []
  rw [List.append_nil] at this
  rw [this, firstOf]
theorem check_more {s r : Int} {L : List TV} (h : Made s r L) (y : TV) (want : Int) (hy : firstOf s (L.length : Int) ((L.map TV.p).reverse ++ []) [y] = want) : checkOf s r (L ++ [y]) = want := by
  unfold checkOf
  rw [if_neg, if_neg (by rw [List.length_append]; have := h.six; simp; omega), made_pass h, hy]
  have := made_ok h
  unfold sysBad at this ⊢
  rw [List.length_append]; simp; omega
theorem check_twice {s r : Int} {L : List TV} (h : Made s r L) {y : TV} {k : Nat} (hy : L[k]? = some y) : checkOf s r (L ++ [y]) = 10 := by
  refine check_more h y 10 ?_
  have hkl : k < L.length := (List.getElem?_eq_some_iff.1 hy).1
  have hg := h.good k y hy
  rw [firstOf, if_neg (fun z => z (good_right hg (by have := h.six; omega))), if_pos (by rw [hg.id]; omega)]
theorem check_prio {s r : Int} {L : List TV} (h : Made s r L) {y : TV} {k : Nat} (hy : L[k]? = some y) : checkOf s r (L ++ [{ y with id := 90 }]) = 14 := by
  refine check_more h _ 14 ?_
  have hkl : k < L.length := (List.getElem?_eq_some_iff.1 hy).1
  have hg := h.good k y hy
  have hr := good_right hg (by have := h.six; omega)
  have hr2 : rightOf { y with id := 90 } s = 0 := by
    unfold rightOf at hr ⊢
    have b1 : ¬ idBad y := by unfold idBad; have := hg.id; have := hg.p1; have := hg.p99; have := h.six; omega
    have b2 : ¬ idBad { y with id := 90 } := by unfold idBad; have := hg.p1; have := hg.p99; have := h.six; simp only; omega
    rw [if_neg b1] at hr
    rw [if_neg b2]
    exact hr
  rw [firstOf, if_neg (fun z => z hr2), if_neg (by have := h.six; simp only; omega), if_pos]
  rw [List.append_nil, List.mem_reverse, List.mem_map]
  exact ⟨y, List.mem_of_getElem? hy, rfl⟩
theorem check_none (s r : Int) : checkOf s r [] = 1 := by
  unfold checkOf; rw [if_pos]; unfold sysBad; right; rfl
theorem check_late {s r : Int} {L : List TV} (h : Made s r L) {y : TV} {k : Nat} (hy : L[k]? = some y) : checkOf s r (L.set k { y with d := y.t + 1 }) = 10 := by
  have hkl : k < L.length := (List.getElem?_eq_some_iff.1 hy).1
  have hg := h.good k y hy
  have h6 := h.six
  unfold checkOf
  rw [if_neg, if_neg (by rw [List.length_set]; omega)]
  · have e : L.set k { y with d := y.t + 1 } = L.take k ++ ({ y with d := y.t + 1 } :: L.drop (k + 1)) := by
      rw [List.set_eq_take_append_cons_drop, if_pos hkl]
    rw [e]
    have := first_pass (s := s) ({ y with d := y.t + 1 } :: L.drop (k + 1)) (L.take k) 0 [] (by rw [List.length_take]; omega) (fun j x hx => by
      rw [List.getElem?_take] at hx
      split at hx
      · simpa using h.good j x hx
      · cases hx) (fun q hq => by cases hq)
    simp only [Int.ofNat_zero, Int.natCast_zero] at this
    rw [this, firstOf]
    have hr : rightOf { y with d := y.t + 1 } s = 10 := by
      unfold rightOf
      have b1 : ¬ idBad { y with d := y.t + 1 } := by unfold idBad; have := hg.id; have := hg.p1; have := hg.p99; simp only; omega
      have b2 : cdBad { y with d := y.t + 1 } := by unfold cdBad; simp only; omega
      rw [if_neg b1, if_pos b2]
    rw [hr]; rfl
  · have := made_ok h
    unfold sysBad at this ⊢
    rw [List.length_set]; exact this
theorem made_less {s r : Int} {L : List TV} (h : Made s r L) (hl : 1 < L.length) : Made s r (L.take (L.length - 1)) :=
  ⟨h.s1, h.s8, h.r0, h.r3, by rw [List.length_take]; omega, by have := h.six; rw [List.length_take]; omega, fun k x hx => by
    rw [List.getElem?_take] at hx
    split at hx
    · exact h.good k x hx
    · cases hx⟩
theorem late_not {s r : Int} {L : List TV} (h : Made s r L) {y : TV} {k : Nat} (hy : L[k]? = some y) : ¬ (L.set k { y with d := y.t + 1 }).map TV.tk = L.map TV.tk := by
  have hkl : k < L.length := (List.getElem?_eq_some_iff.1 hy).1
  refine row_not (k := k) (x := { y with d := y.t + 1 }) (y := y) (by simp [hkl]) hy ?_
  intro z
  have := ((tk_eq _ _).1 z).2.2.1
  have h2 := (h.good k y hy).dt
  have h3 : y.t + 1 = y.d := this
  omega
theorem made_wf {s r : Int} {L : List TV} (h : Made s r L) : ∀ x ∈ L, I64 x.p ∧ I64 x.id := by
  intro x hx
  obtain ⟨k, hk⟩ := List.mem_iff_getElem?.1 hx
  have hg := h.good k x hk
  have hkl : k < L.length := (List.getElem?_eq_some_iff.1 hk).1
  have := h.six; have := hg.id; have := hg.p1; have := hg.p99
  unfold I64
  omega
end Go.Proofs.YtlpffgmfgkleiaaGreatDoor

/-
  What a row of words, and a text, say: in plain words.
-/
namespace Go.Proofs.YtlpffgmfgkleiaaGreatDoor
open Go.RowKit Go.Maps

/-! ### a row of words -/
/-- The word at a place. -/
def wordAt (W : List WV) (i : Nat) : Option ByteArray := (W[i]?).map WV.tx
def endOf (x : WV) : Int := wrap64 (x.at_ + (x.tx.size : Int))
/-- Where the word ahead of a place ends. -/
def endAt (W : List WV) : Nat → Int
  | 0 => 0
  | k + 1 => match W[k]? with
    | some x => endOf x
    | none => 0
/-- Where a place is wrong. -/
def placeAt (W : List WV) (i : Nat) : Int := match W[i]? with
  | some x => x.at_
  | none => endAt W W.length
theorem wordAt_some {W : List WV} {i : Nat} {x : WV} (h : W[i]? = some x) : wordAt W i = some x.tx := by unfold wordAt; rw [h]; rfl
theorem wordAt_none {W : List WV} {i : Nat} (h : W.length ≤ i) : wordAt W i = none := by unfold wordAt; rw [List.getElem?_eq_none h]; rfl
theorem placeAt_some {W : List WV} {i : Nat} {x : WV} (h : W[i]? = some x) : placeAt W i = x.at_ := by unfold placeAt; rw [h]
theorem placeAt_none {W : List WV} {i : Nat} (h : W.length ≤ i) : placeAt W i = endAt W W.length := by unfold placeAt; rw [List.getElem?_eq_none h]
theorem endAt_succ {W : List WV} {i : Nat} {x : WV} (h : W[i]? = some x) : endAt W (i + 1) = endOf x := by rw [endAt, h]

/-! ### names and what stands behind them -/
def eqFrom (s : ByteArray) : Nat → Nat → Option Nat
  | 0, _ => none
  | k + 1, i => if byteAt s i = 61 then some i else eqFrom s k (i + 1)
/-- What stands ahead of the first '=', and behind it. -/
def pairOf (s : ByteArray) : Option (ByteArray × ByteArray) := (eqFrom s s.size 0).map fun i => (s.extract 0 i, s.extract (i + 1) s.size)
theorem eqFrom_none (s : ByteArray) : ∀ (k i : Nat), (∀ j, i ≤ j → j < i + k → byteAt s j ≠ 61) → eqFrom s k i = none
  | 0, _, _ => rfl
  | k + 1, i, h => by
    rw [eqFrom, if_neg (h i (Nat.le_refl _) (by omega))]
    exact eqFrom_none s k (i + 1) (fun j h1 h2 => h j (by omega) (by omega))
theorem eqFrom_some (s : ByteArray) {p : Nat} (hp : byteAt s p = 61) : ∀ (k i : Nat), i ≤ p → p < i + k → (∀ j, i ≤ j → j < p → byteAt s j ≠ 61) → eqFrom s k i = some p
  | 0, i, h1, h2, _ => by omega
  | k + 1, i, h1, h2, h => by
    by_cases e : i = p
    · subst e; rw [eqFrom, if_pos hp]
    · rw [eqFrom, if_neg (h i (Nat.le_refl _) (by omega))]
      exact eqFrom_some s hp k (i + 1) (by omega) (by omega) (fun j q1 q2 => h j (by omega) q2)
theorem pairOf_is {s x y : ByteArray} {b : Bool} (h : PairIs s x y b) : (b = false ∧ x = ⟨#[]⟩ ∧ y = ⟨#[]⟩ ∧ pairOf s = none) ∨ (b = true ∧ pairOf s = some (x, y)) := by
  rcases h with ⟨hno, rfl, rfl, rfl⟩ | ⟨i, ⟨h1, h2, h3⟩, rfl, rfl, rfl⟩
  · refine .inl ⟨rfl, rfl, rfl, ?_⟩
    unfold pairOf
    rw [eqFrom_none s s.size 0 (fun j _ q => hno j (by omega))]
    rfl
  · refine .inr ⟨rfl, ?_⟩
    unfold pairOf
    rw [eqFrom_some s h2 s.size 0 (Nat.zero_le _) (by omega) (fun j _ q => h3 j q)]
    rfl
/-- What stands behind that name. -/
def namedV (s name : ByteArray) : Option ByteArray := match pairOf s with
  | some (x, y) => if x = name then some y else none
  | none => none
theorem namedV_size {s name v : ByteArray} (h : namedV s name = some v) : v.size ≤ s.size := by
  unfold namedV at h
  split at h
  · rename_i x y he
    split at h
    · cases h
      unfold pairOf at he
      cases hq : eqFrom s s.size 0 with
      | none => rw [hq] at he; cases he
      | some i =>
        rw [hq] at he
        simp only [Option.map_some, Option.some.injEq, Prod.mk.injEq] at he
        rw [← he.2, ByteArray.size_extract]; omega
    · cases h
  · cases h
theorem wordAt_size {W : List WV} {N : Nat} (h : ∀ x ∈ W, x.tx.size ≤ N) {i : Nat} {s : ByteArray} (hs : wordAt W i = some s) : s.size ≤ N := by
  unfold wordAt at hs
  obtain ⟨x, hx, rfl⟩ := Option.map_eq_some_iff.1 hs
  exact h x (List.mem_of_getElem? hx)
/-- What stands behind a name, at a place. -/
def valAt (W : List WV) (i : Nat) (name : ByteArray) : Option ByteArray := (wordAt W i).bind fun s => namedV s name
def numAt (W : List WV) (i : Nat) (name : ByteArray) (most : Int) : Option Nat := (valAt W i name).bind fun v => numOf v most
def numsAt (W : List WV) (i : Nat) (name : ByteArray) (most : Int) : Option (List Int) := (valAt W i name).bind fun v => numsOf v most
theorem numOf_le {s : ByteArray} {most : Int} {n : Nat} (h : numOf s most = some n) : (n : Int) ≤ most := by
  unfold numOf at h
  split at h
  · cases h
  · split at h
    · cases h
    · split at h
      · cases h
      · cases h; omega
theorem numOf_small {s : ByteArray} {most : Int} {n : Nat} (h : numOf s most = some n) : (n : Int) ≤ 9223372036854775807 := by
  unfold numOf at h
  split at h
  · cases h
  · split at h
    · cases h
    · rename_i m hm
      split at h
      · cases h
      · have hq := nrun_small s s.size m hm
        simp only [Option.some.injEq] at h
        omega

/-! ### a task's words -/
abbrev bTask : ByteArray := ⟨#[116, 97, 115, 107]⟩
abbrev bCache : ByteArray := ⟨#[99, 97, 99, 104, 101]⟩
abbrev bC : ByteArray := ⟨#[99]⟩
abbrev bD : ByteArray := ⟨#[100]⟩
abbrev bT : ByteArray := ⟨#[116]⟩
abbrev bP : ByteArray := ⟨#[112]⟩
abbrev bChunks : ByteArray := ⟨#[99, 104, 117, 110, 107, 115]⟩
abbrev bUse : ByteArray := ⟨#[117, 115, 101]⟩
def nameK : Nat → ByteArray
  | 0 => bC
  | 1 => bD
  | 2 => bT
  | _ => bP
def mostK (k : Nat) : Int := if k = 3 then 99 else 1073741824
def numK (W : List WV) (k : Nat) : Option Nat := numAt W (2 + k) (nameK k) (mostK k)
def idOf (W : List WV) : Option Nat := (wordAt W 1).bind fun s => numOf s 99
/-- The chunks and the used sets, with the place behind them. -/
def chAt (W : List WV) : Option (List Int) := numsAt W 6 bChunks 1073741824
def plus1 (W : List WV) : Nat := if (chAt W).isSome then 7 else 6
def usAt (W : List WV) : Option (List Int) := numsAt W (plus1 W) bUse 255
def plus2 (W : List WV) : Nat := if (usAt W).isSome then plus1 W + 1 else plus1 W
/-- The task that a row says, or the place at which it is wrong. -/
def lineOf (W : List WV) : Except Int Tk :=
  if wordAt W 0 ≠ some bTask then .error (placeAt W 0) else
  match idOf W with
  | none => .error (placeAt W 1)
  | some id =>
    match numK W 0 with
    | none => .error (placeAt W 2)
    | some c =>
      match numK W 1 with
      | none => .error (placeAt W 3)
      | some d =>
        match numK W 2 with
        | none => .error (placeAt W 4)
        | some t =>
          match numK W 3 with
          | none => .error (placeAt W 5)
          | some p =>
            if plus2 W < W.length then .error (placeAt W (plus2 W)) else
            .ok ⟨id, c, d, t, p, (chAt W).getD [], (usAt W).getD []⟩
theorem line_first {W : List WV} (h : wordAt W 0 ≠ some bTask) : lineOf W = .error (placeAt W 0) := by unfold lineOf; rw [if_pos h]
theorem line_id {W : List WV} (h : wordAt W 0 = some bTask) (h1 : idOf W = none) : lineOf W = .error (placeAt W 1) := by unfold lineOf; rw [if_neg (fun q => q h), h1]
theorem line_bad {W : List WV} {k : Nat} (h : wordAt W 0 = some bTask) {id : Nat} (h1 : idOf W = some id) (hk : k < 4) (hs : ∀ j, j < k → ∃ n, numK W j = some n) (hn : numK W k = none) : lineOf W = .error (placeAt W (2 + k)) := by
  unfold lineOf
  rw [if_neg (fun q => q h), h1]
  simp only []
  match k, hk with
  | 0, _ => rw [hn]
  | 1, _ =>
    obtain ⟨n0, e0⟩ := hs 0 (by omega)
    rw [e0, hn]
  | 2, _ =>
    obtain ⟨n0, e0⟩ := hs 0 (by omega)
    obtain ⟨n1, e1⟩ := hs 1 (by omega)
    rw [e0, e1, hn]
  | 3, _ =>
    obtain ⟨n0, e0⟩ := hs 0 (by omega)
    obtain ⟨n1, e1⟩ := hs 1 (by omega)
    obtain ⟨n2, e2⟩ := hs 2 (by omega)
    rw [e0, e1, e2, hn]
theorem line_over {W : List WV} (h : wordAt W 0 = some bTask) {id c d t p : Nat} (h1 : idOf W = some id) (hc : numK W 0 = some c) (hd : numK W 1 = some d) (ht : numK W 2 = some t) (hp : numK W 3 = some p) (ho : plus2 W < W.length) : lineOf W = .error (placeAt W (plus2 W)) := by
  unfold lineOf
  rw [if_neg (fun q => q h), h1, hc, hd, ht, hp]
  simp only []
  rw [if_pos ho]
theorem line_ok {W : List WV} (h : wordAt W 0 = some bTask) {id c d t p : Nat} (h1 : idOf W = some id) (hc : numK W 0 = some c) (hd : numK W 1 = some d) (ht : numK W 2 = some t) (hp : numK W 3 = some p) (ho : ¬ plus2 W < W.length) : lineOf W = .ok ⟨id, c, d, t, p, (chAt W).getD [], (usAt W).getD []⟩ := by
  unfold lineOf
  rw [if_neg (fun q => q h), h1, hc, hd, ht, hp]
  simp only []
  rw [if_neg ho]
theorem numAt_lt {W : List WV} {i : Nat} {name : ByteArray} {most : Int} {n : Nat} (h : numAt W i name most = some n) : i < W.length := by
  rcases Nat.lt_or_ge i W.length with q | q
  · exact q
  · unfold numAt valAt at h; rw [wordAt_none q] at h; cases h
theorem numsAt_lt {W : List WV} {i : Nat} {name : ByteArray} {most : Int} {n : List Int} (h : numsAt W i name most = some n) : i < W.length := by
  rcases Nat.lt_or_ge i W.length with q | q
  · exact q
  · unfold numsAt valAt at h; rw [wordAt_none q] at h; cases h
theorem plus1_le {W : List WV} (h : 6 ≤ W.length) : plus1 W ≤ W.length := by
  unfold plus1
  split
  · rename_i e
    obtain ⟨l, e⟩ := Option.isSome_iff_exists.1 e
    exact numsAt_lt e
  · exact h
theorem plus2_le {W : List WV} (h : 6 ≤ W.length) : plus2 W ≤ W.length := by
  unfold plus2
  split
  · rename_i e
    obtain ⟨l, e⟩ := Option.isSome_iff_exists.1 e
    exact numsAt_lt e
  · exact plus1_le h

/-! ### a cache's words -/
def setsOf (W : List WV) : Option Nat := (wordAt W 1).bind fun s => numOf s 256
def relOf (W : List WV) : Option Nat := (wordAt W 2).bind fun s => numOf s 1000
def cacheOf (W : List WV) : Except Int (Nat × Nat) :=
  if wordAt W 0 ≠ some bCache then .error (placeAt W 0) else
  match setsOf W with
  | none => .error (placeAt W 1)
  | some s =>
    match relOf W with
    | none => .error (placeAt W 2)
    | some r => if 3 < W.length then .error (placeAt W 3) else .ok (s, r)

/-! ### a text -/
def Tk.tv (t : Tk) : TV := ⟨t.id, t.c, t.d, t.t, t.p, none, t.ch, t.ch.length, none, t.us, t.us.length⟩
theorem first_tk (s : Int) : ∀ (L : List TV) (last : Int) (seen : List Int), firstOf s last seen L = firstOf s last seen ((L.map TV.tk).map Tk.tv)
  | [], _, _ => rfl
  | x :: L, last, seen => by
    rw [List.map_cons, List.map_cons, firstOf, firstOf, first_tk s L x.id (x.p :: seen)]
    rfl
/-- What is wrong with a system, by what its tasks are meant to be. -/
def checkT (s r : Int) (l : List Tk) : Int := checkOf s r (l.map Tk.tv)
theorem check_tk (s r : Int) (L : List TV) : checkOf s r L = checkT s r (L.map TV.tk) := by
  unfold checkT checkOf sysBad
  rw [← first_tk]
  simp only [List.length_map]
def tailOf (S R : Int) (acc : List Tk) : List (List WV) → Except (Int × Int) (List Tk)
  | [] => .ok acc
  | W :: rest => match lineOf W with
    | .error p => .error (p, 10)
    | .ok t => if checkT S R (acc ++ [t]) = 0 then tailOf S R (acc ++ [t]) rest else .error (placeAt W 0, checkT S R (acc ++ [t]))
/-- The system that a text says, or the place and the error of what is wrong. -/
def parseOf (s : ByteArray) : Except (Int × Int) (Nat × Nat × List Tk) := match linesOf s with
  | [] => .error (s.size, 10)
  | W :: rest => match cacheOf W with
    | .error p => .error (p, 10)
    | .ok (S, R) => match tailOf S R [] rest with
      | .error q => .error q
      | .ok [] => .error (s.size, 1)
      | .ok l => .ok (S, R, l)
end Go.Proofs.YtlpffgmfgkleiaaGreatDoor

/-
  A row of words that is read, in memory; what closures that take a word do.
-/
namespace Go.Proofs.YtlpffgmfgkleiaaGreatDoor
open Go.RowKit Go.Maps

abbrev RowT : TypeId := 94
abbrev SysT : TypeId := 29
/-- A block of one's own, and what it holds. -/
abbrev Box (w : World) (b : Nat) (T : TypeId) (cs : Array Value) : Prop := w.heap[b]? = some (.cells cs T (0, 0))
/-- Two blocks may have turned. -/
structure Two (R T : Nat) (w w' : World) : Prop where
  os : w'.os = w.os
  tape : w'.tape = w.tape
  output : w'.output = w.output
  size : w.heap.size ≤ w'.heap.size
  block : ∀ k, k < w.heap.size → k ≠ R → k ≠ T → w'.heap[k]? = w.heap[k]?
theorem Two.refl (R T : Nat) (w : World) : Two R T w w := ⟨rfl, rfl, rfl, Nat.le_refl _, fun _ _ _ _ => rfl⟩
theorem Two.trans {R T : Nat} {w w' w'' : World} (h : Two R T w w') (k : Two R T w' w'') : Two R T w w'' :=
  ⟨k.os.trans h.os, k.tape.trans h.tape, k.output.trans h.output, Nat.le_trans h.size k.size, fun b hb h1 h2 => (k.block b (Nat.lt_of_lt_of_le hb h.size) h1 h2).trans (h.block b hb h1 h2)⟩
theorem Two.of_below {R T : Nat} {w w' : World} (h : Below w.heap.size w w') : Two R T w w' := ⟨h.os, h.tape, h.output, h.size, fun k hk _ _ => h.block k hk⟩
theorem Two.then {R T : Nat} {w w' w'' : World} (h : Two R T w w') (k : Below w'.heap.size w' w'') : Two R T w w'' := h.trans (Two.of_below k)
theorem Two.setT {R T o : Nat} {w w' : World} (h : Two R T w w') (v : Value) : Two R T w (w'.setCell ⟨T, o, none⟩ v) :=
  ⟨h.os, h.tape, h.output, by simp [World.setCell]; exact h.size, fun k hk h1 h2 => (blk_far (a := ⟨T, o, none⟩) h2 v).trans (h.block k hk h1 h2)⟩
theorem Two.setR {R T o : Nat} {w w' : World} (h : Two R T w w') (v : Value) : Two R T w (w'.setCell ⟨R, o, none⟩ v) :=
  ⟨h.os, h.tape, h.output, by simp [World.setCell]; exact h.size, fun k hk h1 h2 => (blk_far (a := ⟨R, o, none⟩) h1 v).trans (h.block k hk h1 h2)⟩
theorem Two.below {R T N : Nat} {w w' : World} (h : Two R T w w') (hR : N ≤ R) (hT : N ≤ T) (hN : N ≤ w.heap.size) : Below N w w' :=
  ⟨h.os, h.tape, h.output, h.size, fun k hk => h.block k (by omega) (by omega) (by omega)⟩
theorem Two.weak {R T' : Nat} {w w' : World} (h : Two R R w w') : Two R T' w w' := ⟨h.os, h.tape, h.output, h.size, fun k hk h1 _ => h.block k hk h1 h1⟩
theorem Two.ofT {R T : Nat} {w w' : World} (h : Two T T w w') : Two R T w w' := ⟨h.os, h.tape, h.output, h.size, fun k hk _ h2 => h.block k hk h2 h2⟩
theorem Two.swap {R T : Nat} {w w' : World} (h : Two R T w w') : Two T R w w' := ⟨h.os, h.tape, h.output, h.size, fun k hk h1 h2 => h.block k hk h2 h1⟩
theorem Two.box {R T b : Nat} {w w' : World} {t : TypeId} {cs : Array Value} (h : Two R T w w') (hb : Box w b t cs) (h1 : b ≠ R) (h2 : b ≠ T) : Box w' b t cs := (h.block b (lt_of_block hb) h1 h2).trans hb
/-- A new block may turn besides: below it none. -/
theorem Two.drop {R T : Nat} {w w' : World} (h : Two R T w w') (hT : w.heap.size ≤ T) : Two R R w w' := ⟨h.os, h.tape, h.output, h.size, fun k hk h1 _ => h.block k hk h1 (by omega)⟩
/-- Rows of numbers stay. -/
theorem ints_two {R T : Nat} {w w' : World} {a : Option Addr} {l : List Int} {t1 t2 : TypeId} {c1 c2 : Array Value} (h : Two R T w w') (hR : Box w R t1 c1) (hT : Box w T t2 c2)
    (n1 : t1 ≠ 2 ∧ t1 ≠ 3) (n2 : t2 ≠ 2 ∧ t2 ≠ 3) (hi : IsI w a l) (hv : Ints w a l) : IsI w' a l ∧ Ints w' a l := by
  rcases hv with rfl | ⟨g, o, rfl, hc⟩
  · exact ⟨.inl rfl, .inl rfl⟩
  rcases hi with rfl | hi
  · exact ⟨.inl rfl, .inl rfl⟩
  obtain ⟨cs, t, fr, hb, ht⟩ := hi g o rfl
  have e1 : g ≠ R := by
    rintro rfl
    rw [hR] at hb
    simp only [Option.some.injEq, Obj.cells.injEq] at hb
    rcases ht with q | q
    · exact n1.1 (hb.2.1.trans q)
    · exact n1.2 (hb.2.1.trans q)
  have e2 : g ≠ T := by
    rintro rfl
    rw [hT] at hb
    simp only [Option.some.injEq, Obj.cells.injEq] at hb
    rcases ht with q | q
    · exact n2.1 (hb.2.1.trans q)
    · exact n2.2 (hb.2.1.trans q)
  have hk : w'.heap[g]? = w.heap[g]? := h.block g (lt_of_block hb) e1 e2
  refine ⟨.inr fun g' o' e => ?_, .inr ⟨g, o, rfl, fun j u hj => ?_⟩⟩
  · cases e
    exact ⟨cs, t, fr, hk.trans hb, ht⟩
  · have := hc j u hj
    rw [blk_cell hb] at this
    rw [blk_cell (hk.trans hb)]
    exact this

/-! ### what is left of a row -/
def WIn (w : World) (N : Nat) (a : Option Addr) (l : List WV) : Prop :=
  l = [] ∨ ∃ g o, a = some ⟨g, o, none⟩ ∧ g < N ∧ ∀ j u, (wflat l)[j]? = some u → w.cell? ⟨g, o + j, none⟩ = some u
theorem WIn.view {w : World} {N : Nat} {a : Option Addr} {l : List WV} (h : WIn w N a l) : WView w a l := by
  rcases h with h | ⟨g, o, h1, _, h3⟩
  · exact .inl h
  · exact .inr ⟨g, o, h1, h3⟩
theorem WIn.of {w : World} {a : Option Addr} {l : List WV} (h : WView w a l) : WIn w w.heap.size a l := by
  rcases h with h | ⟨g, o, h1, h3⟩
  · exact .inl h
  · cases l with
    | nil => exact .inl rfl
    | cons x l =>
      refine .inr ⟨g, o, h1, ?_, h3⟩
      exact block_of_cell (h3 0 (.int .i64 x.at_) rfl)
theorem WIn.below {w w' : World} {N : Nat} {a : Option Addr} {l : List WV} (h : WIn w N a l) (hb : Below N w w') : WIn w' N a l := by
  rcases h with h | ⟨g, o, h1, h2, h3⟩
  · exact .inl h
  · exact .inr ⟨g, o, h1, h2, fun j u hj => by rw [hb.cell (p := ⟨g, o + j, none⟩) h2]; exact h3 j u hj⟩
/-- A row that is read: what is left of it, where the last word that was read ends. -/
def Left (w : World) (R N : Nat) (e : Int) (l : List WV) : Prop :=
  ∃ (a : Option Addr) (c : Nat), Box w R RowT #[.slice a l.length c, .int .i64 e] ∧ WIn w N a l ∧ l.length ≤ c ∧ (c : Int) ≤ 9223372036854775807
theorem Left.box {w : World} {R N : Nat} {e : Int} {l : List WV} (h : Left w R N e l) : ∃ cs, Box w R RowT cs := let ⟨_, _, hb, _⟩ := h; ⟨_, hb⟩
theorem Left.below {w w' : World} {R N : Nat} {e : Int} {l : List WV} (h : Left w R N e l) (hb : Below w.heap.size w w') (hN : N ≤ w.heap.size) : Left w' R N e l := by
  obtain ⟨a, c, h1, h2, h3⟩ := h
  exact ⟨a, c, kept_obj hb h1, h2.below (hb.mono hN), h3⟩
theorem Left.two {w w' : World} {R T N : Nat} {e : Int} {l : List WV} (h : Left w R N e l) (hb : Two T T w w') (hN : N ≤ w.heap.size) (hT : N ≤ T) (hne : R ≠ T) : Left w' R N e l := by
  obtain ⟨a, c, h1, h2, h3⟩ := h
  exact ⟨a, c, hb.box h1 hne hne, h2.below (hb.below hT hT hN), h3⟩

/-! ### closures that take a word -/
theorem beq_bytes (s t : ByteArray) : (s.toList == t.toList) = decide (s = t) := by
  by_cases h : s = t
  · subst h; simp
  · rw [decide_eq_false h, beq_eq_false_iff_ne]
    intro e
    apply h
    rw [ByteArray.toList_eq, ByteArray.toList_eq] at e
    obtain ⟨a⟩ := s
    obtain ⟨b⟩ := t
    exact congrArg ByteArray.mk (Array.toList_inj.1 e)
/-- What calls a closure. -/
def Says (v : Value) (w : World) (T : Nat) (s : ByteArray) (ok : Bool) (C : World → Prop) : Prop :=
  ∃ (F : Nat) (caps : Array Value), v = .func (.func F) #[] caps ∧ (∀ args w, (callFunc F args).run Tryz.prog w = .ok (.enter F args) w) ∧
    Calls Tryz.prog F (#[.string s] ++ caps) w fun e w' => e = .returned (.bool ok) ∧ Two T T w w' ∧ C w'
/-- What a panic bears. -/
abbrev PV (p e : Int) : Value := .iface 113 (.agg #[.int .i64 p, .int .i64 e])
abbrev Panics (p e : Int) (x : Ending) : Prop := x = .panicked [{ v := PV p e, recovered := false }]

set_option maxRecDepth 100000 in
theorem text_any (t : ByteArray) (w : World) : Calls Tryz.prog 65 #[.string t] w fun e w' => ∃ b, e = .returned (.func (.func 82) #[] #[.pointer (some ⟨b, 0, none⟩)]) ∧ w'.cell? ⟨b, 0, none⟩ = some (.string t) ∧ Below w.heap.size w w' := by
  have hmf : ∀ (fn : Fn) (first cap : Array Value) (w : World), (Instr.makeFunc fn first cap).run Tryz.prog w = .ok (.func fn first cap) w := fun _ _ _ _ => rfl
  go_enter Tryz.func65, Tryz.ntmps65
  go_wp2
  go_ret
  exact ⟨w.heap.size, rfl, by rw [World.cell?_alloc_new]; rfl, bw_alloc (Below.refl _ _) _⟩
set_option maxRecDepth 100000 in
theorem text1_any (s t : ByteArray) (b : Nat) (w : World) (hb : w.cell? ⟨b, 0, none⟩ = some (.string t)) : Calls Tryz.prog 82 #[.string s, .pointer (some ⟨b, 0, none⟩)] w fun e w' => e = .returned (.bool (s.toList == t.toList)) ∧ w' = w := by
  go_enter Tryz.func82, Tryz.ntmps82
  go_wp2
  go_ret
  exact ⟨rfl, rfl⟩
set_option maxRecDepth 100000 in
theorem enters_text1 (args : Array Value) (w : World) : (callFunc 82 args).run Tryz.prog w = .ok (.enter 82 args) w := by
  go_simp

/-! ### numbers -/
/-- A closure that takes a number, or numbers. -/
def TakesAt (F : Nat) (v : Value) (w : World) (p : Addr) (most : Int) : Prop :=
  ∃ mb tb, v = .func (.func F) #[] #[.pointer (some ⟨mb, 0, none⟩), .pointer (some ⟨tb, 0, none⟩)] ∧ w.cell? ⟨mb, 0, none⟩ = some (.int .i64 most) ∧ w.cell? ⟨tb, 0, none⟩ = some (.pointer (some p))
theorem TakesAt.below {F : Nat} {v : Value} {w w' : World} {p : Addr} {most : Int} (h : TakesAt F v w p most) (hb : Below w.heap.size w w') : TakesAt F v w' p most := by
  obtain ⟨mb, tb, h1, h2, h3⟩ := h
  exact ⟨mb, tb, h1, kept_cell hb h2, kept_cell hb h3⟩

set_option maxRecDepth 100000 in
theorem numI_any (p : Addr) (most : Int) (w : World) : Calls Tryz.prog 66 #[.pointer (some p), .int .i64 most] w fun e w' => ∃ v, e = .returned v ∧ TakesAt 83 v w' p most ∧ Below w.heap.size w w' := by
  have hmf : ∀ (fn : Fn) (first cap : Array Value) (w : World), (Instr.makeFunc fn first cap).run Tryz.prog w = .ok (.func fn first cap) w := fun _ _ _ _ => rfl
  go_enter Tryz.func66, Tryz.ntmps66
  go_wp2
  go_ret
  exact ⟨_, rfl, ⟨w.heap.size + 1, w.heap.size, rfl, (new_second w _ _ _ 0).trans rfl, (new_first w _ _ _ 0).trans rfl⟩, bw_alloc (bw_alloc (Below.refl _ _) _) _⟩
set_option maxRecDepth 100000 in
theorem enters_numI1 (args : Array Value) (w : World) : (callFunc 83 args).run Tryz.prog w = .ok (.enter 83 args) w := by
  go_simp

set_option maxRecDepth 100000 in
theorem numQ_any (p : Addr) (most : Int) (w : World) : Calls Tryz.prog 68 #[.pointer (some p), .int .i64 most] w fun e w' => ∃ v, e = .returned v ∧ TakesAt 87 v w' p most ∧ Below w.heap.size w w' := by
  have hmf : ∀ (fn : Fn) (first cap : Array Value) (w : World), (Instr.makeFunc fn first cap).run Tryz.prog w = .ok (.func fn first cap) w := fun _ _ _ _ => rfl
  go_enter Tryz.func68, Tryz.ntmps68
  go_wp2
  go_ret
  exact ⟨_, rfl, ⟨w.heap.size + 1, w.heap.size, rfl, (new_second w _ _ _ 0).trans rfl, (new_first w _ _ _ 0).trans rfl⟩, bw_alloc (bw_alloc (Below.refl _ _) _) _⟩
set_option maxRecDepth 100000 in
theorem enters_numQ1 (args : Array Value) (w : World) : (callFunc 87 args).run Tryz.prog w = .ok (.enter 87 args) w := by
  go_simp

set_option maxRecDepth 100000 in
theorem numsI_any (p : Addr) (most : Int) (w : World) : Calls Tryz.prog 71 #[.pointer (some p), .int .i64 most] w fun e w' => ∃ v, e = .returned v ∧ TakesAt 91 v w' p most ∧ Below w.heap.size w w' := by
  have hmf : ∀ (fn : Fn) (first cap : Array Value) (w : World), (Instr.makeFunc fn first cap).run Tryz.prog w = .ok (.func fn first cap) w := fun _ _ _ _ => rfl
  go_enter Tryz.func71, Tryz.ntmps71
  go_wp2
  go_ret
  exact ⟨_, rfl, ⟨w.heap.size + 1, w.heap.size, rfl, (new_second w _ _ _ 0).trans rfl, (new_first w _ _ _ 0).trans rfl⟩, bw_alloc (bw_alloc (Below.refl _ _) _) _⟩
set_option maxRecDepth 100000 in
theorem enters_numsI1 (args : Array Value) (w : World) : (callFunc 91 args).run Tryz.prog w = .ok (.enter 91 args) w := by
  go_simp

set_option maxRecDepth 100000 in
theorem numsQ_any (p : Addr) (most : Int) (w : World) : Calls Tryz.prog 70 #[.pointer (some p), .int .i64 most] w fun e w' => ∃ v, e = .returned v ∧ TakesAt 88 v w' p most ∧ Below w.heap.size w w' := by
  have hmf : ∀ (fn : Fn) (first cap : Array Value) (w : World), (Instr.makeFunc fn first cap).run Tryz.prog w = .ok (.func fn first cap) w := fun _ _ _ _ => rfl
  go_enter Tryz.func70, Tryz.ntmps70
  go_wp2
  go_ret
  exact ⟨_, rfl, ⟨w.heap.size + 1, w.heap.size, rfl, (new_second w _ _ _ 0).trans rfl, (new_first w _ _ _ 0).trans rfl⟩, bw_alloc (bw_alloc (Below.refl _ _) _) _⟩
set_option maxRecDepth 100000 in
theorem enters_numsQ1 (args : Array Value) (w : World) : (callFunc 88 args).run Tryz.prog w = .ok (.enter 88 args) w := by
  go_simp
end Go.Proofs.YtlpffgmfgkleiaaGreatDoor

/-
  Rows of words, and raw tasks and systems, that came in, opened; a start that fits.
-/
namespace Go.Proofs.YtlpffgmfgkleiaaGreatDoor
open Go.ChangeShapes Go.WideShapes Go.ChangeAt Go.RowKit

instance : Inhabited WV := ⟨⟨0, 0, ⟨#[]⟩⟩⟩
theorem bulk_mem {H : Type} {d : DataW H} : ∀ {l : List (DataW H)}, d ∈ l → Rows.uptoBulk d ≤ Rows.uptoBulkAll l
  | [], h => by cases h
  | x :: l, h => by
    simp only [Rows.uptoBulkAll]
    rcases List.mem_cons.1 h with rfl | h
    · omega
    · have := bulk_mem h; omega
section
variable {H : Type} {enc : TypeId × Value → H} {W : World} {base : Nat} {spare : Nat → Bool} {held : Bool}

set_option maxRecDepth 100000 in
/-- The cells of a word. -/
theorem open_wcells {fuel : Nat} {cs : List Value} {y : DataW H × List MemPlace} (h : DataW.trod enc Tryz.prog W base spare held fuel 66 cs = some y) : ∃ x : WV, cs = x.cells ∧ I64 x.at_ ∧ x.tx.size ≤ Rows.uptoBulk y.1 := by
  obtain ⟨xs, n, _, hy, hl, hlen, hf⟩ := DataW.trod_struct Tryz.underlying66 h
  have hl3 : cs.length = 3 := hl.trans (by kernel_rfl)
  have hx3 : xs.length = 3 := hlen
  have k1 : Tryz.prog.cellsOf 3 = 1 := by kernel_rfl
  have k2 : Tryz.prog.cellsOf 9 = 1 := by kernel_rfl
  match cs, hl3, xs, hx3 with
  | [v0, v1, v2], _, [y0, y1, y2], _ =>
    have t0 : DataW.trod enc Tryz.prog W base spare held n 3 [v0] = some y0 := by have q := hf 0 _ rfl; simpa [k1, k2] using q
    have t1 : DataW.trod enc Tryz.prog W base spare held n 3 [v1] = some y1 := by have q := hf 1 _ rfl; simpa [k1, k2] using q
    have t2 : DataW.trod enc Tryz.prog W base spare held n 9 [v2] = some y2 := by have q := hf 2 _ rfl; simpa [k1, k2] using q
    obtain ⟨n0, e0, _, w0⟩ := DataW.trod_int Tryz.underlying3 t0
    obtain ⟨n1, e1, _, w1⟩ := DataW.trod_int Tryz.underlying3 t1
    obtain ⟨s, e2, d2, _⟩ := DataW.trod_string Tryz.underlying9 t2
    simp at e0 e1 e2
    subst e0 e1 e2
    refine ⟨⟨n0, n1, s⟩, rfl, i64_of_wf w0, ?_⟩
    rw [hy, d2]
    simp only [List.map_cons, List.map_nil, Rows.uptoBulk, Rows.uptoBulkAll]
    have e : s.data.toList.length = s.size := by rw [Array.length_toList]; rfl
    show s.size ≤ _
    omega
set_option maxRecDepth 100000 in
/-- A row of words. -/
theorem open_words {fuel : Nat} {v : Value} {y : DataW H × List MemPlace} (h : DataW.trod enc Tryz.prog W base spare held fuel 22 [v] = some y) :
    ∃ (a : Option Addr) (n c : Nat) (L : List WV), v = .slice a n c ∧ Words W a n c L ∧ ∀ x ∈ L, I64 x.at_ ∧ x.tx.size ≤ Rows.uptoBulk y.1 := by
  rcases Go.Deep.open_slice Tryz.underlying22 h with ⟨hcs, _⟩ | ⟨a, len, cap, m, n, D, Pl, hcs, hb, hl, hm, hmm, hx, hi⟩
  · simp at hcs; subst hcs
    exact ⟨none, 0, 0, [], rfl, ⟨rfl, .inl rfl, Nat.le_refl _, by omega⟩, (fun x hx => by cases hx)⟩
  · simp at hcs; subst hcs
    have k3 : Tryz.prog.cellsOf 66 = 3 := by kernel_rfl
    have hlm : len ≤ m := by rw [hmm]; split <;> omega
    obtain ⟨O, hO⟩ := Go.Deep.choose_lt (n := len) (p := fun i (x : WV) => (I64 x.at_ ∧ x.tx.size ≤ Rows.uptoBulk (D i)) ∧ ∀ j u, x.cells[j]? = some u → W.cell? (a.add (i * 3 + j)) = some u) (fun i hil => by
      obtain ⟨cs, hc, htr⟩ := hi i (by omega)
      rw [k3] at hc
      obtain ⟨_, hcl, hat⟩ := World.cells?_some hc
      obtain ⟨x, rfl, h1⟩ := open_wcells htr
      refine ⟨x, h1, fun j u hj => ?_⟩
      have hjl : j < 3 := by
        have := (List.getElem?_eq_some_iff.1 hj).1
        rwa [wcells_len] at this
      have := hat j hjl
      rw [Go.Deep.add_add] at this
      rw [this]; exact hj)
    refine ⟨some a, len, cap, (List.range len).map O, rfl, ⟨by simp, ?_, hl, by unfold maxLen at hm; omega⟩, ?_⟩
    · rcases Nat.eq_zero_or_pos len with z | z
      · subst z; left; rfl
      have z0 := (hO 0 z).2 0 _ rfl
      rcases a with ⟨b, off, spot⟩
      have hs : spot = none := by
        cases spot with
        | none => rfl
        | some s => simp [World.cell?, Addr.add] at z0; split at z0 <;> simp at z0
      subst hs
      refine .inr ⟨b, off, rfl, fun j u hj => ?_⟩
      have hjl : j < len * 3 := by
        have := (List.getElem?_eq_some_iff.1 hj).1
        rwa [wflat_len, List.length_map, List.length_range] at this
      have hk : ((List.range len).map O)[j / 3]? = some (O (j / 3)) := by simp [show j / 3 < len by omega]
      have hf := wflat_at _ _ _ hk (j % 3) (by omega)
      rw [show j / 3 * 3 + j % 3 = j by omega, hj] at hf
      have := (hO (j / 3) (by omega)).2 (j % 3) u hf.symm
      rw [addr_at, show j / 3 * 3 + j % 3 = j by omega] at this
      exact this
    · intro x hx'
      obtain ⟨i, hi', rfl⟩ := List.mem_map.1 hx'
      have hil : i < len := by simpa using hi'
      have q := (hO i hil).1
      refine ⟨q.1, Nat.le_trans q.2 ?_⟩
      rw [hx]
      simp only [Rows.uptoBulk]
      have : Rows.uptoBulk (D i) ≤ Rows.uptoBulkAll ((List.range len).map D) := bulk_mem (List.mem_map.2 ⟨i, hi', rfl⟩)
      omega
set_option maxRecDepth 100000 in
/-- A system's cells. -/
theorem open_syscells {fuel : Nat} {v0 v1 v2 : Value} {y : DataW H × List MemPlace} (h : DataW.trod enc Tryz.prog W base spare held fuel 29 [v0, v1, v2] = some y) :
    ∃ (s r : Int) (a : Option Addr) (n c : Nat) (L : List TV), v0 = .int .i64 s ∧ v1 = .int .i64 r ∧ v2 = .slice a n c ∧ Tasks W a n c L ∧ ∀ x ∈ L, I64 x.p ∧ I64 x.id := by
  obtain ⟨xs, n, _, _, _, hlen, hf⟩ := DataW.trod_struct Tryz.underlying29 h
  have hx3 : xs.length = 3 := hlen
  have k1 : Tryz.prog.cellsOf 3 = 1 := by kernel_rfl
  have k2 : Tryz.prog.cellsOf 2 = 1 := by kernel_rfl
  have k3 : Tryz.prog.cellsOf 27 = 1 := by kernel_rfl
  match xs, hx3 with
  | [y0, y1, y2], _ =>
    have t0 : DataW.trod enc Tryz.prog W base spare held n 3 [v0] = some y0 := by have q := hf 0 _ rfl; simpa [k1, k2, k3] using q
    have t1 : DataW.trod enc Tryz.prog W base spare held n 2 [v1] = some y1 := by have q := hf 1 _ rfl; simpa [k1, k2, k3] using q
    have t2 : DataW.trod enc Tryz.prog W base spare held n 27 [v2] = some y2 := by have q := hf 2 _ rfl; simpa [k1, k2, k3] using q
    obtain ⟨n0, e0, _, _⟩ := DataW.trod_int Tryz.underlying3 t0
    obtain ⟨n1, e1, _, _⟩ := DataW.trod_int Tryz.underlying2 t1
    obtain ⟨a, n2, c, L, e2, h2, h3⟩ := open_tasks t2
    simp at e0 e1
    exact ⟨n0, n1, a, n2, c, L, e0, e1, e2, h2, h3⟩
set_option maxRecDepth 100000 in
/-- A system's plain numbers' cells. -/
theorem open_nsyscells {fuel : Nat} {v0 v1 v2 : Value} {y : DataW H × List MemPlace} (h : DataW.trod enc Tryz.prog W base spare held fuel 32 [v0, v1, v2] = some y) :
    ∃ (s r : Int) (a : Option Addr) (n c : Nat) (L : List NV), v0 = .int .i64 s ∧ v1 = .int .i64 r ∧ v2 = .slice a n c ∧ Nums W a n c L := by
  obtain ⟨xs, n, _, _, _, hlen, hf⟩ := DataW.trod_struct Tryz.underlying32 h
  have hx3 : xs.length = 3 := hlen
  have k1 : Tryz.prog.cellsOf 3 = 1 := by kernel_rfl
  have k3 : Tryz.prog.cellsOf 30 = 1 := by kernel_rfl
  match xs, hx3 with
  | [y0, y1, y2], _ =>
    have t0 : DataW.trod enc Tryz.prog W base spare held n 3 [v0] = some y0 := by have q := hf 0 _ rfl; simpa [k1, k3] using q
    have t1 : DataW.trod enc Tryz.prog W base spare held n 3 [v1] = some y1 := by have q := hf 1 _ rfl; simpa [k1, k3] using q
    have t2 : DataW.trod enc Tryz.prog W base spare held n 30 [v2] = some y2 := by have q := hf 2 _ rfl; simpa [k1, k3] using q
    obtain ⟨n0, e0, _, _⟩ := DataW.trod_int Tryz.underlying3 t0
    obtain ⟨n1, e1, _, _⟩ := DataW.trod_int Tryz.underlying3 t1
    obtain ⟨a, n2, c, L, e2, h2⟩ := open_nrow t2
    simp at e0 e1
    exact ⟨n0, n1, a, n2, c, L, e0, e1, e2, h2⟩
set_option maxRecDepth 100000 in
/-- Raw ones, by value. -/
theorem open_raw {r : Reach} {b0 : Nat} {v : Value} {d : DataW H} {p : List MemPlace} (hv : Value.okWide Tryz.prog W r b0 34 v) (h : DataW.Trod enc Tryz.prog W base spare held 34 v d p) :
    ∃ (x : TV) (S R : Int) (a2 : Option Addr) (n2 c2 : Nat) (L : List TV) (S3 R3 : Int) (a3 : Option Addr) (n3 c3 : Nat) (L3 : List NV),
      v = .agg #[.int .i64 x.id, .int .i64 x.c, .int .i64 x.d, .int .i64 x.t, .int .i64 x.p, .slice x.a1 x.ch.length x.c1, .slice x.a2 x.us.length x.c2, .int .i64 S, .int .i64 R, .slice a2 n2 c2, .int .i64 S3, .int .i64 R3, .slice a3 n3 c3] ∧
      x.ok W ∧ Tasks W a2 n2 c2 L ∧ (∀ y ∈ L, I64 y.p ∧ I64 y.id) ∧ Nums W a3 n3 c3 L3 := by
  obtain ⟨cs, rfl, _⟩ := okWide_struct Tryz.underlying34 hv
  obtain ⟨fuel, hf0⟩ := h
  simp only [Value.cells] at hf0
  obtain ⟨xs, n, _, _, hl, hlen, hf⟩ := DataW.trod_struct Tryz.underlying34 hf0
  have hl13 : cs.toList.length = 13 := hl.trans (by kernel_rfl)
  have hx3 : xs.length = 3 := hlen
  have k1 : Tryz.prog.cellsOf TT = 7 := by kernel_rfl
  have k2 : Tryz.prog.cellsOf 29 = 3 := by kernel_rfl
  have k3 : Tryz.prog.cellsOf 32 = 3 := by kernel_rfl
  obtain ⟨l, hl'⟩ : ∃ l, cs.toList = l := ⟨_, rfl⟩
  have hcs : cs = l.toArray := by rw [← hl']
  rw [hl'] at hl13 hf
  match l, hl13, xs, hx3 with
  | [v0, v1, v2, v3, v4, v5, v6, v7, v8, v9, v10, v11, v12], _, [y0, y1, y2], _ =>
    have t0 : DataW.trod enc Tryz.prog W base spare held n TT [v0, v1, v2, v3, v4, v5, v6] = some y0 := by have q := hf 0 _ rfl; simpa [k1] using q
    have t1 : DataW.trod enc Tryz.prog W base spare held n 29 [v7, v8, v9] = some y1 := by have q := hf 1 _ rfl; simpa [k2] using q
    have t2 : DataW.trod enc Tryz.prog W base spare held n 32 [v10, v11, v12] = some y2 := by have q := hf 2 _ rfl; simpa [k3] using q
    obtain ⟨x, e0, hx, _⟩ := open_cells t0
    obtain ⟨S, R, a2, n2, c2, L, rfl, rfl, rfl, hL, hLi⟩ := open_syscells t1
    obtain ⟨S3, R3, a3, n3, c3, L3, rfl, rfl, rfl, hL3⟩ := open_nsyscells t2
    refine ⟨x, S, R, a2, n2, c2, L, S3, R3, a3, n3, c3, L3, ?_, hx, hL, hLi, hL3⟩
    rw [hcs]
    simp only [TV.cells, List.cons.injEq, and_true] at e0
    obtain ⟨rfl, rfl, rfl, rfl, rfl, rfl, rfl⟩ := e0
    rfl
/-- A start that fits, at a world that is written out. -/
theorem start_fits {C : Checked} {os : Os} {f : FuncId} {fn : Func} {s : OpenSpec} {conds : List PathCond} {apart : Bool} {laid : List (String × DataW Unit)} (modest : Bool) (w0 : World) (args : Array Value) (hos : w0.os = os)
    (hsh : (w0.forCall (fun _ _ => 0) ⟨#[], args, []⟩).Shaped C.prog)
    (hok : Input.okWideB C.prog (w0.forCall (fun _ _ => 0) ⟨#[], args, []⟩) f ⟨#[], args, []⟩ = true)
    (hrow : s.preRow enc C.prog fn conds apart laid (w0.forCall (fun _ _ => 0) ⟨#[], args, []⟩).memory args) :
    ∃ (w : World) (tape : Tape) (i : Input), w.os = os ∧ (w.forCall tape i).Shaped C.prog ∧ i.vars = [] ∧ Input.okWide C.prog (w.forCall tape i) .any w.heap.size f i ∧
      s.preRow enc C.prog fn conds apart laid (w.forCall tape i).memory i.args ∧ ({ modest := modest } : Assume).holds C.prog (Go.lone (Frame.enter C.prog f i.args .normal) [] (w.forCall tape i)) :=
  ⟨w0, fun _ _ => 0, ⟨#[], args, []⟩, hos, hsh, (Input.okWide_of_okWideB (base := 0) hok).1, (Input.okWide_of_okWideB hok).2, hrow, by
    simp only [Assume.holds]
    exact ⟨by simp, by simp, fun _ => Modest.zero, by simp, by simp⟩⟩
end
end Go.Proofs.YtlpffgmfgkleiaaGreatDoor

/-
  Rows of numbers as those of another kind.
-/
namespace Go.Proofs.YtlpffgmfgkleiaaGreatDoor
open Go.RowKit Go.Maps

theorem y_infoInt : (Tryz.prog.info? 3).map (fun i => (i.zero, i.size, i.bytes)) = some (some (.int .i64 0), 1, 8) := by kernel_rfl
theorem make_ints (c : Nat) (hc : c ≤ 2000000000) (w : World) : (Instr.makeSlice 24 (.int .i64 0) (.int .i64 (c : Int))).run Tryz.prog w = .ok (.slice (some ⟨w.heap.size, 0, none⟩) 0 c) (w.alloc (.cells (madeCells #[.int .i64 0] c) 3)) := by
  obtain ⟨i0, hi, hz0, hz1, hz2⟩ := info_parts y_infoInt
  have h := run_make w 24 3 i0 (.int .i64 0) Tryz.underlying24 hi hz0 .i64 .i64 0 c (by omega) (by omega) (by rw [hz2]; omega) (by omega)
  rw [hz1] at h
  simpa [Value.cells] using h
theorem own_room (w : World) (cap : Nat) (hc : cap ≤ 2000000000) (T : TypeId) : OwnI (w.alloc (.cells (madeCells #[.int .i64 0] cap) T)) T w.heap.size (.slice (some ⟨w.heap.size, 0, none⟩) 0 cap) [] :=
  World.ownsRow_made (e := T) (size := 1) (base := w.heap.size) (w := w) (madeCells #[.int .i64 0] cap) cap (by simp) (by unfold maxLen; omega) (by rw [size_madeCells]; omega)
/-- A row of one's own that comes back. -/
def AsBack (T : TypeId) (l : List Int) (n : Nat) (w : World) (e : Ending) (w' : World) : Prop :=
  ∃ a c, e = .returned (.slice a n c) ∧ OwnI w' T w.heap.size (.slice a n c) l ∧ Below w.heap.size w w'

set_option maxRecDepth 100000 in
set_option maxHeartbeats 2000000 in
theorem as_qq (a : Option Addr) (n cap : Nat) (l : List Int) (hl : l.length = n) (hn : n ≤ 1100000) (w : World) (h : Ints w a l) : Calls Tryz.prog 90 #[.slice a n cap] w (AsBack 2 l n w) := by
  have H := Lib.hid h
  have HL := Lib.hid hl
  have hmk := make_long n (by omega)
  clear h hl
  go_enter Tryz.func90, Tryz.ntmps90
  go_upto_region 2 with fail
  refine gen_world (fun v => Below w.heap.size w v ∧ OwnI v 2 w.heap.size (.slice (some ⟨w.heap.size, 0, none⟩) 0 n) []) ⟨bw_alloc (Below.refl _ _) _, own_room w n (by omega) _⟩ ?_
  intro W1 ⟨hb1, ho1⟩
  have HB1 := Lib.hid hb1
  have HO1 := Lib.hid ho1
  clear hb1 ho1 hmk
  go_wp2_with fail
  go_loopw [3, 11] (fun v u wr => ∃ (k : Nat) (a' : Option Addr) (cp' : Nat), k ≤ n ∧ u = .int .i64 k ∧ v = .slice a' k cp' ∧ Hid (Below w.heap.size w wr) ∧ Hid (OwnI wr 2 w.heap.size (.slice a' k cp') (l.take k))) (fun _ u _ => (n - intOf u).toNat)
  case atStart => exact ⟨0, _, _, by omega, rfl, rfl, HB1, HO1⟩
  case round =>
    obtain ⟨k, a', cp', hk, rfl, rfl, HB, HP⟩ := hrel
    by_cases hlt : k < n
    · obtain ⟨y, hy⟩ := nth_of HL.out hlt
      obtain ⟨g, o, rfl, z0⟩ := (H.out.below HB.out).at_ hy
      have hk1 : (k : Int) < (n : Int) := by omega
      have hk0 : (0 : Int) ≤ (k : Int) := by omega
      have HTL : Hid ((l.take k).length = k) := by show _ = _; rw [List.length_take, HL.out]; omega
      have HT2 : Hid (l.take k ++ [y] = l.take (k + 1)) := by show _ = _; rw [List.take_add_one, hy]; rfl
      have HSM : Hid ((((l.take k).length : Int) + ((1 : Nat) : Int)) ≤ 17592186044416) := by show _ ≤ _; rw [HTL.out]; omega
      have HNN : Hid ((l.take k).length + 1 = k + 1) := by show _ = _; rw [HTL.out]
      have HSZ : Hid (w.heap.size ≤ (wr.alloc (.cells #[.int .i64 y] 2)).heap.size) := by show _ ≤ _; rw [World.size_alloc]; have := HB.out.size; omega
      clear hy
      go_wp2_with (at_builtin; refine wp_ints (m := 1) (l := [y]) numL rfl _ _ rfl rfl rfl (HP.out.below (by repeat (first | exact Below.refl _ _ | (with_reducible assumption) | refine bw_alloc ?_ _ | refine bw_drew ?_))) HSZ.out (ints_new _ _ _) rfl HSM.out (fun z => by cases z) (k + 1) HNN.out ?_; intro a3 k3 w3 o3 g3 l3; have HO := Lib.hid (HT2.out ▸ o3); have HB2 := Lib.hid (growni_new (below_up HB.out (bw_alloc (Below.refl _ _) _)) (HP.out.below (bw_alloc (Below.refl _ _) _)) HSZ.out g3); clear o3 g3 l3)
      go_roundw
      case rel => exact ⟨k + 1, a3, k3, by omega, by go_num, rfl, HB2, HO⟩
      case measure => simp [intOf]; omega
    · obtain rfl : n = k := by omega
      have HT : Hid (l.take n = l) := by show _ = _; rw [← HL.out, List.take_length]
      go_wp2_with fail
      go_ret
      exact ⟨_, _, rfl, HT.out ▸ HP.out, HB.out⟩

set_option maxRecDepth 100000 in
set_option maxHeartbeats 2000000 in
theorem as_qi (a : Option Addr) (n cap : Nat) (l : List Int) (hl : l.length = n) (hn : n ≤ 1100000) (w : World) (h : Ints w a l) : Calls Tryz.prog 18 #[.slice a n cap] w (AsBack 2 l n w) := by
  have H := Lib.hid h
  have HL := Lib.hid hl
  have hmk := make_long n (by omega)
  clear h hl
  go_enter Tryz.func18, Tryz.ntmps18
  go_upto_region 2 with fail
  refine gen_world (fun v => Below w.heap.size w v ∧ OwnI v 2 w.heap.size (.slice (some ⟨w.heap.size, 0, none⟩) 0 n) []) ⟨bw_alloc (Below.refl _ _) _, own_room w n (by omega) _⟩ ?_
  intro W1 ⟨hb1, ho1⟩
  have HB1 := Lib.hid hb1
  have HO1 := Lib.hid ho1
  clear hb1 ho1 hmk
  go_wp2_with fail
  go_loopw [3, 11] (fun v u wr => ∃ (k : Nat) (a' : Option Addr) (cp' : Nat), k ≤ n ∧ u = .int .i64 k ∧ v = .slice a' k cp' ∧ Hid (Below w.heap.size w wr) ∧ Hid (OwnI wr 2 w.heap.size (.slice a' k cp') (l.take k))) (fun _ u _ => (n - intOf u).toNat)
  case atStart => exact ⟨0, _, _, by omega, rfl, rfl, HB1, HO1⟩
  case round =>
    obtain ⟨k, a', cp', hk, rfl, rfl, HB, HP⟩ := hrel
    by_cases hlt : k < n
    · obtain ⟨y, hy⟩ := nth_of HL.out hlt
      obtain ⟨g, o, rfl, z0⟩ := (H.out.below HB.out).at_ hy
      have hk1 : (k : Int) < (n : Int) := by omega
      have hk0 : (0 : Int) ≤ (k : Int) := by omega
      have HTL : Hid ((l.take k).length = k) := by show _ = _; rw [List.length_take, HL.out]; omega
      have HT2 : Hid (l.take k ++ [y] = l.take (k + 1)) := by show _ = _; rw [List.take_add_one, hy]; rfl
      have HSM : Hid ((((l.take k).length : Int) + ((1 : Nat) : Int)) ≤ 17592186044416) := by show _ ≤ _; rw [HTL.out]; omega
      have HNN : Hid ((l.take k).length + 1 = k + 1) := by show _ = _; rw [HTL.out]
      have HSZ : Hid (w.heap.size ≤ (wr.alloc (.cells #[.int .i64 y] 2)).heap.size) := by show _ ≤ _; rw [World.size_alloc]; have := HB.out.size; omega
      clear hy
      go_wp2_with (at_builtin; refine wp_ints (m := 1) (l := [y]) numL rfl _ _ rfl rfl rfl (HP.out.below (by repeat (first | exact Below.refl _ _ | (with_reducible assumption) | refine bw_alloc ?_ _ | refine bw_drew ?_))) HSZ.out (ints_new _ _ _) rfl HSM.out (fun z => by cases z) (k + 1) HNN.out ?_; intro a3 k3 w3 o3 g3 l3; have HO := Lib.hid (HT2.out ▸ o3); have HB2 := Lib.hid (growni_new (below_up HB.out (bw_alloc (Below.refl _ _) _)) (HP.out.below (bw_alloc (Below.refl _ _) _)) HSZ.out g3); clear o3 g3 l3)
      go_roundw
      case rel => exact ⟨k + 1, a3, k3, by omega, by go_num, rfl, HB2, HO⟩
      case measure => simp [intOf]; omega
    · obtain rfl : n = k := by omega
      have HT : Hid (l.take n = l) := by show _ = _; rw [← HL.out, List.take_length]
      go_wp2_with fail
      go_ret
      exact ⟨_, _, rfl, HT.out ▸ HP.out, HB.out⟩

set_option maxRecDepth 100000 in
set_option maxHeartbeats 2000000 in
theorem as_iq (a : Option Addr) (n cap : Nat) (l : List Int) (hl : l.length = n) (hn : n ≤ 1100000) (w : World) (h : Ints w a l) : Calls Tryz.prog 92 #[.slice a n cap] w (AsBack 3 l n w) := by
  have H := Lib.hid h
  have HL := Lib.hid hl
  have hmk := make_ints n (by omega)
  clear h hl
  go_enter Tryz.func92, Tryz.ntmps92
  go_upto_region 2 with fail
  refine gen_world (fun v => Below w.heap.size w v ∧ OwnI v 3 w.heap.size (.slice (some ⟨w.heap.size, 0, none⟩) 0 n) []) ⟨bw_alloc (Below.refl _ _) _, own_room w n (by omega) _⟩ ?_
  intro W1 ⟨hb1, ho1⟩
  have HB1 := Lib.hid hb1
  have HO1 := Lib.hid ho1
  clear hb1 ho1 hmk
  go_wp2_with fail
  go_loopw [3, 11] (fun v u wr => ∃ (k : Nat) (a' : Option Addr) (cp' : Nat), k ≤ n ∧ u = .int .i64 k ∧ v = .slice a' k cp' ∧ Hid (Below w.heap.size w wr) ∧ Hid (OwnI wr 3 w.heap.size (.slice a' k cp') (l.take k))) (fun _ u _ => (n - intOf u).toNat)
  case atStart => exact ⟨0, _, _, by omega, rfl, rfl, HB1, HO1⟩
  case round =>
    obtain ⟨k, a', cp', hk, rfl, rfl, HB, HP⟩ := hrel
    by_cases hlt : k < n
    · obtain ⟨y, hy⟩ := nth_of HL.out hlt
      obtain ⟨g, o, rfl, z0⟩ := (H.out.below HB.out).at_ hy
      have hk1 : (k : Int) < (n : Int) := by omega
      have hk0 : (0 : Int) ≤ (k : Int) := by omega
      have HTL : Hid ((l.take k).length = k) := by show _ = _; rw [List.length_take, HL.out]; omega
      have HT2 : Hid (l.take k ++ [y] = l.take (k + 1)) := by show _ = _; rw [List.take_add_one, hy]; rfl
      have HSM : Hid ((((l.take k).length : Int) + ((1 : Nat) : Int)) ≤ 17592186044416) := by show _ ≤ _; rw [HTL.out]; omega
      have HNN : Hid ((l.take k).length + 1 = k + 1) := by show _ = _; rw [HTL.out]
      have HSZ : Hid (w.heap.size ≤ (wr.alloc (.cells #[.int .i64 y] 3)).heap.size) := by show _ ≤ _; rw [World.size_alloc]; have := HB.out.size; omega
      clear hy
      go_wp2_with (at_builtin; refine wp_ints (m := 1) (l := [y]) numI rfl _ _ rfl rfl rfl (HP.out.below (by repeat (first | exact Below.refl _ _ | (with_reducible assumption) | refine bw_alloc ?_ _ | refine bw_drew ?_))) HSZ.out (ints_new _ _ _) rfl HSM.out (fun z => by cases z) (k + 1) HNN.out ?_; intro a3 k3 w3 o3 g3 l3; have HO := Lib.hid (HT2.out ▸ o3); have HB2 := Lib.hid (growni_new (below_up HB.out (bw_alloc (Below.refl _ _) _)) (HP.out.below (bw_alloc (Below.refl _ _) _)) HSZ.out g3); clear o3 g3 l3)
      go_roundw
      case rel => exact ⟨k + 1, a3, k3, by omega, by go_num, rfl, HB2, HO⟩
      case measure => simp [intOf]; omega
    · obtain rfl : n = k := by omega
      have HT : Hid (l.take n = l) := by show _ = _; rw [← HL.out, List.take_length]
      go_wp2_with fail
      go_ret
      exact ⟨_, _, rfl, HT.out ▸ HP.out, HB.out⟩
end Go.Proofs.YtlpffgmfgkleiaaGreatDoor
