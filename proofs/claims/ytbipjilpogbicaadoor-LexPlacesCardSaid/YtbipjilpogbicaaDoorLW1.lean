/-
  The walk over the document's words of a text.
-/
import Derived.Test.YtbipjilpogbicaaDoorLNum
namespace Go.Proofs.YtbipjilpogbicaaDoor
open Go.RowKit Go.Maps

/-- A row of words of one's own that comes back. -/
def WordsBack (l : List WV) (w : World) (e : Ending) (w' : World) : Prop :=
  ∃ (a : Option Addr) (c : Nat), e = .returned (.slice a l.length c) ∧ OwnW w' w.heap.size (.slice a l.length c) l ∧ Below w.heap.size w w'
theorem wstep_go (s : ByteArray) (i : Nat) (q : LS) {c : Nat} (hc : byteAt s i = c) {O K : Bool} (hO : (q.off || decide (c = 35)) = O) (hK : decide (c = 10 ∨ O = true ∨ c = 32 ∨ c = 9) = K) :
    wstep s i q = if K = true then ⟨if q.fr < 0 then q.out else q.out ++ [⟨q.fr, q.ln, s.extract q.fr.toNat i⟩], if c = 10 then q.ln + 1 else q.ln, -1, if c = 10 then false else O⟩ else ⟨q.out, q.ln, if q.fr < 0 then (i : Int) else q.fr, q.off⟩ := by
  subst hc hO hK
  unfold wstep
  simp only [decide_eq_true_eq]
theorem grown_wnew {W w3 w4 : World} {B : Nat} {v : Value} {l : List WV} (hb : Below B W w3) (ho : OwnW w3 B v l) (hB : B ≤ w3.heap.size) (hg : w3.grownBy w4 v.ownBlock) : Below B W w4 :=
  hb.grown hg hB (fun k hk => (ho.new hk).1)

set_option maxRecDepth 100000 in
set_option maxHeartbeats 4000000 in
theorem rwords_any (s : ByteArray) (hs : s.size ≤ 900000) (w : World) : Calls Tryd.prog 15 #[.string s] w (WordsBack (wordsOf s) w) := by
  go_enter Tryd.func15, Tryd.ntmps15
  go_wp2_with fail
  go_loopw [3, 4, 5, 6, 7] (fun v l f o u wr => ∃ (i m : Nat) (a' : Option Addr) (cp' : Nat) (q : LS), i ≤ s.size + 1 ∧ m ≤ i ∧ 1 ≤ q.ln ∧ q.ln ≤ (i : Int) + 1 ∧ -1 ≤ q.fr ∧ q.fr < i ∧ u = .int .i64 i ∧ o = .bool q.off ∧ f = .int .i64 q.fr ∧ l = .int .i64 q.ln ∧ v = .slice a' m cp' ∧ Hid (q.out.length = m) ∧ Hid (wrun s i = q) ∧ Hid (Below w.heap.size w wr) ∧ Hid (OwnW wr w.heap.size (.slice a' m cp') q.out)) (fun _ _ _ _ u _ => (s.size + 1 - intOf u).toNat)
  case atStart => exact ⟨0, 0, _, _, ⟨[], 1, -1, false⟩, by omega, by omega, by simp, by simp, by simp, by simp, rfl, rfl, rfl, rfl, rfl, rfl, rfl, Below.refl _ _, OwnW.nil _ _⟩
  case round =>
    obtain ⟨i, m, a', cp', q, hi, hm, hl1, hl2, hf1, hf2, rfl, rfl, rfl, rfl, rfl, HQL, HQ, HB, HP⟩ := hrel
    by_cases hlt : i ≤ s.size
    · have hk1 : (i : Int) ≤ (s.size : Int) := by omega
      have hk0 : (0 : Int) ≤ (i : Int) := by omega
      obtain ⟨c, hc⟩ : ∃ c, byteAt s i = c := ⟨_, rfl⟩
      obtain ⟨E, hE⟩ : ∃ E, decide (c = 10) = E := ⟨_, rfl⟩
      obtain ⟨N, hN⟩ : ∃ N, decide (c = 35) = N := ⟨_, rfl⟩
      obtain ⟨O, hO⟩ : ∃ O, (q.off || decide (c = 35)) = O := ⟨_, rfl⟩
      obtain ⟨K, hK⟩ : ∃ K, decide (c = 10 ∨ O = true ∨ c = 32 ∨ c = 9) = K := ⟨_, rfl⟩
      have HST := Lib.hid (wstep_go s i q hc hO hK)
      have HC := Lib.hid hc
      have HE := Lib.hid hE
      have HO : Hid ((q.off || N) = O) := by show _ = _; rw [← hN]; exact hO
      have HNN := Lib.hid hN
      have HK := Lib.hid hK
      have HIN : Hid (∀ h : i < s.size, s[i].toNat = c) := fun h => by
        rw [← hc]; exact (byteAt_in s h).2.symm
      have HIE : Hid (¬ i < s.size → c = 10) := fun h => by rw [← hc]; exact byteAt_end s (by omega)
      clear hc hE hO hK hN
      go_upto_region 8 with fail
      go_cut [8] from 15 to 24 (fun u wx => u = .bool E ∧ Hid (Below w.heap.size w wx) ∧ Hid (OwnW wx w.heap.size (.slice a' m cp') q.out))
      case first =>
        cases E with
        | true =>
          have hc10 : c = 10 := by have := HE.out; simpa using this
          by_cases hin : i < s.size
          · have d1 : ((i : Int) == (s.size : Int)) = false := by rw [beq_eq_false_iff_ne]; omega
            have d2 : ((s[i].toNat : Int) == 10) = true := by rw [beq_iff_eq, HIN.out hin]; omega
            clear hc10
            go_wp2_with fail
            go_meet
            exact ⟨rfl, HB, HP⟩
          · have d1 : ((i : Int) == (s.size : Int)) = true := by rw [beq_iff_eq]; omega
            clear hin hc10
            go_wp2_with fail
            go_meet
            exact ⟨rfl, HB, HP⟩
        | false =>
          have hc10 : ¬ c = 10 := by have := HE.out; simpa using this
          have hin : i < s.size := Decidable.byContradiction fun h => hc10 (HIE.out h)
          have d1 : ((i : Int) == (s.size : Int)) = false := by rw [beq_eq_false_iff_ne]; omega
          have d2 : ((s[i].toNat : Int) == 10) = false := by rw [beq_eq_false_iff_ne, HIN.out hin]; omega
          clear hc10
          go_wp2_with fail
          go_meet
          exact ⟨rfl, HB, HP⟩
      case rest =>
        clear HB HP
        obtain ⟨rfl, HB, HP⟩ := hcut
        go_upto_region 9 with fail
        go_cut [32] from 25 to 32 (fun u wx => u = .bool N ∧ Hid (Below w.heap.size w wx) ∧ Hid (OwnW wx w.heap.size (.slice a' m cp') q.out))
        case first =>
          cases E with
          | true =>
            have HH35 : Hid (decide (c = 35) = false) := by show _ = _; have := HE.out; simp at this; exact decide_eq_false (by omega)
            go_wp2_with fail
            go_meet
            exact ⟨by rw [← HNN.out, HH35.out], HB, HP⟩
          | false =>
            have hc10 : ¬ c = 10 := by have := HE.out; simpa using this
            have hin : i < s.size := Decidable.byContradiction fun h => hc10 (HIE.out h)
            by_cases h35 : c = 35
            · have d2 : ((s[i].toNat : Int) == 35) = true := by rw [beq_iff_eq, HIN.out hin]; omega
              have H35 := Lib.hid (decide_eq_true h35)
              clear hc10 h35
              go_wp2_with fail
              go_meet
              exact ⟨by rw [← HNN.out, H35.out], HB, HP⟩
            · have d2 : ((s[i].toNat : Int) == 35) = false := by rw [beq_eq_false_iff_ne, HIN.out hin]; omega
              have H35 := Lib.hid (decide_eq_false h35)
              clear hc10 h35
              go_wp2_with fail
              go_meet
              exact ⟨by rw [← HNN.out, H35.out], HB, HP⟩
        case rest =>
          clear HB HP
          obtain ⟨rfl, HB, HP⟩ := hcut
          go_upto_if 32 with fail
          go_cut [6] from 33 to 33 (fun u wx => u = .bool O ∧ Hid (Below w.heap.size w wx) ∧ Hid (OwnW wx w.heap.size (.slice a' m cp') q.out))
          case first =>
            cases N with
            | true =>
              have HOO : Hid (O = true) := by show _ = _; rw [← HO.out, Bool.or_true]
              go_wp2_with fail
              go_meet
              exact ⟨by rw [HOO.out], HB, HP⟩
            | false =>
              have HOO : Hid (O = q.off) := by show _ = _; rw [← HO.out, Bool.or_false]
              go_wp2_with fail
              go_meet
              exact ⟨by rw [HOO.out], HB, HP⟩
          case rest =>
            clear HB HP
            obtain ⟨rfl, HB, HP⟩ := hcut
            go_upto_region 11 with fail
            go_cut [48] from 33 to 48 (fun u wx => u = .bool K ∧ Hid (Below w.heap.size w wx) ∧ Hid (OwnW wx w.heap.size (.slice a' m cp') q.out))
            case first =>
              cases E with
              | true =>
                have HKK : Hid (K = true) := by
                  show _ = _; rw [← HK.out]
                  have := HE.out; simp at this
                  exact decide_eq_true (.inl this)
                go_wp2_with fail
                go_meet
                exact ⟨by rw [HKK.out], HB, HP⟩
              | false =>
                have hc10 : ¬ c = 10 := by have := HE.out; simpa using this
                have hin : i < s.size := Decidable.byContradiction fun h => hc10 (HIE.out h)
                cases O with
                | true =>
                  have HKK : Hid (K = true) := by
                    show _ = _; rw [← HK.out]; exact decide_eq_true (.inr (.inl rfl))
                  clear hc10
                  go_wp2_with fail
                  go_meet
                  exact ⟨by rw [HKK.out], HB, HP⟩
                | false =>
                  by_cases h32 : c = 32
                  · have d2 : ((s[i].toNat : Int) == 32) = true := by rw [beq_iff_eq, HIN.out hin]; omega
                    have HKK : Hid (K = true) := by
                      show _ = _; rw [← HK.out]; exact decide_eq_true (.inr (.inr (.inl h32)))
                    clear hc10 h32
                    go_wp2_with fail
                    go_meet
                    exact ⟨by rw [HKK.out], HB, HP⟩
                  · have d2 : ((s[i].toNat : Int) == 32) = false := by rw [beq_eq_false_iff_ne, HIN.out hin]; omega
                    by_cases h9 : c = 9
                    · have d3 : ((s[i].toNat : Int) == 9) = true := by rw [beq_iff_eq, HIN.out hin]; omega
                      have HKK : Hid (K = true) := by
                        show _ = _; rw [← HK.out]; exact decide_eq_true (.inr (.inr (.inr h9)))
                      clear hc10 h32 h9
                      go_wp2_with fail
                      go_meet
                      exact ⟨by rw [HKK.out], HB, HP⟩
                    · have d3 : ((s[i].toNat : Int) == 9) = false := by rw [beq_eq_false_iff_ne, HIN.out hin]; omega
                      have HKK : Hid (K = false) := by
                        show _ = _; rw [← HK.out]; exact decide_eq_false (by rintro (q | q | q | q) <;> first | exact hc10 q | exact h32 q | exact h9 q | cases q)
                      clear hc10 h32 h9
                      go_wp2_with fail
                      go_meet
                      exact ⟨by rw [HKK.out], HB, HP⟩
            case rest =>
              clear HB HP
              obtain ⟨rfl, HB, HP⟩ := hcut
              cases K with
              | true =>
                obtain ⟨F, hF⟩ : ∃ F, decide (0 ≤ q.fr) = F := ⟨_, rfl⟩
                go_upto_if 50 with fail
                have HF := Lib.hid hF
                clear hF
                obtain ⟨out', ho'⟩ : ∃ o, (if q.fr < 0 then q.out else q.out ++ [(⟨q.fr, q.ln, s.extract q.fr.toNat i⟩ : WV)]) = o := ⟨_, rfl⟩
                have HOUT := Lib.hid ho'
                clear ho'
                go_cut [3] from 51 to 60 (fun u wx => ∃ (m2 : Nat) (a2 : Option Addr) (c2 : Nat), u = .slice a2 m2 c2 ∧ m2 ≤ i + 1 ∧ Hid (out'.length = m2) ∧ Hid (Below w.heap.size w wx) ∧ Hid (OwnW wx w.heap.size (.slice a2 m2 c2) out'))
                case first =>
                  cases F with
                  | false =>
                    have hf : q.fr < 0 := by have := HF.out; simp at this; exact this
                    have ho := HOUT.out
                    rw [if_pos hf] at ho
                    subst ho
                    clear HOUT
                    go_wp2_with fail
                    go_meet
                    exact ⟨m, a', cp', rfl, by omega, HQL, HB, HP⟩
                  | true =>
                    have hf9 : 0 ≤ q.fr := by have := HF.out; simpa using this
                    have hf : ¬ q.fr < 0 := by omega
                    have hf8 : q.fr ≤ (i : Int) := by omega
                    have ho := HOUT.out
                    rw [if_neg hf] at ho
                    have HOO := Lib.hid ho
                    have HSM : Hid (q.out.length + 1 ≤ 1000000) := by show _ ≤ _; rw [HQL.out]; omega
                    have HNL : Hid (q.out.length + 1 = m + 1) := by show _ = _; rw [HQL.out]
                    have HL2 : Hid (out'.length = m + 1) := by show _ = _; rw [← ho, List.length_append, HQL.out]; rfl
                    clear HOUT ho hf
                    go_wp2_with (at_builtin; refine wp_wappend (m := 1) (l := [(⟨q.fr, q.ln, s.extract q.fr.toNat i⟩ : WV)]) rfl _ _ rfl rfl rfl (HP.out.below (by repeat (first | exact Below.refl _ _ | (with_reducible assumption) | refine bw_alloc ?_ _ | refine bw_drew ?_))) (Nat.le_trans HB.out.size ((by repeat (first | exact Below.refl _ _ | (with_reducible assumption) | refine bw_alloc ?_ _ | refine bw_drew ?_)) : Below wc.heap.size wc _).size) (WView.of_at (wat_new _ ⟨q.fr, q.ln, s.extract q.fr.toNat i⟩ _)) rfl HSM.out (fun z => by cases z) (m + 1) HNL.out ?_; intro a3 k3 w3 o3 g3 l3; have HN3 := Lib.hid (HOO.out ▸ o3); have HB3 := Lib.hid (grown_wnew (below_up HB.out ((by repeat (first | exact Below.refl _ _ | (with_reducible assumption) | refine bw_alloc ?_ _ | refine bw_drew ?_)) : Below wc.heap.size wc _)) (HP.out.below ((by repeat (first | exact Below.refl _ _ | (with_reducible assumption) | refine bw_alloc ?_ _ | refine bw_drew ?_)) : Below wc.heap.size wc _)) (Nat.le_trans HB.out.size ((by repeat (first | exact Below.refl _ _ | (with_reducible assumption) | refine bw_alloc ?_ _ | refine bw_drew ?_)) : Below wc.heap.size wc _).size) g3); clear o3 g3 l3)
                    go_meet
                    exact ⟨m + 1, a3, k3, rfl, by omega, HL2, HB3, HN3⟩
                case rest =>
                  clear HB HP HQL
                  obtain ⟨m2, a2, c2, rfl, hm2, HQL, HB, HP⟩ := hcut
                  have hw1 : IntKind.i64.wrap (q.ln + 1) = q.ln + 1 := IntWalk.i64_in _ (by omega)
                  have hwi : IntKind.i64.wrap ((i : Int) + 1) = (i : Int) + 1 := IntWalk.i64_in _ (by omega)
                  cases E with
                  | true =>
                    have HS2 : Hid (wrun s (i + 1) = ⟨out', q.ln + 1, -1, false⟩) := by
                      have h10 : c = 10 := by have := HE.out; simpa using this
                      show _ = _
                      rw [wrun, HQ.out, HST.out, if_pos rfl, HOUT.out, if_pos h10, if_pos h10]
                    go_wp2_with fail
                    go_roundw
                    case rel => exact ⟨i + 1, m2, a2, c2, ⟨out', q.ln + 1, -1, false⟩, by omega, by omega, by simp only []; omega, by simp only []; omega, by simp only []; omega, by simp only []; omega, by go_num, rfl, rfl, rfl, rfl, HQL, HS2, HB, HP⟩
                    case measure => simp [intOf]; omega
                  | false =>
                    have HS2 : Hid (wrun s (i + 1) = ⟨out', q.ln, -1, O⟩) := by
                      have h10 : ¬ c = 10 := by have := HE.out; simpa using this
                      show _ = _
                      rw [wrun, HQ.out, HST.out, if_pos rfl, HOUT.out, if_neg h10, if_neg h10]
                    go_wp2_with fail
                    go_roundw
                    case rel => exact ⟨i + 1, m2, a2, c2, ⟨out', q.ln, -1, O⟩, by omega, by omega, by simp only []; omega, by simp only []; omega, by simp only []; omega, by simp only []; omega, by go_num, rfl, rfl, rfl, rfl, HQL, HS2, HB, HP⟩
                    case measure => simp [intOf]; omega
              | false =>
                have HEF : Hid (E = false ∧ O = false) := by
                  have h := HK.out
                  rw [decide_eq_false_iff_not] at h
                  have h1 : ¬ c = 10 := fun z => h (.inl z)
                  have h2 : ¬ O = true := fun z => h (.inr (.inl z))
                  exact ⟨by rw [← HE.out]; exact decide_eq_false h1, by simpa using h2⟩
                obtain ⟨rfl, rfl⟩ := HEF.out
                have HOF : Hid (q.off = false) := by
                  have := HO.out
                  simp only [Bool.or_eq_false_iff] at this
                  exact this.1
                clear HEF
                by_cases hf : q.fr < 0
                · have HS2 : Hid (wrun s (i + 1) = ⟨q.out, q.ln, (i : Int), false⟩) := by
                    show _ = _
                    rw [wrun, HQ.out, HST.out, if_neg (by simp), if_pos hf, HOF.out]
                  go_wp2_with fail
                  go_roundw
                  case rel => exact ⟨i + 1, m, a', cp', ⟨q.out, q.ln, (i : Int), false⟩, by omega, by omega, by simp only []; omega, by simp only []; omega, by simp only []; omega, by simp only []; omega, by go_num, rfl, rfl, rfl, rfl, HQL, HS2, HB, HP⟩
                  case measure => simp [intOf]; omega
                · have HS2 : Hid (wrun s (i + 1) = ⟨q.out, q.ln, q.fr, false⟩) := by
                    show _ = _
                    rw [wrun, HQ.out, HST.out, if_neg (by simp), if_neg hf, HOF.out]
                  go_wp2_with fail
                  go_roundw
                  case rel => exact ⟨i + 1, m, a', cp', ⟨q.out, q.ln, q.fr, false⟩, by omega, by omega, by simp only []; omega, by simp only []; omega, by simp only []; omega, by simp only []; omega, by go_num, rfl, rfl, rfl, rfl, HQL, HS2, HB, HP⟩
                  case measure => simp [intOf]; omega
    · obtain rfl : i = s.size + 1 := by omega
      have HD : Hid (q.out = wordsOf s) := by show _ = _; unfold wordsOf; rw [HQ.out]
      go_wp2_with fail
      go_ret
      exact ⟨a', cp', by rw [← HD.out, HQL.out]; rfl, by rw [← HD.out, HQL.out]; exact HP.out, HB.out⟩
end Go.Proofs.YtbipjilpogbicaaDoor
