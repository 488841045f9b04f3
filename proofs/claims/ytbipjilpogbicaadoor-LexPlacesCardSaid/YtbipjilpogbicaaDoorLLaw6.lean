/-
  The walk over the law of the places of words.
-/
import Derived.Test.YtbipjilpogbicaaDoorLLaw3
namespace Go.Proofs.YtbipjilpogbicaaDoor
open Go.RowKit Go.Maps

/-- Where the words before one end. -/
def endOf (L : List WV) : Nat → Nat
  | 0 => 0
  | i + 1 => match L[i]? with
    | some x => x.till
    | none => 0
/-- What is so of a word at its place. -/
structure Pl (s : ByteArray) (L : List WV) (i : Nat) (x : WV) (p q e : Nat) : Prop where
  at_ : x.at_ = (p : Int)
  size : x.tx.size = q
  pos : 0 < q
  lo : e ≤ p
  hi : p + q ≤ s.size
  is : s.extract p (p + q) = x.tx
  ln : x.ln = 1 + (ends s p : Nat)
  no : ∀ k, k < q → byteAt x.tx k ≠ 32 ∧ byteAt x.tx k ≠ 9 ∧ byteAt x.tx k ≠ 10 ∧ byteAt x.tx k ≠ 35
  on : ends s (p + q) = ends s p
  next : endOf L (i + 1) = p + q
  ahead : 0 < i → ∃ z, L[i - 1]? = some z ∧ (z.ln = x.ln → e < p ∧ ∀ j, e ≤ j → j < p → byteAt s j = 32 ∨ byteAt s j = 9)
theorem place (s : ByteArray) {L : List WV} (hL : wordsOf s = L) {i : Nat} {x : WV} (hx : L[i]? = some x) : ∃ p q, Pl s L i x p q (endOf L i) := by
  have hf := words_found s
  rw [hL] at hf
  have hs := hf.1 x (List.mem_of_getElem? hx)
  obtain ⟨p, hp⟩ : ∃ p, x.at_.toNat = p := ⟨_, rfl⟩
  obtain ⟨q, hq⟩ : ∃ q, x.tx.size = q := ⟨_, rfl⟩
  have h1 := hs.lo
  have h2 := hs.hi
  have h3 := hs.is
  have h4 := hs.some
  have h5 := hs.ln
  have h6 := hs.no
  rw [hp, hq] at h2 h3 h6
  rw [hp] at h5
  rw [hq] at h4
  have hpq : p + q ≤ s.size := by
    have := congrArg ByteArray.size h3
    rw [ByteArray.size_extract, hq] at this
    omega
  have hby : ∀ k, k < q → byteAt x.tx k = byteAt s (p + k) := fun k hk => by
    rw [(byteAt_in x.tx (by rw [hq]; exact hk)).2, (byteAt_in s (show p + k < s.size by omega)).2]
    congr 1
    have e : ∀ (t : ByteArray) (h : k < t.size), t = s.extract p (p + q) → t[k] = s[p + k]'(by omega) := by
      intro t h e
      subst e
      rw [ByteArray.getElem_extract]
    exact e x.tx (by rw [hq]; exact hk) h3
  have hend : endOf L (i + 1) = p + q := by
    rw [endOf, hx]
    show x.till = _
    unfold WV.till
    rw [hp, hq]
  refine ⟨p, q, ⟨by omega, hq, h4, ?_, hpq, h3.symm, h5, fun k hk => ?_, ?_, hend, ?_⟩⟩
  · cases i with
    | zero => exact Nat.zero_le _
    | succ i =>
      obtain ⟨z, hz⟩ := nth_of (rfl : L.length = L.length) (show i < L.length by have := (List.getElem?_eq_some_iff.1 hx).1; omega)
      have hn := (hf.2 i z x hz hx).le
      rw [hp] at hn
      rw [endOf, hz]
      exact hn
  · have := h6 (p + k) (by omega) (by omega)
    unfold Sep at this
    rw [hby k hk]
    refine ⟨fun e => this ?_, fun e => this ?_, fun e => this ?_, fun e => this ?_⟩
    all_goals simp [e]
  · refine ends_same s p q (fun j a b => ?_)
    have := h6 j a b
    unfold Sep at this
    exact fun e => this (by simp [e])
  · intro hi0
    obtain ⟨j, rfl⟩ : ∃ j, i = j + 1 := ⟨i - 1, by omega⟩
    obtain ⟨z, hz⟩ := nth_of (rfl : L.length = L.length) (show j < L.length by have := (List.getElem?_eq_some_iff.1 hx).1; omega)
    refine ⟨z, hz, fun e => ?_⟩
    have hn := (hf.2 j z x hz hx).same e
    rw [hp] at hn
    have ee : endOf L (j + 1) = z.till := by rw [endOf, hz]
    rw [ee]
    exact hn

set_option maxRecDepth 100000 in
set_option maxHeartbeats 8000000 in
theorem law_places (w : World) (s0 : ByteArray) (_hs : s0.size ≤ maxLen) : Calls Tryd.prog 6 #[.string s0] w fun e w' => e = .returned (.bool true) ∧ Below w.heap.size w w' := by
  obtain ⟨s, hS⟩ : ∃ A, shortOf s0 160 = A := ⟨_, rfl⟩
  have hs6 : s.size ≤ 160 := by rw [← hS]; exact short_le _ _
  obtain ⟨L, hL⟩ : ∃ L, wordsOf s = L := ⟨_, rfl⟩
  obtain ⟨n, hn⟩ : ∃ n, L.length = n := ⟨_, rfl⟩
  have hn9 : n ≤ 161 := by rw [← hn, ← hL]; have := (wrun_inv s (s.size + 1) (by omega)).1; unfold wordsOf; omega
  have AW := Lib.hid (awake_any w)
  have SA := Lib.hid (fun w => short_lit s0 160 160 rfl (by omega) hS w)
  have C1 := Lib.hid (fun w => words_l s (by omega) hL hn w)
  have HP : Hid (∀ i x, L[i]? = some x → ∃ p q, Pl s L i x p q (endOf L i)) := fun i x hx => place s hL hx
  have HN := Lib.hid hn
  have HBY : Hid (∀ i, (h : i < s.size) → s[i].toNat = byteAt s i) := fun i h => (byteAt_in s h).2.symm
  clear hS hL hn _hs
  go_enter Tryd.func6, Tryd.ntmps6
  go_wp2_with (first
    | (go_at_call 9; (with_reducible refine AW.out.mono ?_); rintro e w1 ⟨rfl, b1⟩; have B1 := Lib.hid b1; clear b1)
    | (go_at_call 10; (with_reducible refine (SA.out _).mono ?_); rintro e w' ⟨rfl, rfl⟩)
    | (go_at_call 14; (with_reducible refine (C1.out _).mono ?_); rintro e w2 ⟨a, c, rfl, v, kc, mc, b2⟩; have HV := Lib.hid v; have B2 := Lib.hid b2; clear v b2))
  have HW : Hid (Below w.heap.size w w2) := below_up B1.out B2.out
  clear AW SA C1 B1 B2
  go_loopw [5, 6, 7] (fun u v x wr => ∃ (i e : Nat) (m : Int), i ≤ n ∧ e ≤ s.size ∧ 1 ≤ m ∧ m ≤ (e : Int) + 1 ∧ u = .int .i64 e ∧ v = .int .i64 m ∧ x = .int .i64 i ∧ Hid (endOf L i = e) ∧ Hid (m = 1 + (ends s e : Nat)) ∧ Hid (Below w2.heap.size w2 wr)) (fun _ _ x _ => (n - intOf x).toNat)
  case atStart => exact ⟨0, 0, 1, by omega, by omega, by omega, by omega, rfl, rfl, rfl, rfl, rfl, Below.refl _ _⟩
  case round =>
    obtain ⟨i, e, m, hi, he, hm1, hm2, rfl, rfl, rfl, HE, HM, HB⟩ := hrel
    by_cases hlt : i < n
    · obtain ⟨x, hx⟩ := nth_of HN.out hlt
      obtain ⟨p, q, hpl⟩ := HP.out i x hx
      rw [HE.out] at hpl
      obtain ⟨t1, t2, t3, t4, t5, t6, t7, t8, t9, t10, t11⟩ := hpl
      obtain ⟨g, o, rfl, ⟨x0, x1, x2⟩⟩ := (HV.out.below HB.out).at_ hx
      rw [t1] at x0
      obtain ⟨TX, hTX⟩ : ∃ t, x.tx = t := ⟨_, rfl⟩
      obtain ⟨ln, hln⟩ : ∃ z, x.ln = z := ⟨_, rfl⟩
      rw [hTX] at x2 t2 t6 t8
      rw [hln] at x1 t7 t11
      have hne := nonempty TX (by omega)
      have HNO := Lib.hid t8
      have HLN := Lib.hid t7
      have HON := Lib.hid t9
      have HNX := Lib.hid t10
      have HAH := Lib.hid t11
      have HEX := Lib.hid t6
      have HSZ := Lib.hid t2
      have HBT : Hid (∀ k, (h : k < TX.size) → TX[k].toNat = byteAt TX k) := fun k h => (byteAt_in TX h).2.symm
      have hil : (i : Int) < (n : Int) := by omega
      have hwi : IntKind.i64.wrap ((i : Int) + 1) = (i : Int) + 1 := IntWalk.i64_in _ (by omega)
      clear t1 t2 t6 t7 t8 t9 t10 t11 hTX hln hx
      go_upto_region 10 with fail
      refine gen_world (fun v => Below wr.heap.size wr v ∧ v.heap[wr.heap.size]? = some (.cells #[.int .i64 (p : Int), .int .i64 ln, .string TX] WT (0, 0))) ⟨(by repeat (first | exact Below.refl _ _ | (with_reducible assumption) | refine bw_alloc ?_ _ | refine bw_drew ?_ | refine Below.setCell ?_ (by simp) _ | refine Below.setCell ?_ (by simp; omega) _)), heap_alloc_new wr _⟩ ?_
      intro V ⟨hl1, hb1⟩
      have HL := Lib.hid hl1
      obtain ⟨b, hb⟩ : ∃ b, wr.heap.size = b := ⟨_, rfl⟩
      rw [hb] at hb1
      have HBK := Lib.hid hb1
      have r0 : V.cell? ⟨b, 0, none⟩ = some (.int .i64 (p : Int)) := by rw [blk_cell hb1]; rfl
      have r1 : V.cell? ⟨b, 1, none⟩ = some (.int .i64 ln) := by rw [blk_cell hb1]; rfl
      have r2 : V.cell? ⟨b, 2, none⟩ = some (.string TX) := by rw [blk_cell hb1]; rfl
      clear hl1 hb1 x0 x1 x2
      simp only [hb]
      have k1 : ¬ (p : Int) < (e : Int) := by omega
      have k2 : ¬ (s.size : Int) < (p : Int) + (TX.size : Int) := by have := HSZ.out; omega
      have k3 : IntKind.i64.wrap ((p : Int) + (TX.size : Int)) = (p : Int) + (TX.size : Int) := by have := HSZ.out; exact IntWalk.i64_in _ (by omega)
      have k4 : ((p : Int) + (TX.size : Int)).toNat = p + TX.size := by omega
      have k5 : s.extract p (p + TX.size) = TX := by rw [HSZ.out]; exact HEX.out
      have k6 : (0 : Int) ≤ (p : Int) := by omega
      have k7 : (p : Int) ≤ (p : Int) + (TX.size : Int) := by omega
      have k8 : (p : Int) + (TX.size : Int) ≤ (s.size : Int) := by omega
      go_quiet (fail)
      clear k1 k2 k3 k4 k5 k7 k8 hne
      have HLV : Hid (Below w2.heap.size w2 (V.drewN nq)) := below_same (below_up HB.out HL.out) rfl rfl rfl rfl
      have HBK2 : Hid ((V.drewN nq).heap[b]? = some (.cells #[.int .i64 (p : Int), .int .i64 ln, .string TX] WT (0, 0))) := HBK.out
      have r0 : (V.drewN nq).cell? ⟨b, 0, none⟩ = some (.int .i64 (p : Int)) := r0
      have r1 : (V.drewN nq).cell? ⟨b, 1, none⟩ = some (.int .i64 ln) := r1
      have r2 : (V.drewN nq).cell? ⟨b, 2, none⟩ = some (.string TX) := r2
      generalize V.drewN nq = V1 at *
      go_wp2_with fail
      -- each byte of the word
      go_loop [9] (fun u => ∃ k : Nat, k ≤ TX.size ∧ u = .int .i64 k) (fun u => (TX.size - intOf u).toNat)
      case atStart => exact ⟨0, by omega, rfl⟩
      case round =>
        obtain ⟨k, hk, rfl⟩ := hrel
        by_cases hkl : k < TX.size
        · obtain ⟨g1, g2, g3, g4⟩ := HNO.out k (by rw [← HSZ.out]; exact hkl)
          have hb9 := HBT.out k hkl
          have c1 : ((TX[k].toNat : Int) == 32) = false := by rw [beq_eq_false_iff_ne, hb9]; omega
          have c2 : ((TX[k].toNat : Int) == 9) = false := by rw [beq_eq_false_iff_ne, hb9]; omega
          have c3 : ((TX[k].toNat : Int) == 10) = false := by rw [beq_eq_false_iff_ne, hb9]; omega
          have c4 : ((TX[k].toNat : Int) == 35) = false := by rw [beq_eq_false_iff_ne, hb9]; omega
          have hkI : (k : Int) < (TX.size : Int) := by omega
          have hkw : IntKind.i64.wrap ((k : Int) + 1) = (k : Int) + 1 := by have := HSZ.out; exact IntWalk.i64_in _ (by omega)
          clear g1 g2 g3 g4 hb9
          go_wp2_with fail
          go_roundw
          case rel => exact ⟨k + 1, by omega, by go_num⟩
          case measure => simp [intOf]; omega
        · obtain rfl : k = TX.size := by omega
          go_wp2_with fail
          -- the lines that end before it
          go_loop [6, 10] (fun u v => ∃ (k : Nat) (y : Int), e ≤ k ∧ k ≤ p ∧ 1 ≤ y ∧ y ≤ (k : Int) + 1 ∧ v = .int .i64 k ∧ u = .int .i64 y ∧ Hid (y = 1 + (ends s k : Nat))) (fun _ v => (p - intOf v).toNat)
          case atStart => exact ⟨e, m, by omega, by omega, by omega, by omega, rfl, rfl, HM⟩
          case round =>
            obtain ⟨k, y, hk1, hk2, hy1, hy2, rfl, rfl, HY⟩ := hrel
            by_cases hkl : k < p
            · have hkI : (k : Int) < (p : Int) := by omega
              have hkw : IntKind.i64.wrap ((k : Int) + 1) = (k : Int) + 1 := IntWalk.i64_in _ (by omega)
              have hks : k < s.size := by omega
              have hksI : (k : Int) < (s.size : Int) := by omega
              by_cases h10 : byteAt s k = 10
              · have d1 : ((s[k].toNat : Int) == 10) = true := by rw [beq_iff_eq, HBY.out k hks]; omega
                have hyw : IntKind.i64.wrap (y + 1) = y + 1 := IntWalk.i64_in _ (by omega)
                have HY2 : Hid (y + 1 = 1 + (ends s (k + 1) : Nat)) := by show _ = _; rw [ends, if_pos h10, HY.out]; omega
                clear h10
                go_wp2_with fail
                go_roundw
                case rel => exact ⟨k + 1, y + 1, by omega, by omega, by omega, by omega, by go_num, rfl, HY2⟩
                case measure => simp [intOf]; omega
              · have d1 : ((s[k].toNat : Int) == 10) = false := by rw [beq_eq_false_iff_ne, HBY.out k hks]; omega
                have HY2 : Hid (y = 1 + (ends s (k + 1) : Nat)) := by show _ = _; rw [ends, if_neg h10, HY.out]; omega
                clear h10
                go_wp2_with fail
                go_roundw
                case rel => exact ⟨k + 1, y, by omega, by omega, by omega, by omega, by go_num, rfl, HY2⟩
                case measure => simp [intOf]; omega
            · obtain rfl : p = k := by omega
              obtain rfl : y = ln := by rw [HY.out, HLN.out]
              clear hkl hk1 hk2 hm1 hm2
              have HNX2 : Hid (endOf L (i + 1) = p + TX.size) := by show _ = _; rw [HSZ.out]; exact HNX.out
              have HMX : Hid (y = 1 + (ends s (p + TX.size) : Nat)) := by show _ = _; rw [HSZ.out, HON.out]; exact HY.out
              have hpw : IntKind.i64.wrap ((p : Int) + (TX.size : Int)) = (p : Int) + (TX.size : Int) := by have := HSZ.out; exact IntWalk.i64_in _ (by omega)
              go_upto_region 24 with fail
              rcases Nat.eq_zero_or_pos i with hi0 | hi0
              · have i1 : ¬ 0 < i := by omega
                have i2 : ¬ (0 : Int) < (i : Int) := by omega
                clear hi0
                go_quiet (fail)
                have HLW : Hid (Below w2.heap.size w2 (V1.drewN nq)) := below_same HLV.out rfl rfl rfl rfl
                have r0 : (V1.drewN nq).cell? ⟨b, 0, none⟩ = some (.int .i64 (p : Int)) := r0
                have r2 : (V1.drewN nq).cell? ⟨b, 2, none⟩ = some (.string TX) := r2
                generalize V1.drewN nq = V2 at *
                go_wp2_with fail
                go_roundw
                case rel => exact ⟨i + 1, p + TX.size, y, by omega, by have := HSZ.out; omega, by omega, by have := HSZ.out; omega, by go_num, rfl, by go_num, HNX2, HMX, HLW⟩
                case measure => simp [intOf]; omega
              · obtain ⟨z, hz, hzn⟩ := HAH.out hi0
                obtain ⟨jj, hjj⟩ : ∃ jj, i - 1 = jj := ⟨_, rfl⟩
                rw [hjj] at hz
                have i2 : (0 : Int) < (i : Int) := by omega
                have hwj : IntKind.i64.wrap ((i : Int) - 1) = (jj : Int) := by rw [IntWalk.i64_in _ (by omega)]; omega
                have hjn : (jj : Int) < (n : Int) := by omega
                have hj0 : (0 : Int) ≤ (jj : Int) := by omega
                obtain ⟨g2, o2, e2, ⟨_, z1, _⟩⟩ := (HV.out.below HLV.out).at_ hz
                cases e2
                have HZN := Lib.hid hzn
                clear hzn hz hjj
                by_cases hsl : z.ln = y
                · have d1 : (z.ln == y) = true := beq_iff_eq.2 hsl
                  obtain ⟨hep, hbl⟩ := HZN.out hsl
                  have HBL := Lib.hid hbl
                  clear hsl hbl
                  go_quiet (fail)
                  have HLW : Hid (Below w2.heap.size w2 (V1.drewN nq)) := below_same HLV.out rfl rfl rfl rfl
                  have r0 : (V1.drewN nq).cell? ⟨b, 0, none⟩ = some (.int .i64 (p : Int)) := r0
                  have r2 : (V1.drewN nq).cell? ⟨b, 2, none⟩ = some (.string TX) := r2
                  generalize V1.drewN nq = V2 at *
                  clear z1 d1 hwj hjn hj0
                  go_wp2_with fail
                  -- between two words of one line
                  go_loop [11] (fun u => ∃ k : Nat, e ≤ k ∧ k ≤ p ∧ u = .int .i64 k) (fun u => (p - intOf u).toNat)
                  case atStart => exact ⟨e, by omega, by omega, rfl⟩
                  case round =>
                    obtain ⟨k, hk1, hk2, rfl⟩ := hrel
                    by_cases hkl : k < p
                    · have hkI : (k : Int) < (p : Int) := by omega
                      have hkw : IntKind.i64.wrap ((k : Int) + 1) = (k : Int) + 1 := IntWalk.i64_in _ (by omega)
                      have hks : k < s.size := by omega
                      have hksI : (k : Int) < (s.size : Int) := by omega
                      have hbk := HBY.out k hks
                      rcases HBL.out k hk1 hkl with h32 | h9
                      · have d1 : ((s[k].toNat : Int) != 32) = false := by rw [bne_eq_false_iff_eq, hbk]; omega
                        clear h32 hbk
                        go_wp2_with fail
                        go_roundw
                        case rel => exact ⟨k + 1, by omega, by omega, by go_num⟩
                        case measure => simp [intOf]; omega
                      · have d1 : ((s[k].toNat : Int) != 32) = true := by rw [bne_iff_ne, hbk]; omega
                        have d2 : ((s[k].toNat : Int) != 9) = false := by rw [bne_eq_false_iff_eq, hbk]; omega
                        clear h9 hbk
                        go_wp2_with fail
                        go_roundw
                        case rel => exact ⟨k + 1, by omega, by omega, by go_num⟩
                        case measure => simp [intOf]; omega
                    · obtain rfl : p = k := by omega
                      have d3 : ((p : Int) == (e : Int)) = false := by rw [beq_eq_false_iff_ne]; omega
                      go_wp2_with fail
                      go_roundw
                      case rel => exact ⟨i + 1, p + TX.size, y, by omega, by have := HSZ.out; omega, by omega, by have := HSZ.out; omega, by go_num, rfl, by go_num, HNX2, HMX, HLW⟩
                      case measure => simp [intOf]; omega
                · have d1 : (z.ln == y) = false := beq_eq_false_iff_ne.2 hsl
                  clear hsl
                  go_quiet (fail)
                  have HLW : Hid (Below w2.heap.size w2 (V1.drewN nq)) := below_same HLV.out rfl rfl rfl rfl
                  have r0 : (V1.drewN nq).cell? ⟨b, 0, none⟩ = some (.int .i64 (p : Int)) := r0
                  have r2 : (V1.drewN nq).cell? ⟨b, 2, none⟩ = some (.string TX) := r2
                  generalize V1.drewN nq = V2 at *
                  go_wp2_with fail
                  go_roundw
                  case rel => exact ⟨i + 1, p + TX.size, y, by omega, by have := HSZ.out; omega, by omega, by have := HSZ.out; omega, by go_num, rfl, by go_num, HNX2, HMX, HLW⟩
                  case measure => simp [intOf]; omega
    · obtain rfl : i = n := by omega
      go_wp2_with fail
      go_ret
      exact ⟨rfl, below_up HW.out HB.out⟩
end Go.Proofs.YtbipjilpogbicaaDoor
