/-
  The walk over the document's lines of words.
-/
import Derived.Test.YtbipjilpogbicaaDoorLRow
import Derived.Test.YtbipjilpogbicaaDoorLW1
namespace Go.Proofs.YtbipjilpogbicaaDoor
open Go.RowKit Go.Maps

def lnAt (L : List WV) (i : Nat) : Int := (L[i]?.map WV.ln).getD 0
theorem lnAt_of {L : List WV} {i : Nat} {x : WV} (h : L[i]? = some x) : lnAt L i = x.ln := by unfold lnAt; rw [h]; rfl
/-- The lines that the first words make. -/
def lrun (L : List WV) : Nat → List (List WV)
  | 0 => []
  | i + 1 => if i = 0 ∨ lnAt L i ≠ lnAt L (i - 1) then lrun L i ++ [L[i]?.toList] else (lrun L i).dropLast ++ [((lrun L i).getLast?.getD []) ++ L[i]?.toList]
def linesOf (s : ByteArray) : List (List WV) := lrun (wordsOf s) (wordsOf s).length
theorem lrun_len (L : List WV) : ∀ i, (lrun L i).length ≤ i
  | 0 => Nat.le_refl _
  | i + 1 => by
    have := lrun_len L i
    rw [lrun]; split <;> simp <;> omega
theorem lrun_each (L : List WV) : ∀ i, ∀ g ∈ lrun L i, g.length ≤ i
  | 0, g, h => by simp [lrun] at h
  | i + 1, g, h => by
    have ih := lrun_each L i
    have hx : (L[i]?.toList).length ≤ 1 := by cases L[i]? <;> simp
    rw [lrun] at h
    split at h
    · rcases List.mem_append.1 h with q | q
      · have := ih g q; omega
      · simp at q; subst q; omega
    · rcases List.mem_append.1 h with q | q
      · have := ih g (List.dropLast_subset _ q); omega
      · simp only [List.mem_singleton] at q
        subst q
        rw [List.length_append]
        have : ((lrun L i).getLast?.getD []).length ≤ i := by
          cases e : (lrun L i).getLast? with
          | none => simp
          | some z => exact ih z (List.mem_of_getLast? e)
        omega
theorem lrun_some (L : List WV) {i : Nat} (h : 0 < i) : lrun L i ≠ [] := by
  obtain ⟨j, rfl⟩ : ∃ j, i = j + 1 := ⟨i - 1, by omega⟩
  rw [lrun]; split <;> simp
/-- The row of lines and its last one, that the next word goes to. -/
def NextRow (L : List WV) (i : Nat) (x : WV) (N : Bool) (G0 : List (List WV)) (y : List WV) : Prop :=
  lrun L (i + 1) = G0 ++ [y ++ [x]] ∧ if N = true then G0 = lrun L i ∧ y = [] else 0 < i ∧ lnAt L i = lnAt L (i - 1) ∧ lrun L i = G0 ++ [y]
theorem next_row (L : List WV) (i : Nat) (x : WV) (hx : L[i]? = some x) (N : Bool) (hN : decide (i = 0 ∨ lnAt L i ≠ lnAt L (i - 1)) = N) : ∃ G0 y, NextRow L i x N G0 y := by
  unfold NextRow
  rw [lrun, hx]
  by_cases h : i = 0 ∨ lnAt L i ≠ lnAt L (i - 1)
  · rw [decide_eq_true h] at hN
    subst hN
    exact ⟨lrun L i, [], by rw [if_pos h]; rfl, by rw [if_pos rfl]; exact ⟨rfl, rfl⟩⟩
  · rw [decide_eq_false h] at hN
    subst hN
    have h0 : 0 < i := by omega
    have hne := lrun_some L h0
    refine ⟨(lrun L i).dropLast, (lrun L i).getLast hne, ?_, ?_⟩
    · rw [if_neg h, List.getLast?_eq_some_getLast hne]; rfl
    · rw [if_neg (by simp)]
      refine ⟨h0, Decidable.byContradiction fun z => h (.inr z), ?_⟩
      exact (List.dropLast_concat_getLast hne).symm
/-- Where the walk is, the last line laid out. -/
def AtRow (W : World) (n : Nat) (G0 : List (List WV)) (y : List WV) (v : Value) (w : World) : Prop :=
  Below W.heap.size W w ∧ ∃ g c cs u, v = .slice (some ⟨g, 0, none⟩) n c ∧ Rows w W.heap.size v (cs ++ [u]) (G0 ++ [y])
/-- Rows of words that come back. -/
def LinesBack (G : List (List WV)) (w : World) (e : Ending) (w' : World) : Prop :=
  ∃ (a : Option Addr) (c B : Nat) (cs : List Value), e = .returned (.slice a G.length c) ∧ w.heap.size ≤ B ∧ Rows w' B (.slice a G.length c) cs G ∧ Below w.heap.size w w'
theorem rows_split {w : World} {B : Nat} {v : Value} {cs : List Value} {G0 : List (List WV)} {y : List WV} (h : Rows w B v cs (G0 ++ [y])) : ∃ cs0 u, cs = cs0 ++ [u] ∧ cs0.length = G0.length := by
  have hl := h.len
  rcases List.eq_nil_or_concat cs with q | ⟨cs0, u, q⟩
  · subst q; simp at hl
  · refine ⟨cs0, u, by rw [q, List.concat_eq_append], ?_⟩
    subst q; simp at hl; omega
theorem rows_at {w : World} {B : Nat} {v : Value} {cs : List Value} {u : Value} {G : List (List WV)} (h : Rows w B v (cs ++ [u]) G) : ∃ g c, v = .slice (some ⟨g, 0, none⟩) G.length c ∧ w.cell? ⟨g, cs.length, none⟩ = some u ∧ w.frozen? ⟨g, cs.length, none⟩ = false := by
  obtain ⟨a, c, e, _, _, hj⟩ := h.own.slice
  obtain ⟨g, rfl, h1, h2⟩ := hj cs.length u (by simp)
  exact ⟨g, c, by rw [e, h.len], h1, h2⟩

theorem at_more {W w w' : World} {v v' : Value} {cs : List Value} {G : List (List WV)} {p : Nat} (HB : Below W.heap.size W w) (h : Rows w W.heap.size v cs G) (o3 : OwnR w' W.heap.size v' (cs ++ [.slice none 0 0])) (g3 : w.grownBy w' v.ownBlock) (hn : G.length = p) : AtRow W (p + 1) G [] v' w' := by
  have hr := h.more o3 g3
  obtain ⟨g, c, e, _, _⟩ := rows_at hr
  rw [List.length_append, List.length_singleton, hn] at e
  exact ⟨HB.grown g3 HB.size (fun k hk => (h.own.new hk).1), g, c, cs, _, e, hr⟩
theorem at_same {W w : World} {v : Value} {cs : List Value} {G0 : List (List WV)} {y : List WV} {p : Nat} (HB : Below W.heap.size W w) (h : Rows w W.heap.size v cs (G0 ++ [y])) (hn : G0.length = p) : AtRow W (p + 1) G0 y v w := by
  obtain ⟨cs0, u, rfl, _⟩ := rows_split h
  obtain ⟨g, c, e, _, _⟩ := rows_at h
  rw [List.length_append, List.length_singleton, hn] at e
  exact ⟨HB, g, c, cs0, u, e, h⟩
/-- The last line grows, and is stored. -/
theorem row_grow {W w w' : World} {g n c p : Nat} {cs : List Value} {u u' : Value} {G0 : List (List WV)} {y z : List WV} (HB : Below W.heap.size W w) (h : Rows w W.heap.size (.slice (some ⟨g, 0, none⟩) n c) (cs ++ [u]) (G0 ++ [y])) (hn : G0.length = p) (hz : z.length = y.length + 1) (ho : OwnW w' W.heap.size u' z) (hg : w.grownBy w' u.ownBlock) (hk : ∀ k, u'.ownBlock = some k → u.ownBlock = some k ∨ w.heap.size ≤ k) :
    w'.cell? ⟨g, p, none⟩ = some u ∧ w'.frozen? ⟨g, p, none⟩ = false ∧ Rows (w'.setCell ⟨g, p, none⟩ u') W.heap.size (.slice (some ⟨g, 0, none⟩) n c) (cs ++ [u']) (G0 ++ [z]) ∧ Below W.heap.size W (w'.setCell ⟨g, p, none⟩ u') := by
  subst hn
  obtain ⟨a, d, e, _⟩ := ho.slice
  obtain ⟨hr, hB⟩ := h.grow hz ho ⟨a, d, e⟩ hg hk
  have hcl : cs.length = G0.length := by have := h.len; simpa using this
  obtain ⟨au, du, hu1, hu2⟩ := h.each G0.length y (by simp)
  have hu3 := hu1
  rw [← hcl] at hu1
  simp only [List.getElem?_concat_length, Option.some.injEq] at hu1
  have hou : OwnW w W.heap.size u y := by rw [hu1]; exact hu2
  have hro : OwnR w' W.heap.size (.slice (some ⟨g, 0, none⟩) n c) (cs ++ [u]) := h.own.grown hg (fun k hk e => rw_apart hou h.own e hk)
  obtain ⟨a6, c6, e6, _, _, hj⟩ := hro.slice
  obtain ⟨g6, e7, h1, h2⟩ := hj cs.length u (by simp)
  simp only [Value.slice.injEq] at e6
  rw [e7] at e6
  simp only [Option.some.injEq, Addr.mk.injEq] at e6
  obtain ⟨⟨rfl, _⟩, _⟩ := e6
  rw [hcl] at h1 h2
  exact ⟨h1, h2, hr, (HB.grown hg HB.size (fun k hk => (hou.new hk).1)).setCell (p := ⟨g, G0.length, none⟩) hB _⟩

set_option maxRecDepth 100000 in
set_option maxHeartbeats 4000000 in
theorem rlines_any (s : ByteArray) (hs : s.size ≤ 900000) (w : World) : Calls Tryd.prog 12 #[.string s] w (LinesBack (linesOf s) w) := by
  unfold linesOf
  have hm1 : (wordsOf s).length ≤ 900001 := by have := (wrun_inv s (s.size + 1) (Nat.le_refl _)).1; unfold wordsOf; omega
  have CW := Lib.hid (rwords_any s hs w)
  generalize wordsOf s = L at CW hm1 ⊢
  obtain ⟨m, hm⟩ : ∃ m, L.length = m := ⟨_, rfl⟩
  rw [hm] at hm1
  have HM := Lib.hid hm
  clear hm
  go_enter Tryd.func12, Tryd.ntmps12
  go_wp2_with (go_at_call 15; (with_reducible refine CW.out.mono ?_); rintro e w1 ⟨a1, c1, rfl, o1, b1⟩; have O1 := Lib.hid o1.words.view; have B1 := Lib.hid b1; rw [HM.out]; clear o1 b1)
  go_loopw [3, 5, 6] (fun v u _ wr => ∃ (i n : Nat) (cs : List Value), i ≤ m ∧ n ≤ i ∧ u = .int .i64 i ∧ Hid ((lrun L i).length = n) ∧ Hid (Below w1.heap.size w1 wr) ∧ Hid (Rows wr w1.heap.size v cs (lrun L i))) (fun _ u _ _ => (m - intOf u).toNat)
  case atStart => exact ⟨0, 0, [], by omega, by omega, rfl, rfl, Below.refl _ _, Rows.nil _ _⟩
  case round =>
    obtain ⟨i, n, cs, hi, hn, rfl, HN, HB, HP⟩ := hrel
    by_cases hlt : i < m
    · obtain ⟨x, hx⟩ := nth_of HM.out hlt
      obtain ⟨N, hNN⟩ : ∃ N, decide (i = 0 ∨ lnAt L i ≠ lnAt L (i - 1)) = N := ⟨_, rfl⟩
      obtain ⟨G0, y, hNR⟩ := next_row L i x hx N hNN
      have HNX := Lib.hid hNR
      have HV := Lib.hid (O1.out.below HB.out)
      have hk1 : (i : Int) < (m : Int) := by omega
      have hk0 : (0 : Int) ≤ (i : Int) := by omega
      obtain ⟨p, hp⟩ : ∃ p, G0.length = p := ⟨_, rfl⟩
      have HPL := Lib.hid hp
      have hpn : p ≤ i := by
        have h1 := lrun_len L (i + 1)
        rw [hNR.1] at h1
        simp at h1; omega
      obtain ⟨g1, o1, e1, hA⟩ := HV.out.at_ hx
      subst e1
      obtain ⟨x0, x1, x2⟩ := hA
      clear hNR hp
      go_upto_region 6 with fail
      go_cut [30] from 15 to 30 (fun u wx => u = .bool N ∧ Hid (Below w1.heap.size w1 wx) ∧ Hid (Rows wx w1.heap.size u3 cs (lrun L i)))
      case first =>
        by_cases h0 : i = 0
        · have d0 : ((i : Int) == 0) = true := by rw [beq_iff_eq]; omega
          have HT : Hid (N = true) := by show _ = _; rw [← hNN, decide_eq_true (.inl h0)]
          clear hNN h0
          go_quiet (fail)
          go_wp2_with fail
          go_meet
          exact ⟨by rw [HT.out], below_same HB.out rfl rfl rfl rfl, HP.out.below (below_same (Below.refl _ _) rfl rfl rfl rfl)⟩
        · have d0 : ((i : Int) == 0) = false := by rw [beq_eq_false_iff_ne]; omega
          obtain ⟨j, hj⟩ : ∃ j, j = i - 1 := ⟨_, rfl⟩
          obtain ⟨z, hz⟩ := nth_of HM.out (show j < m by omega)
          obtain ⟨g2, o2, e2, hZ⟩ := HV.out.at_ hz
          cases e2
          obtain ⟨z0, z1, z2⟩ := hZ
          have hw1 : IntKind.i64.wrap ((i : Int) - 1) = ((j : Nat) : Int) := by rw [IntWalk.i64_in _ (by omega)]; omega
          have hk3 : (j : Int) < (m : Int) := by omega
          have hk4 : (0 : Int) ≤ (j : Int) := by omega
          obtain ⟨q, hq⟩ : ∃ q, (x.ln != z.ln) = q := ⟨_, rfl⟩
          have HT : Hid (N = q) := by
            show _ = _
            rw [← hNN, ← hj, lnAt_of hx, lnAt_of hz, ← hq]
            by_cases e : x.ln = z.ln <;> simp [e, h0]
          clear hNN h0 hj hz
          go_quiet (fail)
          go_wp2_with fail
          go_meet
          exact ⟨by rw [HT.out], below_same HB.out rfl rfl rfl rfl, HP.out.below (below_same (Below.refl _ _) rfl rfl rfl rfl)⟩
      case rest =>
        clear HB HP hNN
        obtain ⟨rfl, HB, HP⟩ := hcut
        go_upto_if 30 with fail
        go_cut [3] from 31 to 33 (fun u wx => AtRow w1 (p + 1) G0 y u wx)
        case first =>
          cases N with
          | true =>
            have HG := HNX.out.2
            rw [if_pos rfl] at HG
            have HGE := Lib.hid HG.1
            have HY := Lib.hid HG.2
            have HCL : Hid (cs.length + 1 = p + 1) := by show _ = _; rw [HP.out.len, ← HG.1, HPL.out]
            have HSM : Hid (cs.length + 1 ≤ 1000000) := by show _ ≤ _; rw [HCL.out]; omega
            clear HG
            go_wp2_with (at_builtin; refine wp_rappend rfl _ _ rfl rfl rfl (HP.out.own.below (by repeat (first | exact Below.refl _ _ | (with_reducible assumption) | refine bw_alloc ?_ _ | refine bw_drew ?_))) (Nat.le_trans HB.out.size ((by repeat (first | exact Below.refl _ _ | (with_reducible assumption) | refine bw_alloc ?_ _ | refine bw_drew ?_)) : Below wc.heap.size wc _).size) (by rw [World.cell?_alloc_new]; rfl) rfl HSM.out (p + 1) HCL.out ?_; intro a3 k3 w3 o3 g3 l3; have HAT := Lib.hid (at_more (p := p) (below_up HB.out ((by repeat (first | exact Below.refl _ _ | (with_reducible assumption) | refine bw_alloc ?_ _ | refine bw_drew ?_)) : Below wc.heap.size wc _)) (HP.out.below ((by repeat (first | exact Below.refl _ _ | (with_reducible assumption) | refine bw_alloc ?_ _ | refine bw_drew ?_)) : Below wc.heap.size wc _)) o3 g3 (by rw [← HGE.out, HPL.out])); clear o3 g3 l3)
            go_meet
            rw [HY.out, HGE.out]; exact HAT.out
          | false =>
            have HG := HNX.out.2
            rw [if_neg (by simp)] at HG
            have HAT := Lib.hid (at_same HB.out (HG.2.2 ▸ HP.out) HPL.out)
            clear HG
            go_wp2_with fail
            go_meet
            exact HAT.out
        case rest =>
          clear HB HP HV
          unfold AtRow at hcut
          obtain ⟨hb, g, c, cs, u, rfl, hr⟩ := hcut
          have hcl : cs.length = p := by have := hr.len; simp at this; rw [this, HPL.out]
          obtain ⟨au, du, e5, ou⟩ := hr.each p y (by rw [← HPL.out]; simp)
          rw [← hcl] at e5
          simp only [List.getElem?_concat_length, Option.some.injEq] at e5
          subst e5
          obtain ⟨g5, c5, e6, f1, f2⟩ := rows_at hr
          simp only [Value.slice.injEq, Option.some.injEq, Addr.mk.injEq] at e6
          obtain ⟨⟨rfl, -⟩, -⟩ := e6
          rw [hcl] at f1 f2
          obtain ⟨n5, hn5⟩ : ∃ n5, y.length = n5 := ⟨_, rfl⟩
          rw [hn5] at f1 hr ou
          have HB := Lib.hid hb
          have HR := Lib.hid hr
          have HU := Lib.hid ou
          have hgl := block_of_cell f1
          have HY5 := Lib.hid hn5
          have HYL : Hid (n5 + 1 ≤ 1000000) := by
            show _ ≤ _
            have := lrun_each L (i + 1) (y ++ [x]) (by rw [HNX.out.1]; simp)
            rw [List.length_append, HY5.out, List.length_singleton] at this
            omega
          have HV := Lib.hid (O1.out.below hb)
          obtain ⟨g7, o7, e7, hA⟩ := HV.out.at_ hx
          cases e7
          obtain ⟨x0, x1, x2⟩ := hA
          have hgl1 := block_of_cell x0
          have HLN : Hid ((lrun L (i + 1)).length = p + 1) := by show _ = _; rw [HNX.out.1]; simp [HPL.out]
          have hwp : IntKind.i64.wrap ((p : Nat) : Int) = (p : Int) := IntWalk.i64_in _ (by omega)
          have hp1 : (p : Int) < (p : Int) + 1 := by omega
          have hp0 : (0 : Int) ≤ (p : Int) := by omega
          clear hb hr ou hcl hn5 hx
          go_upto_region 9 with fail
          go_region_law (first
            | (refine step_wappend (m := 1) (l := [x]) rfl (.tmp 42) (.tmp 47) rfl (by rfl) (by rfl) (HU.out.below (by repeat (first | exact Below.refl _ _ | (with_reducible assumption) | refine bw_alloc ?_ _ | refine bw_drew ?_))) (Nat.le_trans HB.out.size ((by repeat (first | exact Below.refl _ _ | (with_reducible assumption) | refine bw_alloc ?_ _ | refine bw_drew ?_)) : Below wc.heap.size wc _).size) (by first | exact WView.of_at (wat_new _ x _) | exact (WView.of_at (wat_new _ x _)).below (by repeat (first | exact Below.refl _ _ | (with_reducible assumption) | refine bw_alloc ?_ _ | refine bw_drew ?_))) rfl (by rw [HY5.out]; exact HYL.out) (fun z => by cases z) (n5 + 1) (by rw [HY5.out]) ?_
               intro a3 k3 w3 o3 g3 l3
               obtain ⟨q1, q2, q3, q4⟩ := row_grow (below_up HB.out ((by repeat (first | exact Below.refl _ _ | (with_reducible assumption) | refine bw_alloc ?_ _ | refine bw_drew ?_)) : Below wc.heap.size wc _)) (HR.out.below ((by repeat (first | exact Below.refl _ _ | (with_reducible assumption) | refine bw_alloc ?_ _ | refine bw_drew ?_)) : Below wc.heap.size wc _)) HPL.out (by simp) o3 g3 l3
               have HQ3 := Lib.hid q3
               have HQ4 := Lib.hid q4
               clear q3 q4 o3 g3 l3))
          all_goals
            go_wp2
            go_roundw
            case rel => exact ⟨i + 1, p + 1, _, by omega, by omega, by go_num, HLN, HQ4, Lib.hid (HNX.out.1.symm ▸ HQ3.out)⟩
            case measure => simp [intOf]; omega
    · obtain rfl : m = i := by omega
      obtain ⟨a5, c5, e5, l5, m5, _⟩ := HP.out.own.slice
      have HZ := Lib.hid HP.out.len
      rw [HZ.out] at e5
      subst e5
      go_wp2_with fail
      go_ret
      exact ⟨a5, c5, w1.heap.size, cs, by rw [HM.out]; rfl, B1.out.size, by rw [HM.out]; exact HP.out, below_up B1.out HB.out⟩
end Go.Proofs.YtbipjilpogbicaaDoor
