/-
  The walk over the document's tasks by priority.
-/
import Derived.Test.YtknjldmpcokgfaaKW30
namespace Go.Proofs.Ytknjldmpcokgfaa
open Go.RowKit Go.Maps Go.Shelf

theorem insert_perm {R L : List TV} {x : TV} {i k : Nat} (h : R.Perm (L.take i)) (hx : L[i]? = some x) : (R.take k ++ [x] ++ R.drop k).Perm (L.take (i + 1)) := by
  rw [List.take_add_one, hx, List.append_assoc]
  refine (List.perm_middle (a := x) (l₁ := R.take k) (l₂ := R.drop k)).trans ?_
  rw [List.take_append_drop]
  exact (h.cons x).trans (List.perm_append_singleton x (L.take i)).symm
theorem insert_sorted {R : List TV} {x : TV} {k : Nat} (hs : R.Pairwise (fun x y => x.p ≤ y.p)) (hlo : ∀ (j : Nat) (y : TV), k ≤ j → R[j]? = some y → x.p < y.p) (hhi : k = 0 ∨ ∃ y, R[k - 1]? = some y ∧ y.p ≤ x.p) : (R.take k ++ [x] ++ R.drop k).Pairwise (fun x y => x.p ≤ y.p) := by
  have hp := List.pairwise_iff_getElem.1 hs
  have h1 : ∀ y ∈ R.take k, y.p ≤ x.p := by
    intro y hy
    obtain ⟨j, hj, rfl⟩ := List.mem_iff_getElem.1 hy
    simp only [List.length_take] at hj
    rcases hhi with h | ⟨z, hz, hzp⟩
    · omega
    · obtain ⟨hk, rfl⟩ := List.getElem?_eq_some_iff.1 hz
      simp only [List.getElem_take]
      rcases Nat.lt_or_ge j (k - 1) with q | q
      · have := hp j (k - 1) (by omega) hk q; omega
      · have e : j = k - 1 := by omega
        subst e; exact hzp
  have h2 : ∀ y ∈ R.drop k, x.p ≤ y.p := by
    intro y hy
    obtain ⟨j, hj⟩ := List.mem_iff_getElem?.1 hy
    rw [List.getElem?_drop] at hj
    have := hlo (k + j) y (by omega) hj
    omega
  rw [List.pairwise_append]
  refine ⟨?_, hs.sublist (List.drop_sublist k R), ?_⟩
  · rw [List.pairwise_append]
    refine ⟨hs.sublist (List.take_sublist k R), by simp, fun a ha b hb => ?_⟩
    simp at hb; subst hb; exact h1 a ha
  · intro a ha b hb
    rcases List.mem_append.1 ha with q | q
    · have := h1 a q; have := h2 b hb; omega
    · simp at q; subst q; exact h2 b hb

/-- A system in a box, and a row of one's own. -/
structure RPrioAt (w : World) (s r : Int) (a : Option Addr) (n cap : Nat) (v : Value) (R : List TV) (W : World) : Prop where
  low : Below w.heap.size w W
  box : W.heap[w.heap.size]? = some (.cells #[.int .i64 s, .int .i64 r, .slice a n cap] 28 (0, 0))
  own : OwnT W (w.heap.size + 1) v R
theorem RPrioAt.below {w W W' : World} {s r : Int} {a : Option Addr} {n cap : Nat} {v : Value} {R : List TV} (h : RPrioAt w s r a n cap v R W) (hb : Below W.heap.size W W') : RPrioAt w s r a n cap v R W' :=
  ⟨below_up h.low hb, kept_obj hb h.box, h.own.below hb⟩
theorem RPrioAt.next {w W W' : World} {s r : Int} {a : Option Addr} {n cap : Nat} {v v' : Value} {R R' : List TV} (h : RPrioAt w s r a n cap v R W) (hb : Below W.heap.size W W') (ho : OwnT W' W.heap.size v' R') : RPrioAt w s r a n cap v' R' W' :=
  ⟨below_up h.low hb, kept_obj hb h.box, ho.low (lt_of_block h.box)⟩
/-- A row of tasks by priority that comes back. -/
def RPrioBack (L : List TV) (w : World) (e : Ending) (w' : World) : Prop :=
  ∃ (a : Option Addr) (n c : Nat) (M : List TV), e = .returned (.slice a n c) ∧ Tasks w' a n c M ∧ Ranks (L.map TV.tk) (M.map TV.tk) ∧ Below w.heap.size w w'
theorem OwnT.addr {w : World} {B n c : Nat} {ga : Addr} {l : List TV} (h : OwnT w B (.slice (some ga) n c) l) : ∃ go, ga = ⟨go, 0, none⟩ := by
  rcases h with ⟨h0, h | ⟨g, cap, cur, e, _⟩⟩
  · cases h.1
  · cases e; exact ⟨g, rfl⟩
theorem OwnT.nowhere {w : World} {B n c : Nat} {l : List TV} (h : OwnT w B (.slice none n c) l) : n = 0 ∧ c = 0 := by
  rcases h with ⟨h0, h | ⟨g, cap, cur, e, _⟩⟩
  · cases h.1; exact ⟨rfl, rfl⟩
  · cases e
theorem grown_new {W w3 w4 : World} {B : Nat} {v : Value} {l : List TV} (hb : Below B W w3) (ho : OwnT w3 B v l) (hB : B ≤ w3.heap.size) (hg : w3.grownBy w4 v.ownBlock) : Below B W w4 :=
  hb.grown hg hB (fun k hk => (ho.new hk).1)

set_option maxRecDepth 100000 in
set_option maxHeartbeats 4000000 in
theorem rprio_sys {w : World} {a : Option Addr} {n cap : Nat} {L : List TV} (s r : Int) (ha : Tasks w a n cap L) (h19 : n ≤ 19) :
    Calls Try.prog 20 #[.agg #[.int .i64 s, .int .i64 r, .slice a n cap]] w (RPrioBack L w) := by
  have HA := Lib.hid ha
  have hz := zeroTask
  clear ha
  go_enter Try.func20, Try.ntmps20
  go_upto_region 1 with fail
  refine gen_world (RPrioAt w s r a n cap (.slice none 0 0) []) ⟨(by repeat (first | exact Below.refl _ _ | (with_reducible assumption) | refine bw_alloc ?_ _ | refine bw_drew ?_)), heap_alloc_new w _, OwnT.nil _ _⟩ ?_
  intro W1 hw1
  have H1 := Lib.hid hw1
  clear hw1
  go_wp2_with fail
  go_loopw [3, 4] (fun v u wr => ∃ (i : Nat) (a' : Option Addr) (cp' : Nat) (R : List TV), i ≤ n ∧ u = .int .i64 i ∧ v = .slice a' i cp' ∧ Hid (R.length = i) ∧ Hid (R.Perm (L.take i)) ∧ Hid (R.Pairwise (fun x y => x.p ≤ y.p)) ∧ Hid (RPrioAt w s r a n cap (.slice a' i cp') R wr)) (fun _ u _ => (n - intOf u).toNat)
  case atStart => exact ⟨0, _, _, [], by omega, rfl, rfl, rfl, List.Perm.refl _, List.Pairwise.nil, H1⟩
  case round =>
    obtain ⟨i, a', cp', R, hi, rfl, rfl, HRL, HRP, HRS, HP⟩ := hrel
    clear H1
    have e2 : wr.cell? ⟨w.heap.size, 2, none⟩ = some (.slice a n cap) := by rw [blk_cell HP.out.box]; rfl
    have hbw : w.heap.size < wr.heap.size := lt_of_block HP.out.box
    by_cases hlt : i < n
    · obtain ⟨x, hx⟩ := nth_of HA.out.len hlt
      have HX := Lib.hid hx
      obtain ⟨g, o, rfl, hat⟩ := HA.out.view.at_ hx
      have HAT := Lib.hid hat
      have hk1 : (i : Int) < (n : Int) := by omega
      have hk0 : (0 : Int) ≤ (i : Int) := by omega
      clear hx hat
      go_upto_region 6 with fail
      clear e2 hbw
      go_loopw [5] (fun u wq => ∃ k : Nat, k ≤ i ∧ u = .int .i64 k ∧ Hid (∀ (j : Nat) (y : TV), k ≤ j → R[j]? = some y → x.p < y.p) ∧ Hid (RPrioAt w s r (some ⟨g, o, none⟩) n cap (.slice a' i cp') R wq)) (fun u _ => (intOf u).toNat)
      case atStart => exact ⟨i, Nat.le_refl _, rfl, (fun j y hj hy => by have := (List.getElem?_eq_some_iff.1 hy).1; have := HRL.out; omega), HP⟩
      case round =>
        obtain ⟨k, hk, rfl, HLO, HQ⟩ := hrel
        clear HP
        have e2 : wr.cell? ⟨w.heap.size, 2, none⟩ = some (.slice (some ⟨g, o, none⟩) n cap) := by rw [blk_cell HQ.out.box]; rfl
        have hbw : w.heap.size < wr.heap.size := lt_of_block HQ.out.box
        have c4 := (HAT.out.below HQ.out.low).c4
        have hk2 : (k : Int) ≤ (i : Int) := by omega
        go_upto_region 6 with fail
        go_cut [32] from 16 to 32 (fun u wx => ∃ b : Bool, u = .bool b ∧ Hid ((b = true ∧ 0 < k ∧ ∃ y, R[k - 1]? = some y ∧ x.p < y.p) ∨ (b = false ∧ (k = 0 ∨ ∃ y, R[k - 1]? = some y ∧ y.p ≤ x.p))) ∧ Hid (RPrioAt w s r (some ⟨g, o, none⟩) n cap (.slice a' i cp') R wx))
        case first =>
          by_cases h0 : k = 0
          · have f1 : ¬ (0 : Int) < (k : Int) := by omega
            have f3 : decide (0 < k) = false := decide_eq_false (by omega)
            have HE2 : Hid (k = 0 ∨ ∃ y, R[k - 1]? = some y ∧ y.p ≤ x.p) := .inl h0
            clear h0
            go_quiet (fail)
            go_wp2_with fail
            go_meet
            exact ⟨false, by simp, .inr ⟨rfl, HE2.out⟩, HQ.out.below (below_same (Below.refl _ _) rfl rfl rfl rfl)⟩
          · obtain ⟨y, hy⟩ := nth_of HRL.out (show k - 1 < i by omega)
            obtain ⟨go, rfl, _⟩ := HQ.out.own.some_at (by rw [HRL.out]; omega)
            obtain ⟨a9, c9, e9, hv, _⟩ := HQ.out.own.slice
            obtain ⟨rfl, rfl⟩ : some ⟨go, 0, none⟩ = a9 ∧ cp' = c9 := by
              simp only [Value.slice.injEq] at e9
              exact ⟨e9.1, e9.2.2⟩
            clear e9
            obtain ⟨g', o', e', hat⟩ := hv.at_ hy
            cases e'
            rw [Nat.zero_add] at hat
            have z4 := hat.c4
            have f2 : (0 : Int) < (k : Int) := by omega
            have f3 : decide (0 < k) = true := decide_eq_true (by omega)
            have hwi : IntKind.i64.wrap ((k : Int) - 1) = ((k - 1 : Nat) : Int) := (IntWalk.i64_in _ (by omega)).trans (by omega)
            have hi1 : ((k - 1 : Nat) : Int) < (i : Int) := by omega
            have hi2 : (0 : Int) ≤ ((k - 1 : Nat) : Int) := by omega
            by_cases hle : x.p < y.p
            · have d6 : decide (x.p < y.p) = true := decide_eq_true hle
              have HE : Hid (0 < k ∧ ∃ y, R[k - 1]? = some y ∧ x.p < y.p) := ⟨by omega, y, hy, hle⟩
              clear hy hat hv h0 hle
              generalize k - 1 = k1 at *
              go_quiet (fail)
              go_wp2_with fail
              go_meet
              exact ⟨true, rfl, .inl ⟨rfl, HE.out⟩, HQ.out.below (below_same (Below.refl _ _) rfl rfl rfl rfl)⟩
            · have d6 : decide (x.p < y.p) = false := decide_eq_false hle
              have HE2 : Hid (k = 0 ∨ ∃ y, R[k - 1]? = some y ∧ y.p ≤ x.p) := .inr ⟨y, hy, by omega⟩
              clear hy hat hv h0 hle
              generalize k - 1 = k1 at *
              go_quiet (fail)
              go_wp2_with fail
              go_meet
              exact ⟨false, rfl, .inr ⟨rfl, HE2.out⟩, HQ.out.below (below_same (Below.refl _ _) rfl rfl rfl rfl)⟩
        case rest =>
          clear e2 hbw c4 HQ
          obtain ⟨b, rfl, HBB, HQ⟩ := hcut
          rcases HBB.out with ⟨rfl, hk3, y, hy, hxy⟩ | ⟨rfl, hhi⟩
          · have hwi : IntKind.i64.wrap ((k : Int) - 1) = ((k - 1 : Nat) : Int) := (IntWalk.i64_in _ (by omega)).trans (by omega)
            have HLO2 : Hid (∀ (j : Nat) (z : TV), k - 1 ≤ j → R[j]? = some z → x.p < z.p) := fun j z hj hz => by
              rcases Nat.lt_or_ge j k with h | h
              · have e : j = k - 1 := by omega
                subst e; rw [hy] at hz; cases hz; exact hxy
              · exact HLO.out j z h hz
            have hm1 : k - 1 < k := by omega
            have hm2 : k - 1 ≤ i := by omega
            clear hy hxy HBB HLO
            generalize k - 1 = k1 at *
            go_wp2_with fail
            go_roundw
            case rel => exact ⟨k1, hm2, rfl, HLO2, HQ⟩
            case measure => simp only [intOf]; omega
          · have HHI := Lib.hid hhi
            clear HBB hhi
            have hca : cp' = k ∨ ¬ cp' = k := by omega
            obtain ⟨a9, c9, e9, hv, hlc, hmc⟩ := HQ.out.own.slice
            obtain ⟨rfl, rfl⟩ : a' = a9 ∧ cp' = c9 := by
              simp only [Value.slice.injEq] at e9
              exact ⟨e9.1, e9.2.2⟩
            clear e9
            rw [HRL.out] at hlc
            have RT := Lib.hid (hv.take k)
            have HTK : Hid ((R.take k).length = k) := by show _ = _; rw [List.length_take, HRL.out]; omega
            have HSM1 : Hid (([] : List TV).length + k ≤ 1000000) := by show _ ≤ _; simp; omega
            have HSM2 : Hid (([] ++ R.take k).length + 1 ≤ 1000000) := by show _ ≤ _; rw [List.nil_append, HTK.out]; omega
            have HNN2 : Hid (([] ++ R.take k).length + 1 = k + 1) := by show _ = _; rw [List.nil_append, HTK.out]
            have HDK : Hid ((R.drop k).length = i - k) := by show _ = _; rw [List.length_drop, HRL.out]
            have HL3 : Hid (([] ++ R.take k ++ [x]).length = k + 1) := by show _ = _; rw [List.nil_append, List.length_append, HTK.out]; rfl
            have HSM3 : Hid (([] ++ R.take k ++ [x]).length + (i - k) ≤ 1000000) := by show _ ≤ _; rw [HL3.out]; omega
            have HNN3 : Hid (([] ++ R.take k ++ [x]).length + (i - k) = i + 1) := by show _ = _; rw [HL3.out]; omega
            have HFP : Hid (([] ++ R.take k ++ [x] ++ R.drop k).Perm (L.take (i + 1))) := by show List.Perm _ _; rw [List.nil_append]; exact insert_perm HRP.out HX.out
            have HFS : Hid (([] ++ R.take k ++ [x] ++ R.drop k).Pairwise (fun x y : TV => x.p ≤ y.p)) := by show List.Pairwise _ _; rw [List.nil_append]; exact insert_sorted HRS.out HLO.out HHI.out
            have HFL : Hid (([] ++ R.take k ++ [x] ++ R.drop k).length = i + 1) := by show _ = _; rw [List.length_append, HL3.out, HDK.out]; omega
            have hk9 : (k : Int) ≤ (cp' : Int) := by omega
            have hk8 : (0 : Int) ≤ (k : Int) := by omega
            have hk7 : k ≤ cp' := by omega
            cases a' with
            | none =>
              have hno := HQ.out.own.nowhere
              have HN1 : Hid ((none : Option Addr) = none → k = 0) := fun _ => by omega
              have HN3 : Hid ((none : Option Addr) = none → i - k = 0) := fun _ => by omega
              have RD : Hid (View wc none (R.drop k)) := by
                have : R = [] := List.length_eq_zero_iff.1 (by rw [HRL.out]; exact hno.1)
                show View _ _ _; rw [this]; left; simp
              have HKA : Hid (k = 0 ∧ cp' = 0) := ⟨by omega, hno.2⟩
              clear hno hca hv
              go_upto_region 4 with (first
                | (at_builtin; refine wp_append (m := k) (l := R.take k) (q := []) rfl _ _ rfl rfl rfl (OwnT.made wc) (by simp) (RT.out.below (by repeat (first | exact Below.refl _ _ | (with_reducible assumption) | refine bw_alloc ?_ _ | refine bw_drew ?_))) HTK.out HSM1.out HN1.out k (by simp) ?_; intro a5 k5 w5 o5 g5 l5; have HO5 := Lib.hid o5; have HB5 := Lib.hid (grown_new (B := wc.heap.size) ((by repeat (first | exact Below.refl _ _ | (with_reducible assumption) | refine bw_alloc ?_ _ | refine bw_drew ?_)) : Below wc.heap.size wc _) (OwnT.made wc) (by simp) g5); obtain ⟨c0, c1, c2, c3, c4, c5, c6⟩ := HAT.out.below (below_up HQ.out.low HB5.out); have e2 : w5.cell? ⟨w.heap.size, 2, none⟩ = some (.slice (some ⟨g, o, none⟩) n cap) := (by rw [blk_cell (kept_obj HB5.out HQ.out.box)]; rfl); clear o5 g5 l5)
                | (at_builtin; refine wp_append (m := 1) (l := [x]) (q := [] ++ R.take k) rfl _ _ rfl rfl rfl (HO5.out.below (by repeat (first | exact Below.refl _ _ | (with_reducible assumption) | refine bw_alloc ?_ _ | refine bw_drew ?_))) (Nat.le_trans HB5.out.size ((by repeat (first | exact Below.refl _ _ | (with_reducible assumption) | refine bw_alloc ?_ _ | refine bw_drew ?_)) : Below w5.heap.size w5 _).size) (View.of_at (at_new _ _ _)) rfl HSM2.out (fun z => by cases z) (k + 1) HNN2.out ?_; intro a6 k6 w6 o6 g6 l6; have HO6 := Lib.hid o6; have HB6 := Lib.hid (grown_new (below_up HB5.out ((by repeat (first | exact Below.refl _ _ | (with_reducible assumption) | refine bw_alloc ?_ _ | refine bw_drew ?_)) : Below w5.heap.size w5 _)) (HO5.out.below ((by repeat (first | exact Below.refl _ _ | (with_reducible assumption) | refine bw_alloc ?_ _ | refine bw_drew ?_)) : Below w5.heap.size w5 _)) (Nat.le_trans HB5.out.size ((by repeat (first | exact Below.refl _ _ | (with_reducible assumption) | refine bw_alloc ?_ _ | refine bw_drew ?_)) : Below w5.heap.size w5 _).size) g6); clear o6 g6 l6)
                | (at_builtin; refine wp_append (m := i - k) (l := R.drop k) (q := [] ++ R.take k ++ [x]) rfl _ _ rfl rfl rfl HO6.out HB6.out.size (RD.out.below HB6.out) HDK.out HSM3.out HN3.out (i + 1) HNN3.out ?_; intro a7 k7 w7 o7 g7 l7; have HO7 := Lib.hid o7; have HB7 := Lib.hid (grown_new HB6.out HO6.out HB6.out.size g7); clear o7 g7 l7))
              have HNX := Lib.hid (HQ.out.next HB7.out HO7.out)
              go_wp2_with fail
              go_roundw
              case rel => exact ⟨i + 1, a7, k7, _, by omega, by go_num, rfl, HFL, HFP, HFS, HNX⟩
              case measure => simp [intOf]; omega
            | some ga =>
              obtain ⟨go, rfl⟩ := HQ.out.own.addr
              have HN1 : Hid (some (⟨go, 0, none⟩ : Addr) = none → k = 0) := fun z => by cases z
              have HN3 : Hid (∀ ad : Addr, some ad = none → i - k = 0) := fun _ z => by cases z
              rcases hca with hca | hca
              · have RD : Hid (View wc (some ⟨go, 0, none⟩) (R.drop k)) := by
                  show View _ _ _; left; exact List.drop_of_length_le (by rw [HRL.out]; omega)
                clear hv
                go_upto_region 4 with (first
                  | (at_builtin; refine wp_append (m := k) (l := R.take k) (q := []) rfl _ _ rfl rfl rfl (OwnT.made wc) (by simp) (RT.out.below (by repeat (first | exact Below.refl _ _ | (with_reducible assumption) | refine bw_alloc ?_ _ | refine bw_drew ?_))) HTK.out HSM1.out HN1.out k (by simp) ?_; intro a5 k5 w5 o5 g5 l5; have HO5 := Lib.hid o5; have HB5 := Lib.hid (grown_new (B := wc.heap.size) ((by repeat (first | exact Below.refl _ _ | (with_reducible assumption) | refine bw_alloc ?_ _ | refine bw_drew ?_)) : Below wc.heap.size wc _) (OwnT.made wc) (by simp) g5); obtain ⟨c0, c1, c2, c3, c4, c5, c6⟩ := HAT.out.below (below_up HQ.out.low HB5.out); have e2 : w5.cell? ⟨w.heap.size, 2, none⟩ = some (.slice (some ⟨g, o, none⟩) n cap) := (by rw [blk_cell (kept_obj HB5.out HQ.out.box)]; rfl); clear o5 g5 l5)
                  | (at_builtin; refine wp_append (m := 1) (l := [x]) (q := [] ++ R.take k) rfl _ _ rfl rfl rfl (HO5.out.below (by repeat (first | exact Below.refl _ _ | (with_reducible assumption) | refine bw_alloc ?_ _ | refine bw_drew ?_))) (Nat.le_trans HB5.out.size ((by repeat (first | exact Below.refl _ _ | (with_reducible assumption) | refine bw_alloc ?_ _ | refine bw_drew ?_)) : Below w5.heap.size w5 _).size) (View.of_at (at_new _ _ _)) rfl HSM2.out (fun z => by cases z) (k + 1) HNN2.out ?_; intro a6 k6 w6 o6 g6 l6; have HO6 := Lib.hid o6; have HB6 := Lib.hid (grown_new (below_up HB5.out ((by repeat (first | exact Below.refl _ _ | (with_reducible assumption) | refine bw_alloc ?_ _ | refine bw_drew ?_)) : Below w5.heap.size w5 _)) (HO5.out.below ((by repeat (first | exact Below.refl _ _ | (with_reducible assumption) | refine bw_alloc ?_ _ | refine bw_drew ?_)) : Below w5.heap.size w5 _)) (Nat.le_trans HB5.out.size ((by repeat (first | exact Below.refl _ _ | (with_reducible assumption) | refine bw_alloc ?_ _ | refine bw_drew ?_)) : Below w5.heap.size w5 _).size) g6); clear o6 g6 l6)
                  | (at_builtin; refine wp_append (m := i - k) (l := R.drop k) (q := [] ++ R.take k ++ [x]) rfl _ _ rfl rfl rfl HO6.out HB6.out.size (RD.out.below HB6.out) HDK.out HSM3.out (HN3.out _) (i + 1) HNN3.out ?_; intro a7 k7 w7 o7 g7 l7; have HO7 := Lib.hid o7; have HB7 := Lib.hid (grown_new HB6.out HO6.out HB6.out.size g7); clear o7 g7 l7))
                have HNX := Lib.hid (HQ.out.next HB7.out HO7.out)
                go_wp2_with fail
                go_roundw
                case rel => exact ⟨i + 1, a7, k7, _, by omega, by go_num, rfl, HFL, HFP, HFS, HNX⟩
                case measure => simp [intOf]; omega
              · have RD : Hid (View wc (some ⟨go, k * 7, none⟩) (R.drop k)) := by
                  have := hv.drop k
                  rwa [Nat.zero_add] at this
                clear hv
                go_upto_region 4 with (first
                  | (at_builtin; refine wp_append (m := k) (l := R.take k) (q := []) rfl _ _ rfl rfl rfl (OwnT.made wc) (by simp) (RT.out.below (by repeat (first | exact Below.refl _ _ | (with_reducible assumption) | refine bw_alloc ?_ _ | refine bw_drew ?_))) HTK.out HSM1.out HN1.out k (by simp) ?_; intro a5 k5 w5 o5 g5 l5; have HO5 := Lib.hid o5; have HB5 := Lib.hid (grown_new (B := wc.heap.size) ((by repeat (first | exact Below.refl _ _ | (with_reducible assumption) | refine bw_alloc ?_ _ | refine bw_drew ?_)) : Below wc.heap.size wc _) (OwnT.made wc) (by simp) g5); obtain ⟨c0, c1, c2, c3, c4, c5, c6⟩ := HAT.out.below (below_up HQ.out.low HB5.out); have e2 : w5.cell? ⟨w.heap.size, 2, none⟩ = some (.slice (some ⟨g, o, none⟩) n cap) := (by rw [blk_cell (kept_obj HB5.out HQ.out.box)]; rfl); clear o5 g5 l5)
                  | (at_builtin; refine wp_append (m := 1) (l := [x]) (q := [] ++ R.take k) rfl _ _ rfl rfl rfl (HO5.out.below (by repeat (first | exact Below.refl _ _ | (with_reducible assumption) | refine bw_alloc ?_ _ | refine bw_drew ?_))) (Nat.le_trans HB5.out.size ((by repeat (first | exact Below.refl _ _ | (with_reducible assumption) | refine bw_alloc ?_ _ | refine bw_drew ?_)) : Below w5.heap.size w5 _).size) (View.of_at (at_new _ _ _)) rfl HSM2.out (fun z => by cases z) (k + 1) HNN2.out ?_; intro a6 k6 w6 o6 g6 l6; have HO6 := Lib.hid o6; have HB6 := Lib.hid (grown_new (below_up HB5.out ((by repeat (first | exact Below.refl _ _ | (with_reducible assumption) | refine bw_alloc ?_ _ | refine bw_drew ?_)) : Below w5.heap.size w5 _)) (HO5.out.below ((by repeat (first | exact Below.refl _ _ | (with_reducible assumption) | refine bw_alloc ?_ _ | refine bw_drew ?_)) : Below w5.heap.size w5 _)) (Nat.le_trans HB5.out.size ((by repeat (first | exact Below.refl _ _ | (with_reducible assumption) | refine bw_alloc ?_ _ | refine bw_drew ?_)) : Below w5.heap.size w5 _).size) g6); clear o6 g6 l6)
                  | (at_builtin; refine wp_append (m := i - k) (l := R.drop k) (q := [] ++ R.take k ++ [x]) rfl _ _ rfl rfl rfl HO6.out HB6.out.size (RD.out.below HB6.out) HDK.out HSM3.out (HN3.out _) (i + 1) HNN3.out ?_; intro a7 k7 w7 o7 g7 l7; have HO7 := Lib.hid o7; have HB7 := Lib.hid (grown_new HB6.out HO6.out HB6.out.size g7); clear o7 g7 l7))
                have HNX := Lib.hid (HQ.out.next HB7.out HO7.out)
                go_wp2_with fail
                go_roundw
                case rel => exact ⟨i + 1, a7, k7, _, by omega, by go_num, rfl, HFL, HFP, HFS, HNX⟩
                case measure => simp [intOf]; omega
    · obtain rfl : i = n := by omega
      have HD : Hid (RPrioBack L w (.returned (.slice a' i cp')) wr) := by
        have hpl := HRP.out
        rw [List.take_of_length_le (by rw [HA.out.len]; exact Nat.le_refl _)] at hpl
        have hok : AllOk wr R := fun x hx => (HA.out.ok x (hpl.mem_iff.1 hx)).below HP.out.low
        refine ⟨a', i, cp', R, rfl, HP.out.own.tasks hok, ⟨hpl.map _, ?_⟩, HP.out.low⟩
        rw [List.pairwise_map]; exact HRS.out
      go_wp2_with fail
      go_ret
      exact HD.out
end Go.Proofs.Ytknjldmpcokgfaa
