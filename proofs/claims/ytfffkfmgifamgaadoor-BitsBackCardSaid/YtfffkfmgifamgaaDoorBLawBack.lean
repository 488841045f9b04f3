/-
  The walk over the statement that a set's list makes the set, and is rising, and as long as the set.
-/
import Derived.Test.YtfffkfmgifamgaaDoorBLawParts
import Derived.StillTailTactics
namespace Go.Proofs.YtfffkfmgifamgaaDoor
open Go.RowKit
attribute [local go_sem] set_eq

theorem ofN_any (l : List Int) (x : Nat) : ∀ n, n ≤ l.length → ofN l n x = (l.take n).any fun v => decide ((x : Int) = v)
  | 0, _ => by simp [ofN, noneP]
  | n + 1, h => by
    have ih := ofN_any l x n (by omega)
    have e : l.take (n + 1) = l.take n ++ [l.getD n 0] := by
      rw [List.take_succ_eq_append_getElem (by omega), List.getD_eq_getElem?_getD, List.getElem?_eq_getElem (by omega)]; rfl
    show orP (ofN l n) (oneP (l.getD n 0)) x = _
    rw [e, List.any_append, ← ih]
    simp [orP, oneP]
theorem ofN_all (l : List Int) (x : Nat) : ofN l l.length x = l.any fun v => decide ((x : Int) = v) := by rw [ofN_any l x l.length (Nat.le_refl _), List.take_length]

theorem mem_els {p : Nat → Bool} {v : Int} : v ∈ els p ↔ ∃ x : Nat, x < 256 ∧ p x = true ∧ v = (x : Int) := by
  unfold els
  rw [List.mem_map]
  constructor
  · rintro ⟨x, hx, rfl⟩
    obtain ⟨h1, h2⟩ := mem_below.1 hx
    exact ⟨x, h1, h2, rfl⟩
  · rintro ⟨x, h1, h2, rfl⟩
    exact ⟨x, mem_below.2 ⟨h1, h2⟩, rfl⟩
theorem of_els (p : Nat → Bool) (x : Nat) (hx : x < 256) : ofN (els p) (els p).length x = p x := by
  rw [ofN_all]
  cases hp : p x with
  | true => exact List.any_eq_true.2 ⟨(x : Int), mem_els.2 ⟨x, hx, hp, rfl⟩, by simp⟩
  | false =>
    rw [List.any_eq_false]
    intro v hv
    obtain ⟨y, _, h2, rfl⟩ := mem_els.1 hv
    have : x ≠ y := fun e => by rw [e, h2] at hp; cases hp
    simp; omega

/-- What is at a place of the list. -/
theorem els_at (p : Nat → Bool) {k : Nat} (hk : k < (els p).length) : 0 ≤ (els p).getD k 0 ∧ (els p).getD k 0 ≤ 255 ∧ hasP p ((els p).getD k 0) = true := by
  have hm : (els p).getD k 0 ∈ els p := by rw [List.getD_eq_getElem?_getD, List.getElem?_eq_getElem hk]; exact List.getElem_mem _
  obtain ⟨x, h1, h2, h3⟩ := mem_els.1 hm
  rw [h3]
  exact ⟨by omega, by omega, by rw [hasP_nat h1]; exact h2⟩
theorem els_rise (p : Nat → Bool) {k : Nat} (hk : k + 1 < (els p).length) : (els p).getD k 0 < (els p).getD (k + 1) 0 := by
  have hl : (els p).length = (below p 256).length := by unfold els; simp
  have hpw := below_pairwise p 256
  rw [List.pairwise_iff_getElem] at hpw
  have := hpw k (k + 1) (by omega) (by omega) (by omega)
  have e : ∀ j, j < (els p).length → (els p).getD j 0 = (((below p 256).getD j 0 : Nat) : Int) := fun j hj => by
    unfold els
    rw [List.getD_eq_getElem?_getD, List.getElem?_map, List.getD_eq_getElem?_getD, List.getElem?_eq_getElem (by omega)]; rfl
  rw [e k (by omega), e (k + 1) hk]
  rw [List.getD_eq_getElem?_getD, List.getElem?_eq_getElem (by omega), List.getD_eq_getElem?_getD, List.getElem?_eq_getElem (by omega)]
  simp only [Option.getD_some]
  omega

set_option maxRecDepth 100000 in
set_option maxHeartbeats 8000000 in
theorem law_back (p : Nat → Bool) (W : World) (hT : Tab W) :
    Calls Tryd.prog 4 #[.agg #[.int .u64 (wd p 0), .int .u64 (wd p 1), .int .u64 (wd p 2), .int .u64 (wd p 3)]] W fun e w' => e = .returned (.bool true) ∧ Below W.heap.size W w' := by
  have hg : 0 < W.heap.size := block_of_cell (hT 0 (by decide))
  have A := Lib.hid (awake_under hT)
  have CL := Lib.hid (fun w (h : Below W.heap.size W w) => list_in p w (hT.below h hg))
  have AT := Lib.hid (fun k (h : k < (els p).length) => els_at p h)
  have RI := Lib.hid (fun k (h : k + 1 < (els p).length) => els_rise p h)
  have CH := Lib.hid (fun x (hx : x ≤ 255) w => has_any p x (by omega) w)
  have OF := Lib.hid (fun cap ao w h => set_same (of_els p) (of_any (els p) (by have := els_length p; have := cntN_le p 256; omega) (fun x hx => by obtain ⟨y, hy, _, rfl⟩ := mem_els.1 hx; omega) cap ao w h))
  have LN := Lib.hid (fun w => len_any p w)
  have hl256 : (els p).length ≤ 256 := by rw [els_length]; exact cntN_le p 256
  rw [← els_length] at LN
  clear hT hg
  generalize hE : els p = E at *
  have HE := Lib.hid hE
  clear hE
  generalize hasP p = hs at *
  generalize wd p = a at *
  go_enter Tryd.func4, Tryd.ntmps4
  go_upto_region 3 with (first
    | (go_at_call 9; (refine (A.out _ ((Below.refl _ _).alloc (Nat.le_refl _) _)).mono ?_); rintro e w1 ⟨rfl, hw1⟩; have F1 := Lib.hid (Four.next hw1 (Four.new W (a 0) (a 1) (a 2) (a 3) _)); have B1 := Lib.hid (below_next hw1 ((Below.refl W.heap.size W).alloc (Nat.le_refl _) _) (Nat.le_refl _)); obtain ⟨a0, a1, a2, a3, _, _, _, _⟩ := F1.out; clear hw1)
    | (go_at_call 18; (refine (CL.out _ B1.out).mono ?_); rintro e w2 ⟨v, rfl, hown, hw2⟩; rw [HE.out] at hown; obtain ⟨ao, cap, rfl, hr, hcap, hlc⟩ := owns_reads hown; have HR := Lib.hid hr; have F2 := Lib.hid (Four.next hw2 F1.out); have B2 := Lib.hid (below_next hw2 B1.out (Nat.le_refl _)); clear hw2 hown hr))
  have hne : (E.length : Int) ≤ 256 := by omega
  clear a0 a1 a2 a3 A CL F1 B1
  have KO : Hid (∀ w, Below w2.heap.size w2 w → Calls Tryd.prog 20 #[.slice ao E.length cap] w fun e w' => e = .returned (.agg #[.int .u64 (a 0), .int .u64 (a 1), .int .u64 (a 2), .int .u64 (a 3)]) ∧ Below w2.heap.size w2 w') := fun w h => Calls.under h (Nat.le_refl _) (OF.out cap ao w (HR.out.later (Nat.le_refl _) h))
  have KL : Hid (∀ w, Below w2.heap.size w2 w → Calls Tryd.prog 28 #[.agg #[.int .u64 (a 0), .int .u64 (a 1), .int .u64 (a 2), .int .u64 (a 3)]] w fun e w' => e = .returned (.int .i64 (E.length : Nat)) ∧ Below w2.heap.size w2 w') := under w2 LN.out
  have MK : Hid (∀ w', Below w2.heap.size w2 w' → Below w2.heap.size w2 w' ∧ w'.cell? ⟨W.heap.size, 0, none⟩ = some (.int .u64 (a 0)) ∧ w'.cell? ⟨W.heap.size, 1, none⟩ = some (.int .u64 (a 1)) ∧ w'.cell? ⟨W.heap.size, 2, none⟩ = some (.int .u64 (a 2)) ∧ w'.cell? ⟨W.heap.size, 3, none⟩ = some (.int .u64 (a 3))) := fun w' h => ⟨h, (F2.out.kept h).c0, (F2.out.kept h).c1, (F2.out.kept h).c2, (F2.out.kept h).c3⟩
  clear OF LN hcap hlc
  go_wp2
  go_loopw [5] (fun i wr => ∃ k : Nat, k ≤ E.length ∧ i = .int .i64 k ∧ Hid (Below w2.heap.size w2 wr)) (fun i _ => (E.length - intOf i).toNat)
  case atStart => exact ⟨0, by omega, rfl, Below.refl _ _⟩
  case round =>
    obtain ⟨k, hk, rfl, HW⟩ := hrel
    have c := MK.out wr HW.out
    obtain ⟨_, q0, q1, q2, q3⟩ := c
    by_cases hlt : k < E.length
    · obtain ⟨b, off, rfl, hbb, hc⟩ : ∃ b off, ao = some ⟨b, off, none⟩ ∧ b < w2.heap.size ∧ ∀ k, k < E.length → wr.cell? ⟨b, off + k, none⟩ = some (.int .i64 (E.getD k 0)) := by
        rcases HR.out.below HW.out with h | h
        · rw [h] at hlt; exact absurd hlt (Nat.not_lt_zero _)
        · exact h
      obtain ⟨x1, x2, x3⟩ := AT.out k hlt
      have C := Lib.hid (CH.out (E.getD k 0) x2)
      rw [x3] at C
      have ck := hc k hlt
      have d1 : decide (E.getD k 0 < 0) = false := decide_eq_false (by omega)
      have d2 : decide (255 < E.getD k 0) = false := decide_eq_false (by omega)
      have hw0 := HW.out
      have sx0 := hw0.size
      have c0 : w2.cell? ⟨b, off + k, none⟩ = some (.int .i64 (E.getD k 0)) := by rw [← HW.out.cell (p := ⟨b, off + k, none⟩) hbb]; exact ck
      clear KO KL x3 AT CH
      cases k with
      | zero =>
        clear hc RI
        rw [Nat.add_zero] at ck c0
        generalize E.getD 0 0 = x at x1 x2 C ck c0 d1 d2
        have MZ : Hid (∀ w', Below w2.heap.size w2 w' → Below w2.heap.size w2 w' ∧ w'.cell? ⟨W.heap.size, 0, none⟩ = some (.int .u64 (a 0)) ∧ w'.cell? ⟨W.heap.size, 1, none⟩ = some (.int .u64 (a 1)) ∧ w'.cell? ⟨W.heap.size, 2, none⟩ = some (.int .u64 (a 2)) ∧ w'.cell? ⟨W.heap.size, 3, none⟩ = some (.int .u64 (a 3)) ∧ w'.cell? ⟨b, off, none⟩ = some (.int .i64 x)) := fun w' h => by
          obtain ⟨q0, q1, q2, q3, q4⟩ := MK.out w' h
          exact ⟨q0, q1, q2, q3, q4, kept_cell h c0⟩
        have KH : Hid (∀ w, Below w2.heap.size w2 w → Calls Tryd.prog 11 #[.agg #[.int .u64 (a 0), .int .u64 (a 1), .int .u64 (a 2), .int .u64 (a 3)], .int .i64 x] w fun e w' => e = .returned (.bool true) ∧ Below w2.heap.size w2 w') := under w2 C.out
        clear C c0
        go_wp2
        refine wp_region_still_tail 34 (by kernel_rfl) (by kernel_rfl) ?_
        simp only [List.take_succ_cons, List.take_zero, List.drop_succ_cons, List.drop_zero]
        iterate 15 still_step
        iterate 19 ((with_reducible refine wpStill_step (fun K hK => ?_)); go_simp; (with_reducible refine hK _ ?_); clear hK K)
        with_reducible refine wpStill_nil ?_
        go_wp2_with (first | (go_at_call 11; (with_reducible refine (KH.out _ (by repeat (first | (with_reducible assumption) | refine Below.drew ?_ | refine Below.alloc ?_ (by first | omega | (simp; omega)) _))).mono ?_); rintro e wx ⟨rfl, bx⟩; have sx := bx.size))
        all_goals
          go_wp2
          go_roundw
          case rel => exact ⟨0 + 1, by omega, by go_num, (by with_reducible assumption : Below _ _ _)⟩
          case measure => simp [intOf]; omega
      | succ j =>
        have cj : w2.cell? ⟨b, off + j, none⟩ = some (.int .i64 (E.getD j 0)) := by rw [← HW.out.cell (p := ⟨b, off + j, none⟩) hbb]; exact hc j (by omega)
        have hr := RI.out j hlt
        clear hc RI
        generalize E.getD (j + 1) 0 = x at x1 x2 C ck c0 d1 d2 hr
        generalize E.getD j 0 = y at cj hr
        have d3 : decide (x ≤ y) = false := decide_eq_false (by omega)
        have nj : ((j : Int) + 1).toNat = j + 1 := by omega
        have hj2 : (j : Int) + 1 < (E.length : Int) := by omega
        have hj3 : (j : Int) < (E.length : Int) := by omega
        have hj4 : (0 : Int) ≤ (j : Int) := by omega
        have hj5 : (0 : Int) ≤ (j : Int) + 1 := by omega
        have hj6 : IntKind.i64.wrap ((j : Int) + 1) = (j : Int) + 1 := IntWalk.i64_in _ (by omega)
        have hj7 : IntKind.i64.wrap ((j : Int) + 1 - 1) = (j : Int) := by rw [IntWalk.i64_in _ (by omega)]; omega
        have hj8 : IntKind.i64.wrap (j : Int) = (j : Int) := IntWalk.i64_in _ (by omega)
        have MZ : Hid (∀ w', Below w2.heap.size w2 w' → Below w2.heap.size w2 w' ∧ w'.cell? ⟨W.heap.size, 0, none⟩ = some (.int .u64 (a 0)) ∧ w'.cell? ⟨W.heap.size, 1, none⟩ = some (.int .u64 (a 1)) ∧ w'.cell? ⟨W.heap.size, 2, none⟩ = some (.int .u64 (a 2)) ∧ w'.cell? ⟨W.heap.size, 3, none⟩ = some (.int .u64 (a 3)) ∧ w'.cell? ⟨b, off + (j + 1), none⟩ = some (.int .i64 x) ∧ w'.cell? ⟨b, off + j, none⟩ = some (.int .i64 y)) := fun w' h => by
          obtain ⟨q0, q1, q2, q3, q4⟩ := MK.out w' h
          exact ⟨q0, q1, q2, q3, q4, kept_cell h c0, kept_cell h cj⟩
        have KH : Hid (∀ w, Below w2.heap.size w2 w → Calls Tryd.prog 11 #[.agg #[.int .u64 (a 0), .int .u64 (a 1), .int .u64 (a 2), .int .u64 (a 3)], .int .i64 x] w fun e w' => e = .returned (.bool true) ∧ Below w2.heap.size w2 w') := under w2 C.out
        clear C c0 cj
        go_wp2
        (first | go_region_held3 (fun w' => Below w2.heap.size w2 w' ∧ w'.cell? ⟨W.heap.size, 0, none⟩ = some (.int .u64 (a 0)) ∧ w'.cell? ⟨W.heap.size, 1, none⟩ = some (.int .u64 (a 1)) ∧ w'.cell? ⟨W.heap.size, 2, none⟩ = some (.int .u64 (a 2)) ∧ w'.cell? ⟨W.heap.size, 3, none⟩ = some (.int .u64 (a 3)) ∧ w'.cell? ⟨b, off + (j + 1), none⟩ = some (.int .i64 x) ∧ w'.cell? ⟨b, off + j, none⟩ = some (.int .i64 y)) (exact MZ.out _ (by repeat (first | (with_reducible assumption) | refine Below.drew ?_ | refine Below.alloc ?_ (by first | omega | (simp; omega)) _))) (first | (go_at_call 11; (with_reducible refine (KH.out _ (by repeat (first | (with_reducible assumption) | refine Below.drew ?_ | refine Below.alloc ?_ (by first | omega | (simp; omega)) _))).mono ?_); rintro e wx ⟨rfl, bx⟩; have sx := bx.size)) | fail)
        all_goals
          go_wp2
          go_roundw
          case rel => exact ⟨j + 1 + 1, by omega, by go_num, (by with_reducible assumption : Below _ _ _)⟩
          case measure => simp [intOf]; omega
    · obtain rfl : k = E.length := by omega
      have hw0 := HW.out
      have sx0 := hw0.size
      have e1 := eq4_self (a 0) (a 1) (a 2) (a 3)
      clear AT RI CH
      go_upto_region 8 with (fail)
      (first | go_region_held3 (fun w' => Below w2.heap.size w2 w' ∧ w'.cell? ⟨W.heap.size, 0, none⟩ = some (.int .u64 (a 0)) ∧ w'.cell? ⟨W.heap.size, 1, none⟩ = some (.int .u64 (a 1)) ∧ w'.cell? ⟨W.heap.size, 2, none⟩ = some (.int .u64 (a 2)) ∧ w'.cell? ⟨W.heap.size, 3, none⟩ = some (.int .u64 (a 3))) (exact MK.out _ (by repeat (first | (with_reducible assumption) | refine Below.drew ?_ | refine Below.alloc ?_ (by first | omega | (simp; omega)) _))) (first | (go_at_call 20; (with_reducible refine (KO.out _ (by repeat (first | (with_reducible assumption) | refine Below.drew ?_ | refine Below.alloc ?_ (by first | omega | (simp; omega)) _))).mono ?_); rintro e wx ⟨rfl, bx⟩; have sx := bx.size) | (go_at_call 28; (with_reducible refine (KL.out _ (by repeat (first | (with_reducible assumption) | refine Below.drew ?_ | refine Below.alloc ?_ (by first | omega | (simp; omega)) _))).mono ?_); rintro e wx ⟨rfl, bx⟩; have sx := bx.size)) | fail)
      all_goals
        go_wp2
        go_ret
        exact ⟨rfl, B2.out.trans (Below.mono (by with_reducible assumption) B2.out.size)⟩

theorem row_back (W : World) (hT : Tab W) (z : List Int) (hz : z.length = 4) (hwz : ∀ x ∈ z, (Lit.int .u64 x).wf = true) :
    Calls Tryd.prog 4 #[.agg (z.map (Value.int .u64)).toArray] W fun e w' => e = .returned (.bool true) ∧ Below W.heap.size W w' := by
  obtain ⟨p, hp⟩ := set_in z hz hwz
  rw [hp]
  exact law_back p W hT

end Go.Proofs.YtfffkfmgifamgaaDoor
