/-
  The walk over the document's ends of chunks.
-/
import Derived.Test.YtknjldmpcokgfaaKW28
namespace Go.Proofs.Ytknjldmpcokgfaa
open Go.RowKit Go.Maps

/-- A task in a box, and a row of one's own. -/
structure REndsAt (w : World) (x : TV) (v : Value) (l : List Int) (W : World) : Prop where
  low : Below w.heap.size w W
  box : AtB W w.heap.size x
  own : OwnI W 2 (w.heap.size + 1) v l
theorem REndsAt.below {w W W' : World} {x : TV} {v : Value} {l : List Int} (h : REndsAt w x v l W) (hb : Below W.heap.size W W') : REndsAt w x v l W' := ⟨below_up h.low hb, h.box.below hb, h.own.below hb⟩
theorem rendsAt_new {w : World} {x : TV} {T : TypeId} : REndsAt w x (.slice none 0 0) [] (w.alloc (.cells #[.int .i64 x.id, .int .i64 x.c, .int .i64 x.d, .int .i64 x.t, .int .i64 x.p, .slice x.a1 x.ch.length x.c1, .slice x.a2 x.us.length x.c2] T)) :=
  ⟨(by repeat (first | exact Below.refl _ _ | (with_reducible assumption) | refine bw_alloc ?_ _ | refine bw_drew ?_)), atB_new w x T, OwnI.nil _ _ _⟩
theorem REndsAt.grown {w W W' : World} {x : TV} {v v' : Value} {l l' : List Int} (h : REndsAt w x v l W) (hg : W.grownBy W' v.ownBlock) (ho : OwnI W' 2 (w.heap.size + 1) v' l') : REndsAt w x v' l' W' := by
  have hs := block_of_cell h.box.c0
  have hb : Below (w.heap.size + 1) W W' := (Below.refl _ W).grown hg hs (fun k hk => (h.own.new hk).1)
  exact ⟨h.low.trans (hb.mono (by omega)), h.box.belowB hb (by omega), ho⟩

set_option maxRecDepth 100000 in
set_option maxHeartbeats 4000000 in
theorem rends_any (x : TV) (w : World) (hx : x.ok w) (hf : fillB (chunksOf x) x.c = true) (hc0 : 0 ≤ x.c) (hc : x.c ≤ 1073741824) : Calls Try.prog 29 #[.agg #[.int .i64 x.id, .int .i64 x.c, .int .i64 x.d, .int .i64 x.t, .int .i64 x.p, .slice x.a1 x.ch.length x.c1, .slice x.a2 x.us.length x.c2]] w (RowBack (endsOf x) w) := by
  by_cases he : x.ch = []
  · have hE : endsOf x = [x.c] := by unfold endsOf chunksOf; rw [if_pos he]; simp [sumsFrom]
    rw [hE]
    have h0 : x.ch.length = 0 := by rw [he]; rfl
    clear hE he hx hf hc0 hc
    rw [h0]
    go_enter Try.func29, Try.ntmps29
    go_wp2_with fail
    go_ret
    exact ⟨_, _, rfl, ints_second _ _ _ _, (by repeat (first | exact Below.refl _ _ | (with_reducible assumption) | refine bw_alloc ?_ _ | refine bw_drew ?_)), by simp⟩
  · have hC : chunksOf x = x.ch := by unfold chunksOf; rw [if_neg he]
    have hE : endsOf x = sumsFrom 0 x.ch := by unfold endsOf; rw [hC]
    rw [hE]
    rw [hC] at hf
    have hcl := fill_len _ _ hc0 hf
    have hp : 0 < x.ch.length := List.length_pos_iff.2 he
    have H := Lib.hid hx.one
    have HF := Lib.hid hf
    have d1 : ((x.ch.length : Int) == 0) = false := by rw [beq_eq_false_iff_ne]; omega
    clear hC hE he hx hf
    go_enter Try.func29, Try.ntmps29
    go_upto_region 1 with fail
    refine gen_world (REndsAt w x (.slice none 0 0) []) rendsAt_new ?_
    intro W1 hw1
    have H1 := Lib.hid hw1
    have b5 := hw1.box.c5
    clear hw1
    generalize hn : x.ch.length = n at hcl d1 hp b5 ⊢
    have HN := Lib.hid hn
    clear hn
    go_upto_region 6 with fail
    go_loopw [3, 4, 5] (fun v d u wr => ∃ (k : Nat) (a' : Option Addr) (cp' : Nat) (d' : Int) (R : List Int), k ≤ n ∧ u = .int .i64 k ∧ d = .int .i64 d' ∧ v = .slice a' k cp' ∧ 0 ≤ d' ∧ d' ≤ x.c ∧ Hid (R.length = k) ∧ Hid (R ++ sumsFrom d' (x.ch.drop k) = sumsFrom 0 x.ch) ∧ Hid (fillB (x.ch.drop k) (x.c - d') = true) ∧ Hid (REndsAt w x (.slice a' k cp') R wr)) (fun _ _ u _ => (n - intOf u).toNat)
    case atStart => exact ⟨0, _, _, 0, [], by omega, rfl, rfl, rfl, by omega, by omega, rfl, by show _ = _; rw [List.drop_zero, List.nil_append], by show _ = _; rw [List.drop_zero, Int.sub_zero]; exact HF.out, H1⟩
    case round =>
      obtain ⟨k, a', cp', d', R, hk, rfl, rfl, rfl, hd0, hdc, HRL, HS, HG, HP⟩ := hrel
      clear H1 b5
      have hsz : w.heap.size < wr.heap.size := block_of_cell HP.out.box.c0
      have b5 : wr.cell? ⟨w.heap.size, 5, none⟩ = some (.slice x.a1 n x.c1) := by rw [HP.out.box.c5, HN.out]
      by_cases hlt : k < n
      · obtain ⟨y, hy⟩ := nth_of HN.out hlt
        obtain ⟨g, o, ha, z0⟩ := (H.out.below HP.out.low).at_ hy
        rw [ha] at b5
        have hk1 : (k : Int) < (n : Int) := by omega
        have hk0 : (0 : Int) ≤ (k : Int) := by omega
        have hfy := HG.out
        rw [fill_drop hy] at hfy
        have hyb : 1 ≤ y ∧ y ≤ x.c - d' := by
          by_cases q : 1 ≤ y ∧ y ≤ x.c - d'
          · exact q
          · rw [if_neg q] at hfy; cases hfy
        rw [if_pos hyb] at hfy
        have HG2 : Hid (fillB (x.ch.drop (k + 1)) (x.c - (d' + y)) = true) := by
          show _ = _
          rw [show x.c - (d' + y) = x.c - d' - y by omega]; exact hfy
        have HS2 := Lib.hid (sums_step hy HS.out)
        have HSM : Hid (((R.length : Int) + ((1 : Nat) : Int)) ≤ 17592186044416) := by show _ ≤ _; rw [HRL.out]; omega
        have HNN : Hid (R.length + 1 = k + 1) := by show _ = _; rw [HRL.out]
        have HSZ : Hid (w.heap.size + 1 ≤ (wr.alloc (.cells #[.int .i64 (d' + y)] 2)).heap.size) := by show _ ≤ _; rw [World.size_alloc]; omega
        have HW : Hid (IntKind.i64.wrap (d' + y) = d' + y) := IntWalk.i64_in _ (by omega)
        have hb1 : 0 ≤ d' + y := by omega
        have hb2 : d' + y ≤ x.c := by omega
        have HRL2 : Hid ((R ++ [d' + y]).length = k + 1) := by show _ = _; rw [List.length_append, HRL.out]; rfl
        clear hy hfy hyb HS HG ha
        have hw := HW.out
        go_wp2_with (at_builtin; refine wp_ints (m := 1) (l := [d' + y]) numL rfl _ _ rfl rfl rfl (HP.out.below (by repeat (first | exact Below.refl _ _ | (with_reducible assumption) | refine bw_alloc ?_ _ | refine bw_drew ?_))).own HSZ.out (ints_new _ _ _) rfl HSM.out (fun z => by cases z) (k + 1) HNN.out ?_; intro a3 k3 w3 o3 g3 l3; have HO := Lib.hid ((HP.out.below (by repeat (first | exact Below.refl _ _ | (with_reducible assumption) | refine bw_alloc ?_ _ | refine bw_drew ?_))).grown g3 o3); clear o3 g3 l3)
        go_roundw
        case rel => exact ⟨k + 1, a3, k3, d' + y, R ++ [d' + y], by omega, by go_num, rfl, rfl, hb1, hb2, HRL2, HS2, HG2, HO⟩
        case measure => simp [intOf]; omega
      · obtain rfl : n = k := by omega
        have HE : Hid (R = sumsFrom 0 x.ch) := by
          have := HS.out
          rw [List.drop_of_length_le (by rw [HN.out]; exact Nat.le_refl _), sumsFrom, List.append_nil] at this
          exact this
        go_wp2_with fail
        go_ret
        obtain ⟨a5, cp5, e5, i5, l5, m5⟩ := HP.out.own.slice
        simp only [Value.slice.injEq] at e5
        obtain ⟨rfl, e6, rfl⟩ := e5
        rw [← HE.out]
        exact ⟨a', cp', by rw [HRL.out]; rfl, i5, HP.out.low, by omega⟩
end Go.Proofs.Ytknjldmpcokgfaa
