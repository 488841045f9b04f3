/-
  The walk over the document's tasks that are higher than one.
-/
import Derived.Test.YtknjldmpcokgfaaKW31
namespace Go.Proofs.Ytknjldmpcokgfaa
open Go.RowKit Go.Maps Go.Shelf

/-- A system in a box, the task in another one, a row of one's own. -/
structure RHighAt (w : World) (s r : Int) (a : Option Addr) (n cap : Nat) (g : Nat) (p : Int) (W : World) : Prop where
  low : Below w.heap.size w W
  box : W.heap[w.heap.size]? = some (.cells #[.int .i64 s, .int .i64 r, .slice a n cap] 28 (0, 0))
  gl : w.heap.size < g
  one : W.cell? ⟨g, 4, none⟩ = some (.int .i64 p)
theorem RHighAt.below {w W W' : World} {s r p : Int} {a : Option Addr} {n cap g : Nat} (h : RHighAt w s r a n cap g p W) (hb : Below W.heap.size W W') : RHighAt w s r a n cap g p W' :=
  ⟨below_up h.low hb, kept_obj hb h.box, h.gl, kept_cell hb h.one⟩
theorem filter_take {K : List TV} {q : Int} {i : Nat} {x : TV} (hx : K[i]? = some x) : (K.take (i + 1)).filter (fun x => decide (x.p < q)) = (K.take i).filter (fun x => decide (x.p < q)) ++ if x.p < q then [x] else [] := by
  rw [List.take_add_one, hx, List.filter_append]
  by_cases h : x.p < q
  · simp [h]
  · simp [h]

set_option maxRecDepth 100000 in
set_option maxHeartbeats 4000000 in
theorem rhigher_sys {w : World} {a : Option Addr} {n cap : Nat} {L : List TV} (s r id : Int) (ha : Tasks w a n cap L) (hi : IsAll w L) (hn : 0 < n) (h19 : n ≤ 19) :
    Calls Try.prog 24 #[.agg #[.int .i64 s, .int .i64 r, .slice a n cap], .int .i64 id] w (RowOf (Highs (L.map TV.tk) id) w) := by
  have hz := zeroTask
  have CF : Hid (∀ v, Below w.heap.size w v → _) := fun v hb => rfind_sys s r id (ha.below hb) (hi.below hb)
  have CP : Hid (∀ v, Below w.heap.size w v → _) := fun v hb => rprio_sys s r (ha.below hb) h19
  have HAL := Lib.hid ha.len
  clear ha hi
  go_enter Try.func24, Try.ntmps24
  go_upto_region 1 with fail
  refine gen_world (fun v => Below w.heap.size w v ∧ v.heap[w.heap.size]? = some (.cells #[.int .i64 s, .int .i64 r, .slice a n cap] 28 (0, 0))) ⟨(by repeat (first | exact Below.refl _ _ | (with_reducible assumption) | refine bw_alloc ?_ _ | refine bw_drew ?_)), heap_alloc_new w _⟩ ?_
  intro W1 ⟨hl1, hb1⟩
  have HL1 := Lib.hid hl1
  have HB1 := Lib.hid hb1
  have e0 : W1.cell? ⟨w.heap.size, 0, none⟩ = some (.int .i64 s) := by rw [blk_cell hb1]; rfl
  have e1 : W1.cell? ⟨w.heap.size, 1, none⟩ = some (.int .i64 r) := by rw [blk_cell hb1]; rfl
  have e2 : W1.cell? ⟨w.heap.size, 2, none⟩ = some (.slice a n cap) := by rw [blk_cell hb1]; rfl
  have hlt := lt_of_block hb1
  clear hl1 hb1
  go_upto_region 2 with (go_at_call 22; (with_reducible refine (CF.out _ HL1.out).mono ?_); rintro e w5 ⟨y, b, rfl, hy, hyi, ht, b5⟩; have HL5 := Lib.hid (below_up HL1.out b5); have HB5 := Lib.hid (kept_obj b5 HB1.out); have HT := Lib.hid ht; clear hy hyi ht b5)
  refine gen_world (RHighAt w s r a n cap w5.heap.size y.p) ⟨below_up HL5.out (by repeat (first | exact Below.refl _ _ | (with_reducible assumption) | refine bw_alloc ?_ _ | refine bw_drew ?_)), kept_obj ((by repeat (first | exact Below.refl _ _ | (with_reducible assumption) | refine bw_alloc ?_ _ | refine bw_drew ?_)) : Below w5.heap.size w5 _) HB5.out, lt_of_block HB5.out, by rw [World.cell?_alloc_new]; rfl⟩ ?_
  intro W2 hw2
  have H2 := Lib.hid hw2
  clear e0 e1 e2 hlt HL5 HB5 HL1 HB1
  have e0 : W2.cell? ⟨w.heap.size, 0, none⟩ = some (.int .i64 s) := by rw [blk_cell hw2.box]; rfl
  have e1 : W2.cell? ⟨w.heap.size, 1, none⟩ = some (.int .i64 r) := by rw [blk_cell hw2.box]; rfl
  have e2 : W2.cell? ⟨w.heap.size, 2, none⟩ = some (.slice a n cap) := by rw [blk_cell hw2.box]; rfl
  have hlt := lt_of_block hw2.box
  clear hw2
  generalize w5.heap.size = g at *
  go_upto_region 4 with (go_at_call 20; (with_reducible refine (CP.out _ H2.out.low).mono ?_); rintro e w7 ⟨a7, n7, c7, M, rfl, ht7, hr7, b7⟩; have H7 := Lib.hid (H2.out.below b7); have HT7 := Lib.hid ht7; have HR7 := Lib.hid hr7; clear ht7 hr7 b7)
  clear e0 e1 e2 hlt H2
  have hn7 : n7 = n := by
    have := HR7.out.1.length_eq
    rw [List.length_map, List.length_map, HAL.out, HT7.out.len] at this
    exact this
  subst hn7
  rcases HT.out with ⟨rfl, hf⟩ | ⟨rfl, hf, _⟩
  · have HF := Lib.hid hf
    clear hf HT
    go_wp2_with fail
    go_loopw [7, 9] (fun v u wr => ∃ (i m : Nat) (a' : Option Addr) (cp' : Nat) (R : List TV), i ≤ n7 ∧ m ≤ i ∧ u = .int .i64 i ∧ v = .slice a' m cp' ∧ Hid (R.length = m) ∧ Hid (R = (M.take i).filter (fun x => decide (x.p < y.p))) ∧ Hid (Below w7.heap.size w7 wr) ∧ Hid (OwnT wr w7.heap.size (.slice a' m cp') R)) (fun _ u _ => (n7 - intOf u).toNat)
    case atStart => exact ⟨0, 0, _, _, [], by omega, by omega, rfl, rfl, rfl, by show _ = _; simp, Below.refl _ _, OwnT.nil _ _⟩
    case round =>
      obtain ⟨i, m, a', cp', R, hi, hm, rfl, rfl, HRL, HRF, HB, HP⟩ := hrel
      by_cases hlt : i < n7
      · obtain ⟨x, hx⟩ := nth_of HT7.out.len hlt
        obtain ⟨go, o, rfl, hat⟩ := HT7.out.view.at_ hx
        have HAT := Lib.hid hat
        have b4 := kept_cell HB.out H7.out.one
        have x4 := (hat.below HB.out).c4
        have hk1 : (i : Int) < (n7 : Int) := by omega
        have hk0 : (0 : Int) ≤ (i : Int) := by omega
        by_cases hp : x.p < y.p
        · have d6 : decide (x.p < y.p) = true := decide_eq_true hp
          have HF2 : Hid (R ++ [x] = (M.take (i + 1)).filter (fun x => decide (x.p < y.p))) := by
            show _ = _; rw [filter_take hx, if_pos hp, ← HRF.out]
          have HSM : Hid (R.length + 1 ≤ 1000000) := by show _ ≤ _; rw [HRL.out]; omega
          have HNN : Hid (R.length + 1 = m + 1) := by show _ = _; rw [HRL.out]
          have HL2 : Hid ((R ++ [x]).length = m + 1) := by show _ = _; rw [List.length_append, HRL.out]; rfl
          clear hx hat hp
          go_upto_region 7 with fail
          go_quiet (fail)
          have hbq : Below wr.heap.size wr (wr.drewN nq) := below_same (Below.refl _ _) rfl rfl rfl rfl
          have HBq := Lib.hid (below_up HB.out hbq)
          have HPq := Lib.hid (HP.out.below hbq)
          clear b4 x4 hbq HB HP
          generalize wr.drewN nq = V at *
          obtain ⟨c0, c1, c2, c3, c4, c5, c6⟩ := HAT.out.below HBq.out
          go_wp2_with (at_builtin; refine wp_append (m := 1) (l := [x]) rfl _ _ rfl rfl rfl (HPq.out.below (by repeat (first | exact Below.refl _ _ | (with_reducible assumption) | refine bw_alloc ?_ _ | refine bw_drew ?_))) (Nat.le_trans HBq.out.size ((by repeat (first | exact Below.refl _ _ | (with_reducible assumption) | refine bw_alloc ?_ _ | refine bw_drew ?_)) : Below V.heap.size V _).size) (View.of_at (at_new _ _ _)) rfl HSM.out (fun z => by cases z) (m + 1) HNN.out ?_; intro a3 k3 w3 o3 g3 l3; have HN := Lib.hid o3; have HB3 := Lib.hid (grown_new (below_up HBq.out ((by repeat (first | exact Below.refl _ _ | (with_reducible assumption) | refine bw_alloc ?_ _ | refine bw_drew ?_)) : Below V.heap.size V _)) (HPq.out.below ((by repeat (first | exact Below.refl _ _ | (with_reducible assumption) | refine bw_alloc ?_ _ | refine bw_drew ?_)) : Below V.heap.size V _)) (Nat.le_trans HBq.out.size ((by repeat (first | exact Below.refl _ _ | (with_reducible assumption) | refine bw_alloc ?_ _ | refine bw_drew ?_)) : Below V.heap.size V _).size) g3); clear o3 g3 l3)
          go_roundw
          case rel => exact ⟨i + 1, m + 1, a3, k3, R ++ [x], by omega, by omega, by go_num, rfl, HL2, HF2, HB3, HN⟩
          case measure => simp [intOf]; omega
        · have d6 : decide (x.p < y.p) = false := decide_eq_false hp
          have HF2 : Hid (R = (M.take (i + 1)).filter (fun x => decide (x.p < y.p))) := by
            show _ = _; rw [filter_take hx, if_neg hp, List.append_nil, ← HRF.out]
          clear hx hat hp
          go_upto_region 7 with fail
          go_quiet (fail)
          go_wp2_with fail
          go_roundw
          case rel => exact ⟨i + 1, m, a', cp', R, by omega, by omega, by go_num, rfl, HRL, HF2, HB.out.trans (below_same (Below.refl _ _) rfl rfl rfl rfl), HP.out.below (below_same (Below.refl _ _) rfl rfl rfl rfl)⟩
          case measure => simp [intOf]; omega
      · obtain rfl : i = n7 := by omega
        have HD : Hid (RowOf (Highs (L.map TV.tk) id) w (.returned (.slice a' m cp')) wr) := by
          have hrf := HRF.out
          rw [List.take_of_length_le (by rw [HT7.out.len]; exact Nat.le_refl _)] at hrf
          have hok : AllOk wr R := fun x hx => by
            rw [hrf] at hx
            exact (HT7.out.ok x (List.mem_filter.1 hx).1).below HB.out
          refine ⟨a', m, cp', R, rfl, HP.out.tasks hok, .inr ⟨y.tk, M.map TV.tk, HF.out, HR7.out, ?_⟩, below_up H7.out.low HB.out⟩
          rw [hrf, List.filter_map]; rfl
        go_wp2_with fail
        go_ret
        exact HD.out
  · have HF := Lib.hid hf
    clear hf HT
    have h1 : (0 : Int) < (n7 : Int) := by omega
    have h2 : 0 < n7 := by omega
    go_wp2_with fail
    go_loopw [7, 9] (fun v u wr => v = .slice none 0 0 ∧ u = .int .i64 0 ∧ wr = w7) (fun _ u _ => 0)
    case atStart => exact ⟨rfl, rfl, rfl⟩
    case round =>
      obtain ⟨rfl, rfl, rfl⟩ := hrel
      go_wp2_with fail
      go_ret
      exact ⟨none, 0, 0, [], rfl, ⟨rfl, .inl rfl, (fun x hx => by cases hx), Nat.le_refl _, by omega⟩, .inl ⟨HF.out, rfl⟩, H7.out.low⟩
end Go.Proofs.Ytknjldmpcokgfaa
