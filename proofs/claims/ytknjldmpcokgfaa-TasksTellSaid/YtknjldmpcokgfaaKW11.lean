/-
  The walks over how much work is done at the end of each chunk; what is asked of all tasks at the beginning.
-/
import Derived.Test.YtknjldmpcokgfaaKW6
import Derived.Test.YtknjldmpcokgfaaKW1
import Derived.Test.YtknjldmpcokgfaaKW3
namespace Go.Proofs.Ytknjldmpcokgfaa
open Go.RowKit Go.Maps

theorem infoLong : (Try.prog.info? 2).map (fun i => (i.zero, i.size, i.bytes)) = some (some (.int .i64 0), 1, 8) := by kernel_rfl
theorem make_long (c : Nat) (hc : c ≤ 2000000000) (w : World) : (Instr.makeSlice 22 (.int .i64 0) (.int .i64 (c : Int))).run Try.prog w = .ok (.slice (some ⟨w.heap.size, 0, none⟩) 0 c) (w.alloc (.cells (madeCells #[.int .i64 0] c) 2)) := by
  obtain ⟨i0, hi, hz0, hz1, hz2⟩ := info_parts infoLong
  have h := run_make w 22 2 i0 (.int .i64 0) Try.underlying22 hi hz0 .i64 .i64 0 c (by omega) (by omega) (by rw [hz2]; omega) (by omega)
  rw [hz1] at h
  simpa [Value.cells] using h

/-- The sums of a row, from d on. -/
def sumsFrom : Int → List Int → List Int
  | _, [] => []
  | d, x :: l => (d + x) :: sumsFrom (d + x) l
def endsOf (x : TV) : List Int := sumsFrom 0 (chunksOf x)
theorem sums_len : ∀ (l : List Int) (d : Int), (sumsFrom d l).length = l.length
  | [], _ => rfl
  | x :: l, d => by simp [sumsFrom, sums_len l]
theorem fill_len : ∀ (l : List Int) (c : Int), 0 ≤ c → fillB l c = true → (l.length : Int) ≤ c
  | [], c, h, _ => by simpa using h
  | x :: l, c, h, hf => by
    rw [fillB] at hf
    by_cases g : 1 ≤ x ∧ x ≤ c
    · rw [if_pos g] at hf
      have := fill_len l (c - x) (by omega) hf
      simp only [List.length_cons]; omega
    · rw [if_neg g] at hf; cases hf
theorem fill_drop {l : List Int} {k : Nat} {x c : Int} (hx : l[k]? = some x) : fillB (l.drop k) c = if 1 ≤ x ∧ x ≤ c then fillB (l.drop (k + 1)) (c - x) else false := by
  obtain ⟨h2, h3⟩ := List.getElem?_eq_some_iff.1 hx
  rw [List.drop_eq_getElem_cons h2, h3, fillB]
theorem sums_step {l R : List Int} {k : Nat} {x d : Int} (hx : l[k]? = some x) (h : R ++ sumsFrom d (l.drop k) = sumsFrom 0 l) : (R ++ [d + x]) ++ sumsFrom (d + x) (l.drop (k + 1)) = sumsFrom 0 l := by
  obtain ⟨h2, h3⟩ := List.getElem?_eq_some_iff.1 hx
  rw [List.drop_eq_getElem_cons h2, h3, sumsFrom] at h
  rw [← h]; simp

/-- A row of one's own that was made with room. -/
theorem own_made (w : World) (o : Obj) (cap : Nat) (hc : cap ≤ 2000000000) (T : TypeId) : OwnI ((w.alloc o).alloc (.cells (madeCells #[.int .i64 0] cap) T)) T (w.heap.size + 1) (.slice (some ⟨w.heap.size + 1, 0, none⟩) 0 cap) [] := by
  have := World.ownsRow_made (e := T) (size := 1) (base := w.heap.size + 1) (w := w.alloc o) (madeCells #[.int .i64 0] cap) cap (by simp) (by unfold maxLen; omega) (by rw [size_madeCells]; omega)
  rwa [World.size_alloc] at this
/-- A task in a box, and a row of one's own. -/
structure EndsAt (w : World) (x : TV) (v : Value) (l : List Int) (W : World) : Prop where
  low : Below w.heap.size w W
  box : AtB W w.heap.size x
  own : OwnI W 2 (w.heap.size + 1) v l
theorem EndsAt.below {w W W' : World} {x : TV} {v : Value} {l : List Int} (h : EndsAt w x v l W) (hb : Below W.heap.size W W') : EndsAt w x v l W' := ⟨below_up h.low hb, h.box.below hb, h.own.below hb⟩
theorem endsAt_new {w : World} {x : TV} {T : TypeId} {cap : Nat} (hc : cap ≤ 2000000000) : EndsAt w x (.slice (some ⟨w.heap.size + 1, 0, none⟩) 0 cap) [] ((w.alloc (.cells #[.int .i64 x.id, .int .i64 x.c, .int .i64 x.d, .int .i64 x.t, .int .i64 x.p, .slice x.a1 x.ch.length x.c1, .slice x.a2 x.us.length x.c2] T)).alloc (.cells (madeCells #[.int .i64 0] cap) 2)) :=
  ⟨(by repeat (first | exact Below.refl _ _ | (with_reducible assumption) | refine bw_alloc ?_ _ | refine bw_drew ?_)), (atB_new w x T).below ((Below.refl _ _).alloc (Nat.le_refl _) _), own_made w _ cap hc _⟩
theorem kept_objB {B : Nat} {w w' : World} (hb : Below B w w') {b : Nat} {o : Obj} (hl : b < B) (h : w.heap[b]? = some o) : w'.heap[b]? = some o := (hb.block b hl).trans h
theorem kept_cellB {B : Nat} {w w' : World} (hb : Below B w w') {b o : Nat} {v : Value} (hl : b < B) (h : w.cell? ⟨b, o, none⟩ = some v) : w'.cell? ⟨b, o, none⟩ = some v := by
  rw [hb.cell (p := ⟨b, o, none⟩) hl]; exact h
theorem AtB.belowB {B : Nat} {w w' : World} {g : Nat} {x : TV} (h : AtB w g x) (hb : Below B w w') (hg : g < B) : AtB w' g x :=
  ⟨kept_cellB hb hg h.c0, kept_cellB hb hg h.c1, kept_cellB hb hg h.c2, kept_cellB hb hg h.c3, kept_cellB hb hg h.c4, kept_cellB hb hg h.c5, kept_cellB hb hg h.c6⟩
theorem EndsAt.grown {w W W' : World} {x : TV} {v v' : Value} {l l' : List Int} (h : EndsAt w x v l W) (hg : W.grownBy W' v.ownBlock) (ho : OwnI W' 2 (w.heap.size + 1) v' l') : EndsAt w x v' l' W' := by
  have hs := block_of_cell h.box.c0
  have hb : Below (w.heap.size + 1) W W' := (Below.refl _ W).grown hg hs (fun k hk => (h.own.new hk).1)
  exact ⟨h.low.trans (hb.mono (by omega)), h.box.belowB hb (by omega), ho⟩
theorem chunks_pos (x : TV) : 0 < (chunksOf x).length := by
  unfold chunksOf
  split
  · simp
  · rename_i e; exact List.length_pos_iff.2 e

set_option maxRecDepth 100000 in
set_option maxHeartbeats 4000000 in
theorem ends_any (x : TV) (w : World) (hx : x.ok w) (hf : fillB (chunksOf x) x.c = true) (hc0 : 0 ≤ x.c) (hc : x.c ≤ 1073741824) : Calls Try.prog 28 #[x.val] w (RowBack (endsOf x) w) := by
  have HX := Lib.hid hx
  have hcl := fill_len _ _ hc0 hf
  have hch : x.ch.length ≤ (chunksOf x).length := by
    unfold chunksOf
    split
    · rename_i e; rw [e]; simp
    · exact Nat.le_refl _
  obtain ⟨n, hn⟩ : ∃ n, (chunksOf x).length = n := ⟨_, rfl⟩
  have HN := Lib.hid hn
  have HF := Lib.hid hf
  rw [hn] at hcl hch
  have hmk := make_long x.ch.length (by omega)
  have hmk1 : ∀ w, (Instr.makeSlice 22 (.int .i64 0) (.int .i64 1)).run Try.prog w = .ok (.slice (some ⟨w.heap.size, 0, none⟩) 0 1) (w.alloc (.cells (madeCells #[.int .i64 0] 1) 2)) := make_long 1 (by omega)
  unfold TV.val
  clear hn hf hx
  go_enter Try.func28, Try.ntmps28
  go_upto_region 3 with fail
  all_goals
    refine gen_world (EndsAt w x _ []) (endsAt_new ?_) ?_
    · omega
    intro W1 hw1
    have H1 := Lib.hid hw1
    obtain ⟨_, ⟨c0, c1, c2, c3, c4, c5, c6⟩, _⟩ := hw1
    have K := Lib.hid (chunks_any x W1 (HX.out.below H1.out.low))
    unfold TV.val at K
    clear hmk hmk1
    go_wp2_with (go_at_call 34; (with_reducible refine (K.out).mono ?_); rintro e wx ⟨a, cp, rfl, hI, bx, hl, hz⟩; have H2 := Lib.hid (H1.out.below bx); have HI := Lib.hid hI; have HZ := Lib.hid hz; clear hI bx hl hz)
    rw [HN.out]
    clear H1 K c0 c1 c2 c3 c4 c5 c6
    have hn9 : (n : Int) ≤ 1073741824 := by omega
    go_loopw [3, 4, 15] (fun v d u wr => ∃ (k : Nat) (a' : Option Addr) (cp' : Nat) (d' : Int) (R : List Int), k ≤ n ∧ u = .int .i64 k ∧ d = .int .i64 d' ∧ v = .slice a' k cp' ∧ 0 ≤ d' ∧ d' ≤ x.c ∧ Hid (R.length = k) ∧ Hid (R ++ sumsFrom d' ((chunksOf x).drop k) = sumsFrom 0 (chunksOf x)) ∧ Hid (fillB ((chunksOf x).drop k) (x.c - d') = true) ∧ Hid (k < n → Ints wr a (chunksOf x)) ∧ Hid (EndsAt w x (.slice a' k cp') R wr)) (fun _ _ u _ => (n - intOf u).toNat)
    case atStart => exact ⟨0, _, _, 0, [], by omega, rfl, rfl, rfl, by omega, by omega, rfl, by show _ = _; rw [List.drop_zero, List.nil_append], by show _ = _; rw [List.drop_zero, Int.sub_zero]; exact HF.out, fun _ => HI.out, H2.out⟩
    case round =>
      obtain ⟨k, a', cp', d', R, hk, rfl, rfl, rfl, hd0, hdc, HRL, HS, HG, HI2, HP⟩ := hrel
      clear HI H2
      have hlow := HP.out.low
      have hsz : w.heap.size < wr.heap.size := block_of_cell HP.out.box.c0
      by_cases hlt : k < n
      · obtain ⟨y, hy⟩ := nth_of HN.out hlt
        obtain ⟨g, o, rfl, z0⟩ := (HI2.out hlt).at_ hy
        have hk1 : (k : Int) < (n : Int) := by omega
        have hk0 : (0 : Int) ≤ (k : Int) := by omega
        have hfy := HG.out
        rw [fill_drop hy] at hfy
        have hyb : 1 ≤ y ∧ y ≤ x.c - d' := by
          by_cases q : 1 ≤ y ∧ y ≤ x.c - d'
          · exact q
          · rw [if_neg q] at hfy; cases hfy
        rw [if_pos hyb] at hfy
        have HG2 : Hid (fillB ((chunksOf x).drop (k + 1)) (x.c - (d' + y)) = true) := by
          show _ = _
          rw [show x.c - (d' + y) = x.c - d' - y by omega]; exact hfy
        have HS2 := Lib.hid (sums_step hy HS.out)
        have HSM : Hid (((R.length : Int) + ((1 : Nat) : Int)) ≤ 17592186044416) := by show _ ≤ _; rw [HRL.out]; omega
        have HNN : Hid (R.length + 1 = k + 1) := by show _ = _; rw [HRL.out]
        have HSZ : Hid (w.heap.size + 1 ≤ (wr.alloc (.cells #[.int .i64 (d' + y)] 2)).heap.size) := by show _ ≤ _; rw [World.size_alloc]; omega
        have HW : Hid (IntKind.i64.wrap (d' + y) = d' + y) := IntWalk.i64_in _ (by omega)
        have hb1 : 0 ≤ d' + y := by omega
        have hb2 : d' + y ≤ x.c := by omega
        have HRL2 : Hid ((R ++ [d' + y]).length = k + 1) := by show _ = _; rw [List.length_append, HRL.out]; rfl
        have HII : Hid (∀ v, Below w.heap.size w v → k + 1 < n → Ints v (some ⟨g, o, none⟩) (chunksOf x)) := fun v hb hlt => by
          rcases HZ.out with z | ⟨z1, z2⟩
          · have := HN.out; omega
          · have := HX.out.one.below hb
            rw [← z1, ← z2] at this
            exact this
        clear hy hfy hyb HS HG
        have hw := HW.out
        go_wp2_with (at_builtin; refine wp_ints (m := 1) (l := [d' + y]) numL rfl _ _ rfl rfl rfl (HP.out.below (by repeat (first | exact Below.refl _ _ | (with_reducible assumption) | refine bw_alloc ?_ _ | refine bw_drew ?_))).own HSZ.out (ints_new _ _ _) rfl HSM.out (fun z => by cases z) (k + 1) HNN.out ?_; intro a3 k3 w3 o3 g3 l3; have HO := Lib.hid ((HP.out.below (by repeat (first | exact Below.refl _ _ | (with_reducible assumption) | refine bw_alloc ?_ _ | refine bw_drew ?_))).grown g3 o3); clear o3 g3 l3)
        go_roundw
        case rel => exact ⟨k + 1, a3, k3, d' + y, R ++ [d' + y], by omega, by go_num, rfl, rfl, hb1, hb2, HRL2, HS2, HG2, HII.out _ HO.out.low, HO⟩
        case measure => simp [intOf]; omega
      · obtain rfl : n = k := by omega
        have HE : Hid (R = endsOf x) := by
          have := HS.out
          rw [List.drop_of_length_le (by rw [HN.out]; exact Nat.le_refl _), sumsFrom, List.append_nil] at this
          exact this
        go_wp2_with fail
        go_ret
        obtain ⟨a5, cp5, e5, i5, l5, m5⟩ := HP.out.own.slice
        cases e5
        rw [← HE.out]
        exact ⟨_, _, rfl, i5, HP.out.low, by omega⟩
end Go.Proofs.Ytknjldmpcokgfaa
