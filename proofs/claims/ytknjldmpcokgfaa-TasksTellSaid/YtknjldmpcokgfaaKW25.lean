/-
  The walk over the higher ones of a row of tasks.
-/
import Derived.Test.YtknjldmpcokgfaaKW24
import Derived.Laws.CopyRow
namespace Go.Proofs.Ytknjldmpcokgfaa
open Go.RowKit Go.Maps Go.Shelf

set_option maxHeartbeats 1000000 in
theorem high1_any (x : TV) (q : Int) (b : Nat) (W : World) (h : W.cell? ⟨b, 4, none⟩ = some (.int .i64 q)) : Calls Try.prog 50 #[.agg #[.int .i64 x.id, .int .i64 x.c, .int .i64 x.d, .int .i64 x.t, .int .i64 x.p, .slice x.a1 x.ch.length x.c1, .slice x.a2 x.us.length x.c2], .pointer (some ⟨b, 0, none⟩)] W fun e w' => e = .returned (.bool (decide (q ≤ x.p))) ∧ Below W.heap.size W w' := by
  have hl := block_of_cell h
  have hlt : b < W.heap.size := hl
  clear hl
  by_cases hq : q ≤ x.p
  · rw [decide_eq_true hq]
    go_enter Try.func50, Try.ntmps50
    go_wp2
    go_ret
    exact ⟨rfl, (by repeat (first | exact Below.refl _ _ | (with_reducible assumption) | refine bw_alloc ?_ _ | refine bw_drew ?_))⟩
  · rw [decide_eq_false hq]
    go_enter Try.func50, Try.ntmps50
    go_wp2
    go_ret
    exact ⟨rfl, (by repeat (first | exact Below.refl _ _ | (with_reducible assumption) | refine bw_alloc ?_ _ | refine bw_drew ?_))⟩
theorem high1_enters : ∀ args w, (callFunc 50 args).run Try.prog w = .ok (.enter 50 args) w := enters_of Try.func50 (by kernel_rfl) rfl
theorem high1_pred (q : Int) (b : Nat) (w : World) (h : w.cell? ⟨b, 4, none⟩ = some (.int .i64 q)) : PredBelow Try.prog 50 #[.pointer (some ⟨b, 0, none⟩)] (fun x => .agg (TV.cells x).toArray) (fun x => decide (q ≤ x.p)) w :=
  fun W x hb => (high1_any x q b W (kept_cell hb h)).mono fun _ _ ⟨h1, h2⟩ => ⟨h1, below_up hb h2⟩

/-- The rest of a row cleared. -/
theorem clear_row {w : World} {B go n c : Nat} {M : List TV} (h : OwnT w B (.slice (some ⟨go, 0, none⟩) n c) M) {k : Nat} (hk : k < n) :
    ∃ w', (∀ ty, (Builtin.clear_ #[26] ty #[.slice (some ⟨go, k * 7, none⟩) (n - k) (c - k)]).run Try.prog w = .ok (.tuple #[]) w') ∧ OwnT w' B (.slice (some ⟨go, 0, none⟩) k c) (M.take k) ∧ KeepI w w' ∧ Below B w w' := by
  rcases h with ⟨h0, q | ⟨g, cap, cur, e, hb, h3, h1, h2, h4, h5⟩⟩
  · cases q.1
  · obtain ⟨rfl, hM, rfl⟩ : go = g ∧ M.length = n ∧ c = cap := by
      simp only [Value.slice.injEq, Option.some.injEq, Addr.mk.injEq] at e
      exact ⟨e.1.1, e.2.1.symm, e.2.2⟩
    have hz : ∀ m : Nat, ((Builtin.zeroCells (Value.agg #[.int .i64 0, .int .i64 0, .int .i64 0, .int .i64 0, .int .i64 0, .slice none 0 0, .slice none 0 0]).cells m).toList).length = m * 7 := by
      intro m; simp [Builtin.zeroCells, Value.cells]
    have h1c : ∀ m : Nat, ∀ v ∈ (Builtin.zeroCells (Value.agg #[.int .i64 0, .int .i64 0, .int .i64 0, .int .i64 0, .int .i64 0, .slice none 0 0, .slice none 0 0]).cells m).toList, v.oneCell' = true := by
      intro m v hv
      simp only [Builtin.zeroCells, Value.cells, Array.toList_map, List.mem_map] at hv
      obtain ⟨i, _, rfl⟩ := hv
      have hi : i % 7 < 7 := Nat.mod_lt _ (by omega)
      show ((#[Value.int .i64 0, .int .i64 0, .int .i64 0, .int .i64 0, .int .i64 0, .slice none 0 0, .slice none 0 0] : Array Value)[i % 7]!).oneCell' = true
      match i % 7, hi with
      | 0, _ => rfl
      | 1, _ => rfl
      | 2, _ => rfl
      | 3, _ => rfl
      | 4, _ => rfl
      | 5, _ => rfl
      | 6, _ => rfl
    obtain ⟨Z, hZ, hzl, hz1⟩ : ∃ Z : List Value, (Builtin.zeroCells (Value.agg #[.int .i64 0, .int .i64 0, .int .i64 0, .int .i64 0, .int .i64 0, .slice none 0 0, .slice none 0 0]).cells (n - k)).toList = Z ∧ Z.length = (n - k) * 7 ∧ ∀ v ∈ Z, v.oneCell' = true := ⟨_, rfl, hz _, h1c _⟩
    have hfit : k * 7 + 0 + Z.length ≤ cur.size := by rw [h4, hzl]; have := Nat.mul_le_mul_right 7 h1; rw [hM] at this; omega
    have hst := run_storeCells_at Try.prog go (k * 7) TT Z 0 cur w h3 hfit hz1
    refine ⟨w.setRow go (cur.toList.take (k * 7 + 0) ++ Z ++ cur.toList.drop (k * 7 + 0 + Z.length)).toArray, fun ty => ?_, ?_, ?_, ?_⟩
    · obtain ⟨m, hm⟩ : ∃ m, n - k = m + 1 := ⟨n - k - 1, by omega⟩
      rw [hm] at hZ ⊢
      simp [Builtin.clear_, run_underlying Try.underlying26, zeroTask, hZ, hst]
    · have hlk : (M.take k).length = k := by rw [List.length_take, hM]; omega
      refine ⟨by rw [flat_len], .inr ⟨go, c, _, by rw [hlk], hb, setRow_heap w go cur _ TT (0, 0) h3, by rw [hlk]; omega, h2, ?_, ?_⟩⟩
      · simp only [List.size_toArray, List.length_append, List.length_take, List.length_drop, Array.length_toList]
        rw [hzl] at hfit ⊢
        omega
      · rw [hlk, flat_take, ← h5, hM, List.take_take]
        simp only [Nat.add_zero]
        rw [List.append_assoc, List.take_append_of_le_length (by rw [List.length_take, Array.length_toList]; omega), List.take_take]
        congr 1; omega
    · intro b cs T fr hc hT
      refine setRow_other w go b _ ?_
      rintro rfl
      rw [h3] at hc
      simp at hc
      rcases hT with q | q <;> rw [q] at hc <;> exact absurd hc.2.1 (by decide)
    · exact ⟨rfl, rfl, rfl, by simp [World.setRow], fun b hbB => setRow_other w go b _ (by omega)⟩

theorem filter_none {M : List TV} {q : Int} (h : ∀ x ∈ M, decide (q ≤ x.p) = false) : M.filter (fun x => decide (x.p < q)) = M := by
  rw [List.filter_eq_self]
  intro x hx
  have := h x hx
  simp only [decide_eq_false_iff_not, decide_eq_true_eq] at this ⊢
  omega
theorem filter_some {M : List TV} {q : Int} {k : Nat} {x : TV} (hs : M.Pairwise (fun x y => x.p ≤ y.p)) (hx : M[k]? = some x) (hp : decide (q ≤ x.p) = true) (ha : ∀ (j : Nat) (y : TV), j < k → M[j]? = some y → decide (q ≤ y.p) = false) :
    M.filter (fun x => decide (x.p < q)) = M.take k ∧ ∀ (j : Nat) (y : TV), k ≤ j → M[j]? = some y → decide (q ≤ y.p) = true := by
  obtain ⟨hkl, hke⟩ := List.getElem?_eq_some_iff.1 hx
  simp only [decide_eq_true_eq] at hp
  have hall : ∀ (j : Nat) (y : TV), k ≤ j → M[j]? = some y → q ≤ y.p := by
    intro j y hj hy
    rcases Nat.lt_or_ge k j with h | h
    · obtain ⟨hjl, hje⟩ := List.getElem?_eq_some_iff.1 hy
      have := (List.pairwise_iff_getElem.1 hs) k j hkl hjl h
      rw [hke, hje] at this
      omega
    · obtain rfl : j = k := by omega
      rw [hx] at hy; cases hy; exact hp
  refine ⟨?_, fun j y hj hy => by simp only [decide_eq_true_eq]; exact hall j y hj hy⟩
  have e : M.filter (fun x => decide (x.p < q)) = (M.take k).filter (fun x => decide (x.p < q)) ++ (M.drop k).filter (fun x => decide (x.p < q)) := by
    rw [← List.filter_append, List.take_append_drop]
  have e1 : (M.take k).filter (fun x => decide (x.p < q)) = M.take k := by
    rw [List.filter_eq_self]
    intro y hy
    obtain ⟨j, hj⟩ := List.mem_iff_getElem?.1 hy
    rw [List.getElem?_take] at hj
    split at hj
    · rename_i hjk
      have := ha j y hjk hj
      simp only [decide_eq_false_iff_not, decide_eq_true_eq] at this ⊢
      omega
    · cases hj
  have e2 : (M.drop k).filter (fun x => decide (x.p < q)) = [] := by
    rw [List.filter_eq_nil_iff]
    intro y hy
    obtain ⟨j, hj⟩ := List.mem_iff_getElem?.1 hy
    rw [List.getElem?_drop] at hj
    have := hall (k + j) y (by omega) hj
    simp only [decide_eq_true_eq]
    omega
  rw [e, e1, e2, List.append_nil]

/-- The higher ones that come back. -/
def DelBack (B go n c : Nat) (M : List TV) (q : Int) (w : World) (e : Ending) (w' : World) : Prop :=
  ∃ k : Nat, e = .returned (.slice (some ⟨go, 0, none⟩) k c) ∧ k ≤ n ∧ OwnT w' B (.slice (some ⟨go, 0, none⟩) k c) (M.take k) ∧ AllOk w' (M.take k) ∧ M.filter (fun x => decide (x.p < q)) = M.take k ∧ Below B w w'

set_option maxRecDepth 100000 in
set_option maxHeartbeats 4000000 in
theorem delete_any {w : World} {B go n c : Nat} {M : List TV} (ho : OwnT w B (.slice (some ⟨go, 0, none⟩) n c) M) (hok : AllOk w M) (hi : IsAll w M) (hs : M.Pairwise (fun x y => x.p ≤ y.p)) (hl : M.length = n) (hn : 0 < n) (hn9 : n ≤ 1000000) (q : Int) (b : Nat) (hq : w.cell? ⟨b, 4, none⟩ = some (.int .i64 q)) (hB : B ≤ w.heap.size) :
    Calls Try.prog 49 #[.slice (some ⟨go, 0, none⟩) n c, .func (.func 50) #[] #[.pointer (some ⟨b, 0, none⟩)]] w (DelBack B go n c M q w) := by
  obtain ⟨a9, c9, e9, hv, hlc, hm⟩ := ho.slice
  obtain ⟨rfl, rfl⟩ : some ⟨go, 0, none⟩ = a9 ∧ c = c9 := by
    simp only [Value.slice.injEq] at e9
    exact ⟨e9.1, e9.2.2⟩
  clear e9
  have C := Lib.hid (index_any (w := w) (cap := c) hv hl (by omega) hn (fun x => decide (q ≤ x.p)) 50 #[.pointer (some ⟨b, 0, none⟩)] high1_enters (high1_pred q b w hq))
  have HO := Lib.hid ho
  have HV := Lib.hid hv
  have HK := Lib.hid (And.intro hok hi)
  have HQ := Lib.hid hq
  have HS := Lib.hid hs
  have HLE := Lib.hid hl
  have HB := Lib.hid hB
  have hnc : n ≤ c := by omega
  clear ho hv hok hi hq hs hB hlc hm
  go_enter Try.func49, Try.ntmps49
  go_upto_region 2 with (go_at_call 47; (with_reducible refine (C.out).mono ?_); rintro e w2 ⟨z, rfl, hz2, b2⟩; have H2 := Lib.hid b2; have HZ := Lib.hid hz2; clear hz2 b2)
  clear C
  rcases HZ.out with ⟨rfl, hall⟩ | ⟨k, x, rfl, hx, hp, hall⟩
  · have HF := Lib.hid (filter_none hall)
    clear hall HZ
    go_wp2_with fail
    go_ret
    have e : M.take n = M := List.take_of_length_le (by omega)
    exact ⟨n, rfl, Nat.le_refl _, by rw [e]; exact HO.out.below H2.out, by rw [e]; exact HK.out.1.below H2.out, by rw [e]; exact HF.out, H2.out.mono HB.out⟩
  · have hkl : k < n := by have := (List.getElem?_eq_some_iff.1 hx).1; omega
    have HF := Lib.hid (filter_some HS.out hx hp hall)
    have d1 : ((k : Int) == -1) = false := by rw [beq_eq_false_iff_ne]; omega
    clear hx hp hall HZ HS
    go_wp2_with fail
    go_loopw [5, 6] (fun v u wr => ∃ j : Nat, k < j ∧ j ≤ n ∧ v = .int .i64 k ∧ u = .int .i64 j ∧ Hid (Below w.heap.size w wr)) (fun _ u _ => (n - intOf u).toNat)
    case atStart => exact ⟨k + 1, by omega, by omega, rfl, by go_num, H2⟩
    case round =>
      obtain ⟨j, hkj, hjn, rfl, rfl, HP⟩ := hrel
      clear H2
      by_cases hlt : j < n
      · obtain ⟨y, hy⟩ := nth_of HLE.out hlt
        obtain ⟨g', o', e', hat⟩ := (HV.out.below HP.out).at_ hy
        cases e'
        rw [Nat.zero_add] at hat
        obtain ⟨c0, c1, c2, c3, c4, c5, c6⟩ := hat
        have hj1 : (j : Int) < (n : Int) := by omega
        have hj0 : (0 : Int) ≤ (j : Int) := by omega
        have hpy := HF.out.2 j y (by omega) hy
        have D : Hid (∀ v, Below wr.heap.size wr v → _) := fun v hb => high1_any y q b v (kept_cell hb (kept_cell HP.out HQ.out))
        rw [hpy] at D
        clear hy hpy
        go_wp2_with (go_at_call 50; (with_reducible refine (D.out _ (by repeat (first | exact Below.refl _ _ | (with_reducible assumption) | refine bw_alloc ?_ _ | refine bw_drew ?_))).mono ?_); rintro e w5 ⟨rfl, b5⟩; have H5 := Lib.hid (below_up HP.out (below_up ((by repeat (first | exact Below.refl _ _ | (with_reducible assumption) | refine bw_alloc ?_ _ | refine bw_drew ?_)) : Below wr.heap.size wr _) b5)); clear b5)
        go_roundw
        case rel => exact ⟨j + 1, by omega, by omega, rfl, by go_num, H5⟩
        case measure => simp [intOf]; omega
      · obtain rfl : j = n := by omega
        obtain ⟨w9, hcl, ho9, hk9, hb9⟩ := clear_row (HO.out.below HP.out) hkl
        have H9 := Lib.hid (And.intro ho9 (And.intro hk9 hb9))
        have HK9 := Lib.hid ((HK.out.1.below HP.out).kept (HK.out.2.below HP.out) hk9)
        clear ho9 hk9 hb9
        have hk1 : (k : Int) ≤ (j : Int) := by omega
        have hk2 : (k : Int) ≤ (c : Int) := by omega
        have hk0 : (0 : Int) ≤ (k : Int) := by omega
        have hkc : ¬ c = k := by omega
        go_wp2_with fail
        go_ret
        exact ⟨k, rfl, by omega, H9.out.1, HK9.out.take k, HF.out.1, (HP.out.mono HB.out).trans H9.out.2.2⟩
end Go.Proofs.Ytknjldmpcokgfaa
