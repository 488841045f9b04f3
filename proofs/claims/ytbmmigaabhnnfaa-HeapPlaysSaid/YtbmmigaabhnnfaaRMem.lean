/-
  The document's own heap: what its blocks hold.
-/
import Derived.Test.YtbmmigaabhnnfaaHLaw5
namespace Go.Proofs.Ytbmmigaabhnnfaa
open Go.RowKit Go.Maps

/-- A block of keys with their numbers. -/
def RRow (w : World) (g n cap : Nat) (e : Nat → Int × Int) : Prop :=
  n ≤ cap ∧ cap ≤ maxLen ∧ ∃ cur : Array Value, w.heap[g]? = some (.cells cur 38 (0, 0)) ∧ cur.size = cap * 2 ∧
    ∀ i, i < n → cur[i * 2]? = some (.int .i64 (e i).1) ∧ cur[i * 2 + 1]? = some (.int .i64 (e i).2)

theorem RRow.lt {w : World} {g n cap : Nat} {e : Nat → Int × Int} (h : RRow w g n cap e) : g < w.heap.size := by
  obtain ⟨_, _, cur, h3, _⟩ := h; exact lt_of_block h3
theorem RRow.cells {w : World} {g n cap : Nat} {e : Nat → Int × Int} (h : RRow w g n cap e) {i : Nat} (hi : i < n) : w.cell? ⟨g, i * 2, none⟩ = some (.int .i64 (e i).1) ∧ w.cell? ⟨g, i * 2 + 1, none⟩ = some (.int .i64 (e i).2) := by
  obtain ⟨_, _, cur, h3, _, h5⟩ := h
  exact ⟨by rw [blk_cell h3]; exact (h5 i hi).1, by rw [blk_cell h3]; exact (h5 i hi).2⟩
theorem RRow.free {w : World} {g n cap : Nat} {e : Nat → Int × Int} (h : RRow w g n cap e) (o : Nat) : w.frozen? ⟨g, o, none⟩ = false := by
  obtain ⟨_, _, cur, h3, _⟩ := h; exact blk_free h3 o
theorem RRow.congr {w : World} {g n cap : Nat} {e e' : Nat → Int × Int} (h : RRow w g n cap e) (he : ∀ i, i < n → e i = e' i) : RRow w g n cap e' := by
  obtain ⟨h1, h2, cur, h3, h4, h5⟩ := h
  exact ⟨h1, h2, cur, h3, h4, fun i hi => by rw [← he i hi]; exact h5 i hi⟩
theorem RRow.less {w : World} {g n m cap : Nat} {e : Nat → Int × Int} (h : RRow w g n cap e) (hm : m ≤ n) : RRow w g m cap e := by
  obtain ⟨h1, h2, cur, h3, h4, h5⟩ := h
  exact ⟨by omega, h2, cur, h3, h4, fun i hi => h5 i (by omega)⟩
theorem RRow.kept {S : Nat → Prop} {w w' : World} {g n cap : Nat} {e : Nat → Int × Int} (h : RRow w g n cap e) (ht : Turn S w w') (hn : ¬ S g) : RRow w' g n cap e := by
  obtain ⟨h1, h2, cur, h3, h4, h5⟩ := h
  exact ⟨h1, h2, cur, ht.obj h3 hn, h4, h5⟩
theorem RRow.far {w : World} {g n cap : Nat} {e : Nat → Int × Int} (h : RRow w g n cap e) {a : Addr} (hne : g ≠ a.block) (u : Value) : RRow (w.setCell a u) g n cap e := by
  obtain ⟨h1, h2, cur, h3, h4, h5⟩ := h
  exact ⟨h1, h2, cur, (blk_far hne u).trans h3, h4, h5⟩
/-- A row that may have no block yet. -/
def RRowV (w : World) (v : Value) (n : Nat) (e : Nat → Int × Int) : Prop := (v = .slice none 0 0 ∧ n = 0) ∨ ∃ g cap, v = .slice (some ⟨g, 0, none⟩) n cap ∧ RRow w g n cap e
theorem RRowV.slice {w : World} {v : Value} {n : Nat} {e : Nat → Int × Int} (h : RRowV w v n e) : ∃ a cap, v = .slice a n cap := by
  rcases h with ⟨h1, h2⟩ | ⟨g, cap, h1, _⟩
  · exact ⟨none, 0, by rw [h1, h2]⟩
  · exact ⟨_, cap, h1⟩
theorem RRowV.kept {S : Nat → Prop} {w w' : World} {v : Value} {n : Nat} {e : Nat → Int × Int} (h : RRowV w v n e) (ht : Turn S w w') (hn : ∀ k, v.ownBlock = some k → ¬ S k) : RRowV w' v n e := by
  rcases h with h | ⟨g, cap, rfl, hr⟩
  · exact .inl h
  · exact .inr ⟨g, cap, rfl, hr.kept ht (hn g rfl)⟩
theorem RRow.set1 {w : World} {g n cap : Nat} {e : Nat → Int × Int} (h : RRow w g n cap e) {i : Nat} (hi : i < n) (x : Int) : RRow (w.setCell ⟨g, i * 2 + 1, none⟩ (.int .i64 x)) g n cap (upd e i ((e i).1, x)) := by
  obtain ⟨h1, h2, cur, h3, h4, h5⟩ := h
  refine ⟨h1, h2, cur.setIfInBounds (i * 2 + 1) (.int .i64 x), blk_set h3 _, by simp [h4], fun k hk => ?_⟩
  have hs : i * 2 + 1 < cur.size := by omega
  unfold upd
  by_cases q : k = i
  · subst q
    have := h5 k hk
    simp only [Array.getElem?_setIfInBounds]
    rw [if_neg (by omega)]
    simp [hs]
    simpa using this.1
  · rw [if_neg q]
    have := h5 k hk
    simp only [Array.getElem?_setIfInBounds]
    rw [if_neg (by omega), if_neg (by omega)]
    exact this

theorem infoItem : (Try.prog.info? 38).map (fun i => (i.zero, i.size, i.bytes)) = some (some (.agg #[.int .i64 0, .int .i64 0]), 2, 16) := by kernel_rfl

/-- A row as the laws of append have it. -/
theorem rrow_owns {w : World} {v : Value} {n : Nat} {e : Nat → Int × Int} (h : RRowV w v n e) : ∃ xs : List Value, w.ownsRow 0 38 2 v n xs ∧ ∀ i, i < n → xs[i * 2]? = some (.int .i64 (e i).1) ∧ xs[i * 2 + 1]? = some (.int .i64 (e i).2) := by
  rcases h with ⟨rfl, rfl⟩ | ⟨g, cap, rfl, h1, h2, cur, h3, h4, h5⟩
  · exact ⟨[], World.ownsRow_nil _ _ _ _, fun i hi => by omega⟩
  · refine ⟨cur.toList.take (n * 2), ⟨by rw [List.length_take, Array.length_toList]; omega, .inr ⟨g, cap, cur, rfl, Nat.zero_le _, h3, h1, h2, h4, rfl⟩⟩, fun i hi => ?_⟩
    have := h5 i hi
    rw [List.getElem?_take_of_lt (by omega), List.getElem?_take_of_lt (by omega)]
    simpa using this
theorem rowns_row {w : World} {v : Value} {n : Nat} {e : Nat → Int × Int} {xs : List Value} {k x : Int} (h : w.ownsRow 0 38 2 v (n + 1) (xs ++ [.int .i64 k, .int .i64 x])) (hx : ∀ i, i < n → xs[i * 2]? = some (.int .i64 (e i).1) ∧ xs[i * 2 + 1]? = some (.int .i64 (e i).2)) :
    ∃ g cap, v = .slice (some ⟨g, 0, none⟩) (n + 1) cap ∧ RRow w g (n + 1) cap (upd e n (k, x)) := by
  have hl : xs.length = n * 2 := by have := h.1; simp at this; omega
  rcases h.2 with ⟨_, h0⟩ | ⟨g, cap, cur, rfl, _, h3, h1, h2, h4, h5⟩
  · omega
  · refine ⟨g, cap, rfl, h1, h2, cur, h3, h4, fun i hi => ?_⟩
    have e1 : ∀ j, j < (n + 1) * 2 → cur[j]? = (xs ++ [.int .i64 k, .int .i64 x])[j]? := fun j hj => by
      rw [← h5, List.getElem?_take_of_lt hj]; simp
    rw [e1 _ (by omega), e1 _ (by omega)]
    unfold upd
    by_cases q : i = n
    · subst q
      rw [if_pos rfl, List.getElem?_append_right (by omega), List.getElem?_append_right (by omega), hl]
      simp
    · rw [if_neg q, List.getElem?_append_left (by omega), List.getElem?_append_left (by omega)]
      exact hx i (by omega)

/-- The cells of a row, as the laws of append take them. -/
theorem rrow_news {w : World} {g n cap : Nat} {e : Nat → Int × Int} (h : RRow w g n cap e) : ∃ xs : List Value, xs.length = n * 2 ∧ (∀ j u, xs[j]? = some u → w.cell? ((⟨g, 0, none⟩ : Addr).add j) = some u) ∧ (∀ u ∈ xs, u.oneCell' = true) ∧ ∀ i, i < n → xs[i * 2]? = some (.int .i64 (e i).1) ∧ xs[i * 2 + 1]? = some (.int .i64 (e i).2) := by
  have hrow : RRowV w (.slice (some ⟨g, 0, none⟩) n cap) n e := .inr ⟨g, cap, rfl, h⟩
  obtain ⟨xs, hown, hx⟩ := rrow_owns hrow
  refine ⟨xs, hown.1, hown.cells rfl, fun u hu => ?_, hx⟩
  obtain ⟨j, hj, rfl⟩ := List.getElem_of_mem hu
  have hl := hown.1
  rcases (show j = (j / 2) * 2 ∨ j = (j / 2) * 2 + 1 by omega) with q | q
  · have := (hx (j / 2) (by omega)).1
    rw [← q, List.getElem?_eq_getElem hj] at this
    rw [Option.some.inj this]; rfl
  · have := (hx (j / 2) (by omega)).2
    rw [← q, List.getElem?_eq_getElem hj] at this
    rw [Option.some.inj this]; rfl
theorem rowns_rowV {w : World} {B n : Nat} {v : Value} {e : Nat → Int × Int} {xs : List Value} (h : w.ownsRow B 38 2 v n xs) (hn : 0 < n) (hx : ∀ i, i < n → xs[i * 2]? = some (.int .i64 (e i).1) ∧ xs[i * 2 + 1]? = some (.int .i64 (e i).2)) :
    ∃ g cap, v = .slice (some ⟨g, 0, none⟩) n cap ∧ RRow w g n cap e ∧ B ≤ g := by
  rcases h.2 with ⟨_, h0⟩ | ⟨g, cap, cur, rfl, hB, h3, h1, h2, h4, h5⟩
  · omega
  · refine ⟨g, cap, rfl, ⟨h1, h2, cur, h3, h4, fun i hi => ?_⟩, hB⟩
    have e1 : ∀ j, j < n * 2 → cur[j]? = xs[j]? := fun j hj => by
      rw [← h5, List.getElem?_take_of_lt hj]; simp
    rw [e1 _ (by omega), e1 _ (by omega)]
    exact hx i hi


/-- The document's own heap: a struct with a row. -/
def RStr (w : World) (rb : Nat) (v : Value) : Prop := w.heap[rb]? = some (.cells #[v] 30 (0, 0))
theorem RStr.lt {w : World} {rb : Nat} {v : Value} (h : RStr w rb v) : rb < w.heap.size := lt_of_block h
theorem RStr.cell {w : World} {rb : Nat} {v : Value} (h : RStr w rb v) : w.cell? ⟨rb, 0, none⟩ = some v ∧ w.frozen? ⟨rb, 0, none⟩ = false := ⟨by rw [blk_cell h]; rfl, blk_free h 0⟩
theorem RStr.kept {S : Nat → Prop} {w w' : World} {rb : Nat} {v : Value} (h : RStr w rb v) (ht : Turn S w w') (hn : ¬ S rb) : RStr w' rb v := ht.obj h hn
theorem RStr.set {w : World} {rb : Nat} {v : Value} (h : RStr w rb v) (u : Value) : RStr (w.setCell ⟨rb, 0, none⟩ u) rb u := (blk_set h u).trans rfl

structure Rv (w : World) (rb : Nat) (v : Value) (n : Nat) (e : Nat → Int × Int) (c : Int → Option Int) : Prop where
  str : RStr w rb v
  row : RRowV w v n e
  once : Once n e
  wf : ∀ i, i < n → I64 (e i).1 ∧ I64 (e i).2
  con : Content n e c
def ROwn (rb : Nat) (v : Value) (k : Nat) : Prop := k = rb ∨ v.ownBlock = some k
structure Rp (w : World) (rb : Nat) (A : Nat → Prop) (n : Nat) (c : Int → Option Int) : Prop where
  ex : ∃ v e, Rv w rb v n e c ∧ ∀ k, A k ↔ ROwn rb v k
def RStep (w : World) (rb : Nat) (A : Nat → Prop) (n : Nat) (c : Int → Option Int) (w' : World) : Prop :=
  ∃ A', Rp w' rb A' n c ∧ Turn A w w' ∧ ∀ k, A' k → A k ∨ w.heap.size ≤ k

theorem Rv.kept {S : Nat → Prop} {w w' : World} {rb : Nat} {v : Value} {n : Nat} {e : Nat → Int × Int} {c : Int → Option Int} (h : Rv w rb v n e c) (ht : Turn S w w') (hn : ∀ k, ROwn rb v k → ¬ S k) : Rv w' rb v n e c :=
  ⟨h.str.kept ht (hn _ (.inl rfl)), h.row.kept ht (fun k hk => hn k (.inr hk)), h.once, h.wf, h.con⟩
theorem Rp.kept {S : Nat → Prop} {w w' : World} {rb : Nat} {A : Nat → Prop} {n : Nat} {c : Int → Option Int} (h : Rp w rb A n c) (ht : Turn S w w') (hn : ∀ k, A k → ¬ S k) : Rp w' rb A n c := by
  obtain ⟨v, e, h, ha⟩ := h.ex
  exact ⟨v, e, h.kept ht (fun k hk => hn k ((ha k).2 hk)), ha⟩
theorem Rp.below {w w' : World} {rb : Nat} {A : Nat → Prop} {n : Nat} {c : Int → Option Int} (h : Rp w rb A n c) (hb : Below w.heap.size w w') : Rp w' rb A n c :=
  h.kept (Turn.of_below (S := fun _ => False) hb) (fun _ _ h => h)
theorem ROwn.lt {w : World} {rb : Nat} {v : Value} {n : Nat} {e : Nat → Int × Int} {c : Int → Option Int} (h : Rv w rb v n e c) {k : Nat} (hk : ROwn rb v k) : k < w.heap.size := by
  rcases hk with rfl | hk
  · exact h.str.lt
  · rcases h.row with ⟨rfl, _⟩ | ⟨g, cap, rfl, hr⟩
    · simp [Value.ownBlock] at hk
    · simp [Value.ownBlock] at hk; subst hk; exact hr.lt
theorem Rp.lt {w : World} {rb : Nat} {A : Nat → Prop} {n : Nat} {c : Int → Option Int} (h : Rp w rb A n c) {k : Nat} (hk : A k) : k < w.heap.size := by
  obtain ⟨v, e, h, ha⟩ := h.ex
  exact ROwn.lt h ((ha k).1 hk)
theorem RStep.same {w w' : World} {rb : Nat} {A : Nat → Prop} {n : Nat} {c : Int → Option Int} (h : Rp w rb A n c) (hb : Below w.heap.size w w') : RStep w rb A n c w' :=
  ⟨A, h.below hb, Turn.of_below hb, fun _ h => .inl h⟩

/-- A key in a row, or none. -/
theorem con_cases {n : Nat} {e : Nat → Int × Int} {c : Int → Option Int} (hc : Content n e c) (k : Int) : (c k = none ∧ ∀ j, j < n → (e j).1 ≠ k) ∨ ∃ j : Nat, j < n ∧ (e j).1 = k ∧ c k = some (e j).2 := by
  by_cases h : ∃ j, j < n ∧ (e j).1 = k
  · obtain ⟨j, hj, h1⟩ := h
    exact .inr ⟨j, hj, h1, (hc k _).2 ⟨j, hj, by rw [← h1]⟩⟩
  · refine .inl ⟨?_, fun j hj h1 => h ⟨j, hj, h1⟩⟩
    cases hk : c k with
    | none => rfl
    | some x =>
      obtain ⟨i, hi, he⟩ := (hc k x).1 hk
      exact absurd ⟨i, hi, by rw [he]⟩ h

set_option maxRecDepth 100000 in
set_option maxHeartbeats 1000000 in
/-- Where a key stands: the first place from which on it is looked for. -/
theorem rat_any (rb n cap : Nat) (a : Option Addr) (e : Nat → Int × Int) (key res : Int) (hn : (n : Int) ≤ 1000000) (w : World) (hs : RStr w rb (.slice a n cap)) (hr : RRowV w (.slice a n cap) n e)
    (hres : (res = -1 ∧ ∀ j, j < n → (e j).1 ≠ key) ∨ ∃ j : Nat, j < n ∧ (e j).1 = key ∧ res = (j : Int) ∧ ∀ i, i < j → (e i).1 ≠ key) :
    Calls Try.prog 31 #[.pointer (some ⟨rb, 0, none⟩), .int .i64 key] w fun r w' => r = .returned (.int .i64 res) ∧ w = w' := by
  obtain ⟨c0, _⟩ := hs.cell
  have HR := Lib.hid hr
  have HE := Lib.hid hres
  clear hs hr hres
  go_enter Try.func31, Try.ntmps31
  go_wp2
  go_loop [5] (fun u => ∃ k : Nat, k ≤ n ∧ u = .int .i64 k ∧ Hid (∀ i, i < k → (e i).1 ≠ key)) (fun u => (n - intOf u).toNat)
  case atStart => exact ⟨0, by omega, rfl, fun i hi => absurd hi (Nat.not_lt_zero _)⟩
  case round =>
    obtain ⟨k, hk, rfl, HK⟩ := hrel
    by_cases hlt : k < n
    · obtain ⟨g, cap', hv, hrow⟩ : ∃ g cap', (Value.slice a n cap) = .slice (some ⟨g, 0, none⟩) n cap' ∧ RRow w g n cap' e := by
        rcases HR.out with ⟨_, q⟩ | q
        · omega
        · exact q
      cases hv
      obtain ⟨i0, _⟩ := hrow.cells hlt
      have hk1 : (k : Int) < (n : Int) := by omega
      have hk0 : (0 : Int) ≤ (k : Int) := by omega
      clear hrow HR
      by_cases hq : (e k).1 = key
      · have hq1 : ((e k).1 == key) = true := by rw [hq]; simp
        have hr : Hid ((k : Int) = res) := by
          rcases HE.out with ⟨_, q⟩ | ⟨j, hj, q1, q2, q3⟩
          · exact absurd hq (q k hlt)
          · show (k : Int) = res
            rcases Nat.lt_trichotomy k j with z | z | z
            · exact absurd hq (q3 k z)
            · rw [q2, z]
            · exact absurd q1 (HK.out j z)
        clear hq HE
        generalize (e k).1 = x at i0 hq1
        go_wp2
        go_ret
        exact ⟨by rw [hr.out]; rfl, rfl⟩
      · have hq1 : ((e k).1 == key) = false := by rw [beq_eq_false_iff_ne]; exact hq
        have HK1 : Hid (∀ i, i < k + 1 → (e i).1 ≠ key) := fun i hi => by
          by_cases z : i = k
          · rw [z]; exact hq
          · exact HK.out i (by omega)
        clear hq HE HK
        generalize (e k).1 = x at i0 hq1
        go_wp2
        go_round
        case rel => exact ⟨k + 1, by omega, by go_num, HK1⟩
        case measure => simp [intOf]; omega
    · obtain rfl : k = n := by omega
      have hr : Hid (-1 = res) := by
        rcases HE.out with ⟨q, _⟩ | ⟨j, hj, q1, _⟩
        · exact q.symm
        · exact absurd q1 (HK.out j hj)
      clear HE
      go_wp2
      go_ret
      exact ⟨by rw [hr.out]; rfl, rfl⟩

theorem rat_hv {w : World} {rb : Nat} {v : Value} {n : Nat} {e : Nat → Int × Int} {c : Int → Option Int} (h : Rv w rb v n e c) (hn : (n : Int) ≤ 1000000) (key : Int) :
    ((c key = none ∧ ∀ j, j < n → (e j).1 ≠ key) ∧ Calls Try.prog 31 #[.pointer (some ⟨rb, 0, none⟩), .int .i64 key] w fun r w' => r = .returned (.int .i64 (-1)) ∧ w = w') ∨
    ∃ j : Nat, (j < n ∧ (e j).1 = key ∧ c key = some (e j).2) ∧ Calls Try.prog 31 #[.pointer (some ⟨rb, 0, none⟩), .int .i64 key] w fun r w' => r = .returned (.int .i64 (j : Int)) ∧ w = w' := by
  obtain ⟨a, cap, rfl⟩ := h.row.slice
  rcases con_cases h.con key with q | ⟨j, hj, h1, h2⟩
  · exact .inl ⟨q, rat_any rb n cap a e key (-1) hn w h.str h.row (.inl ⟨rfl, q.2⟩)⟩
  · refine .inr ⟨j, ⟨hj, h1, h2⟩, rat_any rb n cap a e key j hn w h.str h.row (.inr ⟨j, hj, h1, rfl, fun i hi z => ?_⟩)⟩
    have := h.once i j (by omega) hj (by rw [z, h1])
    omega

end Go.Proofs.Ytbmmigaabhnnfaa
