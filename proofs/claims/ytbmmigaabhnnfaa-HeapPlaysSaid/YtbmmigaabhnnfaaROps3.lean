/-
  The walk over the document's own heap: the one that stands first.
-/
import Derived.Test.YtbmmigaabhnnfaaROps2
namespace Go.Proofs.Ytbmmigaabhnnfaa
open Go.RowKit Go.Maps

set_option maxRecDepth 100000 in
set_option maxHeartbeats 1000000 in
theorem rahead_any (a b : Int × Int) (w : World) : Calls Try.prog 34 #[.agg #[.int .i64 a.1, .int .i64 a.2], .agg #[.int .i64 b.1, .int .i64 b.2]] w fun r w' => r = .returned (.bool (lt2 a b)) ∧ Below w.heap.size w w' := by
  have hlt := lt2_iff (a := a) (b := b)
  generalize lt2 a b = q at hlt
  obtain ⟨xk, xn⟩ := a
  obtain ⟨yk, yn⟩ := b
  simp only at hlt
  have HQ := Lib.hid hlt
  clear hlt
  have HB : Hid (∀ o o', Below w.heap.size w ((w.alloc o).alloc o')) := fun o o' => ((Below.refl _ _).alloc (Nat.le_refl _) _).alloc (by simp) _
  rcases Int.lt_trichotomy xn yn with h | h | h
  · have d1 : decide (xn < yn) = true := decide_eq_true h
    have hq : q = true := HQ.out.2 (.inl h)
    go_enter Try.func34, Try.ntmps34
    go_wp2
    go_ret
    exact ⟨by rw [hq]; rfl, HB.out _ _⟩
  · subst h
    have d1 : decide (xn < xn) = false := decide_eq_false (by omega)
    have HZ : Hid (q = decide (xk < yk)) := by
      have := HQ.out
      show q = _
      rw [Bool.eq_iff_iff, decide_eq_true_iff, this]; simp
    clear HQ
    go_enter Try.func34, Try.ntmps34
    go_wp2
    go_ret
    exact ⟨by rw [HZ.out]; rfl, HB.out _ _⟩
  · have d1 : decide (xn < yn) = false := decide_eq_false (by omega)
    have d2 : (xn == yn) = false := by rw [beq_eq_false_iff_ne]; omega
    have hq : q = false := by
      have := HQ.out
      rw [← Bool.not_eq_true, this]; omega
    clear HQ
    go_enter Try.func34, Try.ntmps34
    go_wp2
    go_ret
    exact ⟨by rw [hq]; rfl, HB.out _ _⟩

/-- The best so far, in its cell. -/
structure MinSt (w wr : World) (e : Nat → Int × Int) (k q : Nat) : Prop where
  low : Below w.heap.size w wr
  res : wr.heap[w.heap.size]? = some (.cells #[.int .i64 0, .int .i64 0] 38 (0, 0))
  best : wr.heap[w.heap.size + 1]? = some (.cells #[.int .i64 (e q).1, .int .i64 (e q).2] 38 (0, 0))
  no : ∀ i, i < k → lt2 (e i) (e q) = false

theorem MinSt.yes {w wr w1 : World} {e : Nat → Int × Int} {k q : Nat} (h : MinSt w wr e k q) (hd : lt2 (e k) (e q) = true) (hb : Below wr.heap.size wr w1) :
    MinSt w ((w1.setCell ⟨w.heap.size + 1, 0, none⟩ (.int .i64 (e k).1)).setCell ⟨w.heap.size + 1, 1, none⟩ (.int .i64 (e k).2)) e (k + 1) k := by
  have hb1 : Below w.heap.size w w1 := h.low.trans (hb.mono h.low.size)
  have hr : w1.heap[w.heap.size]? = some (.cells #[.int .i64 0, .int .i64 0] 38 (0, 0)) := (hb.block _ (lt_of_block h.res)).trans h.res
  have hbb : w1.heap[w.heap.size + 1]? = some (.cells #[.int .i64 (e q).1, .int .i64 (e q).2] 38 (0, 0)) := (hb.block _ (lt_of_block h.best)).trans h.best
  refine ⟨(hb1.setCell (p := ⟨w.heap.size + 1, 0, none⟩) (Nat.le_succ _) _).setCell (p := ⟨w.heap.size + 1, 1, none⟩) (Nat.le_succ _) _, ?_, (blk_set (blk_set hbb _) _).trans rfl, fun i hi => ?_⟩
  · rw [blk_far (a := ⟨w.heap.size + 1, 1, none⟩) (Nat.ne_of_lt (Nat.lt_succ_self _)), blk_far (a := ⟨w.heap.size + 1, 0, none⟩) (Nat.ne_of_lt (Nat.lt_succ_self _))]; exact hr
  · have hd := lt2_iff.1 hd
    by_cases z : i = k
    · subst z; rw [lt2_no]; omega
    · have := lt2_no.1 (h.no i (by omega))
      rw [lt2_no]; omega
theorem MinSt.stay {w wr w1 : World} {e : Nat → Int × Int} {k q : Nat} (h : MinSt w wr e k q) (hd : lt2 (e k) (e q) = false) (hb : Below wr.heap.size wr w1) : MinSt w w1 e (k + 1) q := by
  refine ⟨h.low.trans (hb.mono h.low.size), (hb.block _ (lt_of_block h.res)).trans h.res, (hb.block _ (lt_of_block h.best)).trans h.best, fun i hi => ?_⟩
  by_cases z : i = k
  · subst z; exact hd
  · exact h.no i (by omega)

set_option maxRecDepth 100000 in
set_option maxHeartbeats 2000000 in
theorem rmin_core (rb g n cap : Nat) (e : Nat → Int × Int) (hn0 : 0 < n) (hn : (n : Int) ≤ 1000000) (w : World) (hs : RStr w rb (.slice (some ⟨g, 0, none⟩) n cap)) (hr : RRow w g n cap e) :
    Calls Try.prog 24 #[.pointer (some ⟨rb, 0, none⟩)] w fun r w' => ∃ q, q < n ∧ r = .returned (.tuple #[.agg #[.int .i64 (e q).1, .int .i64 (e q).2], .bool true]) ∧ (∀ i, i < n → lt2 (e i) (e q) = false) ∧ Below w.heap.size w w' := by
  have HS : Hid (∀ wr, Below w.heap.size w wr → wr.cell? ⟨rb, 0, none⟩ = some (.slice (some ⟨g, 0, none⟩) n cap) ∧ ∀ i, i < n → wr.cell? ⟨g, i * 2, none⟩ = some (.int .i64 (e i).1) ∧ wr.cell? ⟨g, i * 2 + 1, none⟩ = some (.int .i64 (e i).2)) := fun wr hb =>
    ⟨kept_cell hb hs.cell.1, fun i hi => ⟨kept_cell hb (hr.cells hi).1, kept_cell hb (hr.cells hi).2⟩⟩
  obtain ⟨c0, hc⟩ := HS.out w (Below.refl _ _)
  obtain ⟨i0, i1⟩ := hc 0 hn0
  rw [Nat.zero_mul] at i0 i1
  have hn1 : (0 : Int) < (n : Int) := by omega
  have hnz : ((n : Int) == 0) = false := by rw [beq_eq_false_iff_ne]; omega
  have l1 := hs.lt
  have l2 := hr.lt
  clear hs hr hc
  go_enter Try.func24, Try.ntmps24
  go_wp2
  go_loopw [5] (fun i wr => ∃ (k q : Nat), k ≤ n ∧ q < n ∧ i = .int .i64 k ∧ Hid (MinSt w wr e k q)) (fun i _ => (n - intOf i).toNat)
  case atStart =>
    have hb : Below w.heap.size w ((w.alloc (.cells #[.int .i64 0, .int .i64 0] 38)).alloc (.cells #[.int .i64 (e 0).1, .int .i64 (e 0).2] 38)) := ((Below.refl _ _).alloc (Nat.le_refl _) _).alloc (by simp) _
    refine ⟨0, 0, by omega, hn0, rfl, ⟨hb, ?_, ?_, fun i hi => absurd hi (Nat.not_lt_zero _)⟩⟩
    · rw [Below.block ((Below.refl _ (w.alloc (.cells #[.int .i64 0, .int .i64 0] 38))).alloc (Nat.le_refl _) _) _ (by simp)]
      exact heap_alloc_new _ _
    · have := heap_alloc_new (w.alloc (.cells #[.int .i64 0, .int .i64 0] 38)) (.cells #[.int .i64 (e 0).1, .int .i64 (e 0).2] 38)
      rw [World.size_alloc] at this
      exact this
  case round =>
    obtain ⟨k, q, hk, hq, rfl, HM⟩ := hrel
    clear c0 i0 i1
    by_cases hlt : k < n
    · obtain ⟨c0, hc⟩ := HS.out wr HM.out.low
      obtain ⟨i0, i1⟩ := hc k hlt
      have hk0 : (0 : Int) ≤ (k : Int) := by omega
      have hk1 : (k : Int) < (n : Int) := by omega
      have bb := HM.out.best
      have b0 : wr.cell? ⟨w.heap.size + 1, 0, none⟩ = some (.int .i64 (e q).1) := by rw [blk_cell bb]; rfl
      have b1 : wr.cell? ⟨w.heap.size + 1, 1, none⟩ = some (.int .i64 (e q).2) := by rw [blk_cell bb]; rfl
      have HC : Hid (∀ w1, Below wr.heap.size wr w1 → Calls Try.prog 34 #[.agg #[.int .i64 (e k).1, .int .i64 (e k).2], .agg #[.int .i64 (e q).1, .int .i64 (e q).2]] w1 fun r w' => r = .returned (.bool (lt2 (e k) (e q))) ∧ Below wr.heap.size wr w') := fun w1 hb => (rahead_any (e k) (e q) w1).mono fun _ _ ⟨h1, h2⟩ => ⟨h1, hb.trans (h2.mono hb.size)⟩
      by_cases hd : lt2 (e k) (e q) = true
      · rw [hd] at HC
        have HX : Hid (∀ w', Below wr.heap.size wr w' → w'.cell? ⟨rb, 0, none⟩ = some (.slice (some ⟨g, 0, none⟩) n cap) ∧ w'.cell? ⟨g, k * 2, none⟩ = some (.int .i64 (e k).1) ∧ w'.cell? ⟨g, k * 2 + 1, none⟩ = some (.int .i64 (e k).2) ∧ w'.cell? ⟨w.heap.size + 1, 0, none⟩ = some (.int .i64 (e q).1) ∧ w'.cell? ⟨w.heap.size + 1, 1, none⟩ = some (.int .i64 (e q).2) ∧ w'.frozen? ⟨w.heap.size + 1, 0, none⟩ = false ∧ w'.frozen? ⟨w.heap.size + 1, 1, none⟩ = false) := fun w' hb =>
          ⟨kept_cell hb c0, kept_cell hb i0, kept_cell hb i1, kept_cell hb b0, kept_cell hb b1, by rw [hb.frozen (p := ⟨w.heap.size + 1, 0, none⟩) (block_of_cell b0)]; exact blk_free bb 0, by rw [hb.frozen (p := ⟨w.heap.size + 1, 1, none⟩) (block_of_cell b1)]; exact blk_free bb 1⟩
        clear hc bb
        go_upto_region 7 with (fail)
        go_region_with (go_at_call 34; (refine (HC.out _ (by repeat (first | exact Below.refl _ _ | refine Below.drew ?_))).mono ?_); rintro r w1 ⟨rfl, hb⟩; have HB := Lib.hid hb; clear hb)
        all_goals
          clear c0 i0 i1 b0 b1
          obtain ⟨c0, i0, i1, b0, b1, z0, z1⟩ := HX.out _ HB.out
          go_wp2
          exact ⟨⟨k + 1, k, by omega, hlt, by simp, HM.out.yes hd HB.out⟩, by simp [intOf]; omega⟩
      · have hd : lt2 (e k) (e q) = false := by simpa using hd
        rw [hd] at HC
        clear hc bb
        go_upto_region 7 with (fail)
        go_region_with (go_at_call 34; (refine (HC.out _ (by repeat (first | exact Below.refl _ _ | refine Below.drew ?_))).mono ?_); rintro r w1 ⟨rfl, hb⟩; have HB := Lib.hid hb; clear hb)
        all_goals
          go_wp2
          exact ⟨⟨k + 1, q, by omega, hq, by simp, HM.out.stay hd HB.out⟩, by simp [intOf]; omega⟩
    · obtain rfl : k = n := by omega
      obtain ⟨c0, _⟩ := HS.out wr HM.out.low
      have bb := HM.out.best
      have b0 : wr.cell? ⟨w.heap.size + 1, 0, none⟩ = some (.int .i64 (e q).1) := by rw [blk_cell bb]; rfl
      have b1 : wr.cell? ⟨w.heap.size + 1, 1, none⟩ = some (.int .i64 (e q).2) := by rw [blk_cell bb]; rfl
      have rr := HM.out.res
      have r0 : wr.cell? ⟨w.heap.size, 0, none⟩ = some (.int .i64 0) := by rw [blk_cell rr]; rfl
      have r1 : wr.cell? ⟨w.heap.size, 1, none⟩ = some (.int .i64 0) := by rw [blk_cell rr]; rfl
      have z0 := blk_free rr 0
      have z1 := blk_free rr 1
      clear bb rr
      go_wp2
      refine bodyPost_ret (v := .tuple #[.agg #[.int .i64 (e q).1, .int .i64 (e q).2], .bool true]) (by simp [results, Try.results24, go_sem, r0, r1]) rfl ⟨q, hq, rfl, HM.out.no, ?_⟩
      exact (HM.out.low.setCell (p := ⟨w.heap.size, 0, none⟩) (Nat.le_refl _) _).setCell (p := ⟨w.heap.size, 1, none⟩) (Nat.le_refl _) _

set_option maxRecDepth 100000 in
set_option maxHeartbeats 2000000 in
theorem rmin_none (rb cap : Nat) (a : Option Addr) (w : World) (hs : RStr w rb (.slice a 0 cap)) :
    Calls Try.prog 24 #[.pointer (some ⟨rb, 0, none⟩)] w fun r w' => r = .returned (.tuple #[.agg #[.int .i64 0, .int .i64 0], .bool false]) ∧ Below w.heap.size w w' := by
  have hb : Below w.heap.size w (w.alloc (.cells #[.int .i64 0, .int .i64 0] 38)) := (Below.refl _ _).alloc (Nat.le_refl _) _
  have HB := Lib.hid hb
  obtain ⟨c0, _⟩ := hs.cell
  have l1 := hs.lt
  clear hs hb
  go_enter Try.func24, Try.ntmps24
  go_wp2
  refine bodyPost_ret (v := .tuple #[.agg #[.int .i64 0, .int .i64 0], .bool false]) (by simp [results, Try.results24, go_sem]) rfl ⟨rfl, ?_⟩
  exact HB.out

theorem con_best {n : Nat} {e : Nat → Int × Int} {c : Int → Option Int} {q : Nat} (hc : Content n e c) (hq : q < n) (h : ∀ i, i < n → lt2 (e i) (e q) = false) : First c (e q).1 (e q).2 := by
  refine ⟨(hc _ _).2 ⟨q, hq, rfl⟩, fun k x hk => ?_⟩
  obtain ⟨i, hi, he⟩ := (hc k x).1 hk
  have := h i hi
  rw [he] at this
  exact this

theorem rmin_any {w : World} {rb : Nat} {A : Nat → Prop} {n : Nat} {c : Int → Option Int} (hn0 : 0 < n) (hn : (n : Int) ≤ 1000000) (h : Rp w rb A n c) :
    Calls Try.prog 24 #[.pointer (some ⟨rb, 0, none⟩)] w fun r w' => ∃ k x, r = .returned (.tuple #[.agg #[.int .i64 k, .int .i64 x], .bool true]) ∧ First c k x ∧ Below w.heap.size w w' := by
  obtain ⟨v, e, hv, _⟩ := h.ex
  obtain ⟨g, cap, rfl, hr⟩ : ∃ g cap, v = .slice (some ⟨g, 0, none⟩) n cap ∧ RRow w g n cap e := by
    rcases hv.row with ⟨_, q⟩ | q
    · omega
    · exact q
  exact (rmin_core rb g n cap e hn0 hn w hv.str hr).mono fun r w' ⟨q, h1, h2, h3, h4⟩ => ⟨_, _, h2, con_best hv.con h1 h3, h4⟩
theorem rmin_empty {w : World} {rb : Nat} {A : Nat → Prop} {c : Int → Option Int} (h : Rp w rb A 0 c) :
    Calls Try.prog 24 #[.pointer (some ⟨rb, 0, none⟩)] w fun r w' => r = .returned (.tuple #[.agg #[.int .i64 0, .int .i64 0], .bool false]) ∧ Below w.heap.size w w' := by
  obtain ⟨v, e, hv, _⟩ := h.ex
  obtain ⟨a, cap, rfl⟩ := hv.row.slice
  exact rmin_none rb cap a w hv.str

end Go.Proofs.Ytbmmigaabhnnfaa
