/-
  The walks over the greatest chunk.
-/
import Derived.Test.YtknjldmpcokgfaaKW27
import Derived.Test.YtknjldmpcokgfaaKW6
namespace Go.Proofs.Ytknjldmpcokgfaa
open Go.RowKit Go.Maps

/-- The greatest one of a row. -/
def IsMax (l : List Int) (m : Int) : Prop := m ∈ l ∧ ∀ x ∈ l, x ≤ m
theorem isMax_same {l : List Int} {m m' : Int} (h : IsMax l m) (h' : IsMax l m') : m = m' := by
  have := h.2 m' h'.1
  have := h'.2 m h.1
  omega
theorem isMax_one {l : List Int} {x : Int} (hx : l[0]? = some x) : IsMax (l.take 1) x := by
  cases l with
  | nil => simp at hx
  | cons y r =>
    simp at hx; subst hx
    exact ⟨by simp, fun z hz => by simp at hz; omega⟩
theorem isMax_more {l : List Int} {k : Nat} {m x : Int} (h : IsMax (l.take k) m) (hx : l[k]? = some x) (hle : m < x) : IsMax (l.take (k + 1)) x := by
  rw [List.take_add_one, hx]
  refine ⟨by simp, fun z hz => ?_⟩
  rcases List.mem_append.1 hz with q | q
  · have := h.2 z q; omega
  · simp at q; omega
theorem isMax_keep {l : List Int} {k : Nat} {m x : Int} (h : IsMax (l.take k) m) (hx : l[k]? = some x) (hle : x ≤ m) : IsMax (l.take (k + 1)) m := by
  rw [List.take_add_one, hx]
  refine ⟨List.mem_append_left _ h.1, fun z hz => ?_⟩
  rcases List.mem_append.1 hz with q | q
  · exact h.2 z q
  · simp at q; omega
theorem isMax_all {l : List Int} {k : Nat} {m : Int} (h : IsMax (l.take k) m) (hl : l.length = k) : IsMax l m := by
  rwa [List.take_of_length_le (by omega)] at h

set_option maxRecDepth 100000 in
set_option maxHeartbeats 2000000 in
theorem max_any (a : Option Addr) (n cap : Nat) (l : List Int) (hl : l.length = n) (hn : (n : Int) ≤ 9223372036854775807) (hp : 0 < n) (w : World) (h : Ints w a l) :
    Calls Try.prog 51 #[.slice a n cap] w fun e w' => ∃ m, e = .returned (.int .i64 m) ∧ IsMax l m ∧ w = w' := by
  have H := Lib.hid h
  have HL := Lib.hid hl
  obtain ⟨x0, hx0⟩ := nth_of hl hp
  obtain ⟨g, o, rfl, c0⟩ := h.at_ hx0
  rw [Nat.add_zero] at c0
  have HM := Lib.hid (isMax_one hx0)
  have h1 : ¬ (n : Int) < 1 := by omega
  have h2 : (0 : Int) < (n : Int) := by omega
  clear h hl hx0
  go_enter Try.func51, Try.ntmps51
  go_wp2_with fail
  go_loop [3, 4] (fun v u => ∃ (k : Nat) (m : Int), k ≤ n ∧ u = .int .i64 k ∧ v = .int .i64 m ∧ Hid (IsMax (l.take k) m)) (fun _ u => (n - intOf u).toNat)
  case atStart => exact ⟨1, x0, by omega, rfl, rfl, HM⟩
  case round =>
    obtain ⟨k, m, hk, rfl, rfl, HS⟩ := hrel
    clear HM
    by_cases hlt : k < n
    · obtain ⟨x, hx⟩ := nth_of HL.out hlt
      obtain ⟨g', o', e', c1⟩ := H.out.at_ hx
      cases e'
      have hk1 : (k : Int) < (n : Int) := by omega
      have hk0 : (0 : Int) ≤ (k : Int) := by omega
      by_cases hle : m < x
      · have HS2 := Lib.hid (isMax_more HS.out hx hle)
        have e9 : max m x = x := by omega
        have hle2 : ¬ x ≤ m := by omega
        have hle3 : ¬ x < m := by omega
        clear hx HS
        go_wp2_with fail
        go_round
        case rel => exact ⟨k + 1, x, by omega, by go_num, rfl, HS2⟩
        case measure => simp [intOf]; omega
      · have HS2 := Lib.hid (isMax_keep HS.out hx (by omega))
        have e9 : max m x = m := by omega
        have hle2 : x ≤ m := by omega
        clear hx HS
        go_wp2_with fail
        go_round
        case rel => exact ⟨k + 1, m, by omega, by go_num, rfl, HS2⟩
        case measure => simp [intOf]; omega
    · obtain rfl : n = k := by omega
      have HF := Lib.hid (isMax_all HS.out HL.out)
      go_wp2_with fail
      go_ret
      exact ⟨m, rfl, HF.out, rfl⟩
set_option maxRecDepth 100000 in
set_option maxHeartbeats 2000000 in
theorem chunk_any (x : TV) (w : World) (hx : x.ok w) : Calls Try.prog 30 #[.agg #[.int .i64 x.id, .int .i64 x.c, .int .i64 x.d, .int .i64 x.t, .int .i64 x.p, .slice x.a1 x.ch.length x.c1, .slice x.a2 x.us.length x.c2]] w fun e w' => ∃ m, e = .returned (.int .i64 m) ∧ IsMax (chunksOf x) m ∧ Below w.heap.size w w' := by
  have C : Hid (∀ v, Below w.heap.size w v → _) := fun v hb => chunks_under x w v hb hx
  have hp := Lib.hid (chunks_pos x)
  clear hx
  go_enter Try.func30, Try.ntmps30
  go_wp2_with (first
    | (go_at_call 34; (with_reducible refine (C.out _ (by repeat (first | exact Below.refl _ _ | (with_reducible assumption) | refine bw_alloc ?_ _ | refine bw_drew ?_))).mono ?_); rintro e w1 ⟨a, c, rfl, hi, hb, hl⟩; have M := Lib.hid (max_any a (chunksOf x).length c (chunksOf x) rfl hl hp.out w1 hi); have HB := Lib.hid hb; clear hi hb hl)
    | (go_at_call 51; (with_reducible refine (M.out).mono ?_); rintro e w2 ⟨m, rfl, hm, rfl⟩; have HM := Lib.hid hm; clear hm))
  go_ret
  exact ⟨m, rfl, HM.out, HB.out⟩

set_option maxRecDepth 100000 in
set_option maxHeartbeats 2000000 in
theorem rchunk_any (x : TV) (w : World) (hx : x.ok w) : Calls Try.prog 31 #[.agg #[.int .i64 x.id, .int .i64 x.c, .int .i64 x.d, .int .i64 x.t, .int .i64 x.p, .slice x.a1 x.ch.length x.c1, .slice x.a2 x.us.length x.c2]] w fun e w' => ∃ m, e = .returned (.int .i64 m) ∧ IsMax (chunksOf x) m ∧ Below w.heap.size w w' := by
  have hn9 : (x.ch.length : Int) ≤ 9223372036854775807 := by have := hx.l1; have := hx.m1; omega
  by_cases he : x.ch = []
  · have hC : chunksOf x = [x.c] := by unfold chunksOf; rw [if_pos he]
    rw [hC]
    have h0 : x.ch.length = 0 := by rw [he]; rfl
    clear he hC hx
    rw [h0]
    go_enter Try.func31, Try.ntmps31
    go_wp2_with fail
    go_ret
    exact ⟨x.c, rfl, ⟨by simp, fun z hz => by simp at hz; omega⟩, (by repeat (first | exact Below.refl _ _ | (with_reducible assumption) | refine bw_alloc ?_ _ | refine bw_drew ?_))⟩
  · have hC : chunksOf x = x.ch := by unfold chunksOf; rw [if_neg he]
    rw [hC]
    have hp : 0 < x.ch.length := List.length_pos_iff.2 he
    obtain ⟨x0, hx0⟩ := nth_of (rfl : x.ch.length = x.ch.length) hp
    have H := Lib.hid hx.one
    obtain ⟨g, o, ha, c0⟩ := hx.one.at_ hx0
    rw [Nat.add_zero] at c0
    have HA := Lib.hid ha
    rw [ha]
    have HM := Lib.hid (isMax_one hx0)
    have d1 : ((x.ch.length : Int) == 0) = false := by rw [beq_eq_false_iff_ne]; omega
    have h2 : (0 : Int) < (x.ch.length : Int) := by omega
    have hgl : g < w.heap.size := block_of_cell c0
    clear he hC hx hx0 ha
    generalize hn : x.ch.length = n at h2 hn9 d1 hp ⊢
    have HL := Lib.hid hn
    clear hn
    go_enter Try.func31, Try.ntmps31
    go_upto_region 1 with fail
    refine gen_world (fun v => Below w.heap.size w v ∧ v.cell? ⟨w.heap.size, 5, none⟩ = some (.slice (some ⟨g, o, none⟩) n x.c1)) ⟨(by repeat (first | exact Below.refl _ _ | (with_reducible assumption) | refine bw_alloc ?_ _ | refine bw_drew ?_)), by rw [World.cell?_alloc_new]; rfl⟩ ?_
    intro W1 ⟨hl1, b5⟩
    have HL1 := Lib.hid hl1
    have c0' := kept_cell hl1 c0
    clear hl1 c0
    go_wp2_with fail
    go_loop [3, 4] (fun v u => ∃ (k : Nat) (m : Int), k ≤ n ∧ u = .int .i64 k ∧ v = .int .i64 m ∧ Hid (m ∈ x.ch ∧ ∀ z ∈ x.ch.take k, z ≤ m)) (fun _ u => (n - intOf u).toNat)
    case atStart => exact ⟨0, x0, by omega, rfl, rfl, ⟨List.mem_of_mem_take HM.out.1, fun z hz => by simp at hz⟩⟩
    case round =>
      obtain ⟨k, m, hk, rfl, rfl, HS⟩ := hrel
      clear HM c0'
      by_cases hlt : k < n
      · obtain ⟨y, hy⟩ := nth_of HL.out hlt
        obtain ⟨g', o', e', c1⟩ := (H.out.below HL1.out).at_ hy
        rw [HA.out] at e'
        cases e'
        have hk1 : (k : Int) < (n : Int) := by omega
        have hk0 : (0 : Int) ≤ (k : Int) := by omega
        by_cases hle : m < y
        · have HS2 : Hid (y ∈ x.ch ∧ ∀ z ∈ x.ch.take (k + 1), z ≤ y) := ⟨List.mem_of_getElem? hy, fun z hz => by
            rw [List.take_add_one, hy] at hz
            rcases List.mem_append.1 hz with q | q
            · have := HS.out.2 z q; omega
            · simp at q; omega⟩
          clear hy HS
          go_wp2_with fail
          go_round
          case rel => exact ⟨k + 1, y, by omega, by go_num, rfl, HS2⟩
          case measure => simp [intOf]; omega
        · have HS2 : Hid (m ∈ x.ch ∧ ∀ z ∈ x.ch.take (k + 1), z ≤ m) := ⟨HS.out.1, fun z hz => by
            rw [List.take_add_one, hy] at hz
            rcases List.mem_append.1 hz with q | q
            · exact HS.out.2 z q
            · simp at q; omega⟩
          clear hy HS
          go_wp2_with fail
          go_round
          case rel => exact ⟨k + 1, m, by omega, by go_num, rfl, HS2⟩
          case measure => simp [intOf]; omega
      · obtain rfl : n = k := by omega
        have HF : Hid (IsMax x.ch m) := by
          have := HS.out
          rw [List.take_of_length_le (by rw [HL.out]; exact Nat.le_refl _)] at this
          exact this
        go_wp2_with fail
        go_ret
        exact ⟨m, rfl, HF.out, HL1.out⟩
end Go.Proofs.Ytknjldmpcokgfaa
