/-
  The walks over chunks, and over the search for a set that may not be.
-/
import Derived.Test.YtknjldmpcokgfaaKW3
import Derived.Test.YtknjldmpcokgfaaKW1
namespace Go.Proofs.Ytknjldmpcokgfaa
open Go.RowKit Go.Maps

theorem ints_second (w : World) (o : Obj) (x : Int) (T : TypeId) : Ints ((w.alloc o).alloc (.cells #[.int .i64 x] T)) (some ⟨w.heap.size + 1, 0, none⟩) [x] := by
  have := ints_new (w.alloc o) x T
  rwa [World.size_alloc] at this
/-- The chunks of a task; without any, all of its work is one. -/
def chunksOf (x : TV) : List Int := if x.ch = [] then [x.c] else x.ch
/-- A row of numbers that comes back. -/
def RowBack (l : List Int) (w : World) (e : Ending) (w' : World) : Prop :=
  ∃ a c, e = .returned (.slice a l.length c) ∧ Ints w' a l ∧ Below w.heap.size w w' ∧ (l.length : Int) ≤ 9223372036854775807

/-- The same of chunks: one, or the task's own row. -/
def ChunksBack (x : TV) (w : World) (e : Ending) (w' : World) : Prop :=
  ∃ a c, e = .returned (.slice a (chunksOf x).length c) ∧ Ints w' a (chunksOf x) ∧ Below w.heap.size w w' ∧ ((chunksOf x).length : Int) ≤ 9223372036854775807 ∧ ((chunksOf x).length = 1 ∨ (a = x.a1 ∧ chunksOf x = x.ch))
set_option maxRecDepth 100000 in
set_option maxHeartbeats 1000000 in
theorem chunks_any (x : TV) (w : World) (hx : x.ok w) : Calls Try.prog 34 #[x.val] w (ChunksBack x w) := by
  obtain ⟨id, c, d, t, p, a1, ch, c1, a2, us, c2⟩ := x
  obtain ⟨i1, i2, l1, m1, l2, m2⟩ := hx
  simp only at i1 i2 l1 m1 l2 m2
  unfold TV.val
  have hC : chunksOf ⟨id, c, d, t, p, a1, ch, c1, a2, us, c2⟩ = if ch = [] then [c] else ch := rfl
  unfold ChunksBack
  rw [hC]
  clear hC
  simp only []
  by_cases h : ch = []
  · subst h
    rw [if_pos rfl]
    clear i1 i2
    go_enter Try.func34, Try.ntmps34
    go_wp2
    go_ret
    exact ⟨_, _, rfl, ints_second _ _ _ _, (by repeat (first | exact Below.refl _ _ | (with_reducible assumption) | refine bw_alloc ?_ _ | refine bw_drew ?_)), by simp, by simp⟩
  · rw [if_neg h]
    have hl : 0 < ch.length := List.length_pos_iff.2 h
    have d1 : ((ch.length : Int) == 0) = false := by rw [beq_eq_false_iff_ne]; omega
    have I1 := Lib.hid i1
    clear i1 i2 h
    go_enter Try.func34, Try.ntmps34
    go_wp2
    go_ret
    exact ⟨_, _, rfl, I1.out.below (by repeat (first | exact Below.refl _ _ | (with_reducible assumption) | refine bw_alloc ?_ _ | refine bw_drew ?_)), (by repeat (first | exact Below.refl _ _ | (with_reducible assumption) | refine bw_alloc ?_ _ | refine bw_drew ?_)), by omega, by simp⟩

/-- The same, over an elder world. -/
def RowUnder (l : List Int) (W : World) (e : Ending) (w' : World) : Prop :=
  ∃ a c, e = .returned (.slice a l.length c) ∧ Ints w' a l ∧ Below W.heap.size W w' ∧ (l.length : Int) ≤ 9223372036854775807
theorem chunks_under (x : TV) (W w : World) (hb : Below W.heap.size W w) (hx : x.ok W) : Calls Try.prog 34 #[.agg #[.int .i64 x.id, .int .i64 x.c, .int .i64 x.d, .int .i64 x.t, .int .i64 x.p, .slice x.a1 x.ch.length x.c1, .slice x.a2 x.us.length x.c2]] w (RowUnder (chunksOf x) W) :=
  (chunks_any x w (hx.below hb)).mono fun _ _ ⟨a, c, h1, h2, h3, h4, _⟩ => ⟨a, c, h1, h2, below_up hb h3, h4⟩
/-- A task in a box. -/
structure AtB (w : World) (g : Nat) (x : TV) : Prop where
  c0 : w.cell? ⟨g, 0, none⟩ = some (.int .i64 x.id)
  c1 : w.cell? ⟨g, 1, none⟩ = some (.int .i64 x.c)
  c2 : w.cell? ⟨g, 2, none⟩ = some (.int .i64 x.d)
  c3 : w.cell? ⟨g, 3, none⟩ = some (.int .i64 x.t)
  c4 : w.cell? ⟨g, 4, none⟩ = some (.int .i64 x.p)
  c5 : w.cell? ⟨g, 5, none⟩ = some (.slice x.a1 x.ch.length x.c1)
  c6 : w.cell? ⟨g, 6, none⟩ = some (.slice x.a2 x.us.length x.c2)
theorem AtB.below {w w' : World} {g : Nat} {x : TV} (h : AtB w g x) (hb : Below w.heap.size w w') : AtB w' g x :=
  ⟨kept_cell hb h.c0, kept_cell hb h.c1, kept_cell hb h.c2, kept_cell hb h.c3, kept_cell hb h.c4, kept_cell hb h.c5, kept_cell hb h.c6⟩
theorem atB_new (w : World) (x : TV) (T : TypeId) : AtB (w.alloc (.cells #[.int .i64 x.id, .int .i64 x.c, .int .i64 x.d, .int .i64 x.t, .int .i64 x.p, .slice x.a1 x.ch.length x.c1, .slice x.a2 x.us.length x.c2] T)) w.heap.size x :=
  ⟨by rw [World.cell?_alloc_new]; rfl, by rw [World.cell?_alloc_new]; rfl, by rw [World.cell?_alloc_new]; rfl, by rw [World.cell?_alloc_new]; rfl, by rw [World.cell?_alloc_new]; rfl, by rw [World.cell?_alloc_new]; rfl, by rw [World.cell?_alloc_new]; rfl⟩
theorem AtB.view {w : World} {g : Nat} {x : TV} (h : AtB w g x) : View w (some ⟨g, 0, none⟩) [x] := View.of_at ⟨h.c0, h.c1, h.c2, h.c3, h.c4, h.c5, h.c6⟩

/-- A set that may not be. -/
def badB (s : Int) (u : Int) : Bool := decide (u < 0 ∨ s ≤ u)
set_option maxHeartbeats 1000000 in
theorem bad_any (u s : Int) (b : Nat) (w : World) (h : w.cell? ⟨b, 0, none⟩ = some (.int .i64 s)) : Calls Try.prog 36 #[.int .i64 u, .pointer (some ⟨b, 0, none⟩)] w fun e w' => e = .returned (.bool (badB s u)) ∧ w = w' := by
  unfold badB
  by_cases h1 : u < 0
  · rw [decide_eq_true (.inl h1)]
    go_enter Try.func36, Try.ntmps36
    go_wp2
    go_ret
    exact ⟨rfl, rfl⟩
  · by_cases h2 : s ≤ u
    · rw [decide_eq_true (.inr h2)]
      go_enter Try.func36, Try.ntmps36
      go_wp2
      go_ret
      exact ⟨rfl, rfl⟩
    · rw [decide_eq_false (fun z => z.elim h1 h2)]
      go_enter Try.func36, Try.ntmps36
      go_wp2
      go_ret
      exact ⟨rfl, rfl⟩

theorem any_take {l : List Int} {f : Int → Bool} {k : Nat} {x : Int} (h : (l.take k).any f = false) (hx : l[k]? = some x) (hf : f x = false) : (l.take (k + 1)).any f = false := by
  rw [List.take_add_one, hx, List.any_append, h]
  simp [hf]
theorem any_found {l : List Int} {f : Int → Bool} {k : Nat} {x : Int} (hx : l[k]? = some x) (hf : f x = true) : l.any f = true :=
  List.any_eq_true.2 ⟨x, List.mem_of_getElem? hx, hf⟩
theorem any_all {l : List Int} {f : Int → Bool} {k : Nat} (h : (l.take k).any f = false) (hl : l.length = k) : l.any f = false := by
  rwa [List.take_of_length_le (by omega)] at h

/-- Where the first one is, if there is one. -/
def Found (l : List Int) (f : Int → Bool) (w : World) (e : Ending) (w' : World) : Prop :=
  ∃ z : Int, e = .returned (.int .i64 z) ∧ decide (0 ≤ z) = l.any f ∧ w = w'

set_option maxRecDepth 100000 in
set_option maxHeartbeats 2000000 in
theorem indexI_any (a : Option Addr) (n cap : Nat) (l : List Int) (hl : l.length = n) (hn : (n : Int) ≤ 9223372036854775807) (s : Int) (b : Nat) (w : World) (h : Ints w a l) (hb : w.cell? ⟨b, 0, none⟩ = some (.int .i64 s)) :
    Calls Try.prog 52 #[.slice a n cap, .func (.func 36) #[] #[.pointer (some ⟨b, 0, none⟩)]] w (Found l (badB s) w) := by
  have H := Lib.hid h
  have HL := Lib.hid hl
  have HB := Lib.hid hb
  clear h hl hb
  go_enter Try.func52, Try.ntmps52
  go_wp2_with fail
  go_loop [8] (fun u => ∃ k : Nat, k ≤ n ∧ u = .int .i64 k ∧ Hid ((l.take k).any (badB s) = false)) (fun u => (n - intOf u).toNat)
  case atStart => exact ⟨0, by omega, rfl, by show _ = _; simp⟩
  case round =>
    obtain ⟨k, hk, rfl, HS⟩ := hrel
    by_cases hlt : k < n
    · obtain ⟨x, hx⟩ := nth_of HL.out hlt
      obtain ⟨g, o, rfl, c0⟩ := H.out.at_ hx
      have hk1 : (k : Int) < (n : Int) := by omega
      have hk0 : (0 : Int) ≤ (k : Int) := by omega
      have C := Lib.hid (bad_any x s b w HB.out)
      by_cases hf : badB s x = true
      · have HF := Lib.hid (any_found hx hf)
        rw [hf] at C
        clear hx hf HS
        go_wp2_with (go_at_call 36; (with_reducible refine (C.out).mono ?_); rintro e w1 ⟨rfl, rfl⟩)
        go_ret
        exact ⟨_, rfl, by rw [HF.out]; simp, rfl⟩
      · have hf2 : badB s x = false := by simpa using hf
        have HS2 := Lib.hid (any_take HS.out hx hf2)
        rw [hf2] at C
        clear hx hf hf2 HS
        go_wp2_with (go_at_call 36; (with_reducible refine (C.out).mono ?_); rintro e w1 ⟨rfl, rfl⟩)
        go_round
        case rel => exact ⟨k + 1, by omega, by go_num, HS2⟩
        case measure => simp [intOf]; omega
    · obtain rfl : n = k := by omega
      have HF := Lib.hid (any_all HS.out HL.out)
      go_wp2_with fail
      go_ret
      exact ⟨_, rfl, by rw [HF.out]; simp, rfl⟩

set_option maxRecDepth 100000 in
set_option maxHeartbeats 1000000 in
theorem contains_any (a : Option Addr) (n cap : Nat) (l : List Int) (hl : l.length = n) (hn : (n : Int) ≤ 9223372036854775807) (s : Int) (b : Nat) (w : World) (h : Ints w a l) (hb : w.cell? ⟨b, 0, none⟩ = some (.int .i64 s)) :
    Calls Try.prog 35 #[.slice a n cap, .func (.func 36) #[] #[.pointer (some ⟨b, 0, none⟩)]] w fun e w' => e = .returned (.bool (l.any (badB s))) ∧ w = w' := by
  have C := Lib.hid (indexI_any a n cap l hl hn s b w h hb)
  clear h hb hl
  go_enter Try.func35, Try.ntmps35
  go_wp2_with (go_at_call 52; (with_reducible refine (C.out).mono ?_); rintro e w1 ⟨z, rfl, hz, rfl⟩; have HZ := Lib.hid hz; clear hz)
  go_ret
  rw [← HZ.out]
  exact ⟨rfl, rfl⟩
end Go.Proofs.Ytknjldmpcokgfaa
