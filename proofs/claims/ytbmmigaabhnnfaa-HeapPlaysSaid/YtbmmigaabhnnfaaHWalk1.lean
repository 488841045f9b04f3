/-
  The walks over the small functions of a heap: who stands ahead, where a key is noted.
-/
import Derived.Test.YtbmmigaabhnnfaaHMem
import Derived.BigRegion
import Derived.RegionTactic
import Derived.StillTailTactics
import Derived.Deep.RegionLaw
namespace Go.Proofs.Ytbmmigaabhnnfaa
open Go.RowKit Go.Maps

set_option maxHeartbeats 400000 in
theorem less_any (a b : Int) (w : World) : Calls Try.prog 11 #[.int .i64 a, .int .i64 b] w fun e w' => e = .returned (.bool (decide (a < b))) ∧ w = w' := by
  go_enter Try.func11, Try.ntmps11
  go_wp2
  go_ret
  exact ⟨rfl, rfl⟩

theorem less_same (a b : Int) (w : World) : Calls Try.prog 11 #[.int .i64 a, .int .i64 b] w fun e w' => e = .returned (.bool (decide (a < b))) ∧ w' = w :=
  (less_any a b w).mono fun _ _ h => ⟨h.1, h.2.symm⟩

/-- Two entries beside a heap's order. -/
structure Two (sb p q : Nat) (xk xn yk yn : Int) (w v : World) : Prop where
  c0 : v.cell? ⟨sb, 0, none⟩ = some lessV
  p0 : v.cell? ⟨p, 0, none⟩ = some (.int .i64 xk)
  p1 : v.cell? ⟨p, 1, none⟩ = some (.int .i64 xn)
  q0 : v.cell? ⟨q, 0, none⟩ = some (.int .i64 yk)
  q1 : v.cell? ⟨q, 1, none⟩ = some (.int .i64 yn)
  low : Below w.heap.size w v

theorem two_new {sb : Nat} {xk xn yk yn : Int} {w : World} {T : TypeId} (c0 : w.cell? ⟨sb, 0, none⟩ = some lessV) : Two sb w.heap.size (w.heap.size + 1) xk xn yk yn w ((w.alloc (.cells #[.int .i64 xk, .int .i64 xn] T)).alloc (.cells #[.int .i64 yk, .int .i64 yn] T)).drew := by
  have hb : Below w.heap.size w ((w.alloc (.cells #[.int .i64 xk, .int .i64 xn] T)).alloc (.cells #[.int .i64 yk, .int .i64 yn] T)).drew := (((Below.refl _ _).alloc (Nat.le_refl _) _).alloc (by simp) _).drew
  exact ⟨kept_cell hb c0, by rw [World.cell?_drew, new_first]; rfl, by rw [World.cell?_drew, new_first]; rfl, by rw [World.cell?_drew, new_second]; rfl, by rw [World.cell?_drew, new_second]; rfl, hb⟩
theorem two_new' {sb : Nat} {xk xn yk yn : Int} {w : World} {T : TypeId} (c0 : w.cell? ⟨sb, 0, none⟩ = some lessV) : Two sb (w.heap.size + 1) w.heap.size xk xn yk yn w ((w.alloc (.cells #[.int .i64 yk, .int .i64 yn] T)).alloc (.cells #[.int .i64 xk, .int .i64 xn] T)).drew := by
  have hb : Below w.heap.size w ((w.alloc (.cells #[.int .i64 yk, .int .i64 yn] T)).alloc (.cells #[.int .i64 xk, .int .i64 xn] T)).drew := (((Below.refl _ _).alloc (Nat.le_refl _) _).alloc (by simp) _).drew
  exact ⟨kept_cell hb c0, by rw [World.cell?_drew, new_second]; rfl, by rw [World.cell?_drew, new_second]; rfl, by rw [World.cell?_drew, new_first]; rfl, by rw [World.cell?_drew, new_first]; rfl, hb⟩

set_option maxRecDepth 100000 in
set_option maxHeartbeats 2000000 in
theorem ahead_any (sb g n cap : Nat) (e : Nat → Int × Int) (mv : Value) (i j : Nat) (hi : i < n) (hj : j < n) (w : World) (hs : Str w sb (.slice (some ⟨g, 0, none⟩) n cap) mv) (hr : Row w g n cap e) (hn : (n : Int) ≤ 9223372036854775807) :
    Calls Try.prog 37 #[.pointer (some ⟨sb, 0, none⟩), .int .i64 i, .int .i64 j] w fun r w' => r = .returned (.bool (lt2 (e i) (e j))) ∧ Below w.heap.size w w' := by
  obtain ⟨c0, c1, _⟩ := hs.cells
  obtain ⟨i0, i1⟩ := hr.cells hi
  obtain ⟨j0, j1⟩ := hr.cells hj
  have hlt := lt2_iff (a := e i) (b := e j)
  generalize lt2 (e i) (e j) = q at hlt
  generalize e i = x at i0 i1 hlt
  generalize e j = y at j0 j1 hlt
  obtain ⟨xk, xn⟩ := x
  obtain ⟨yk, yn⟩ := y
  simp only at i0 i1 j0 j1 hlt
  have HQ := Lib.hid hlt
  have hi1 : (i : Int) < (n : Int) := by omega
  have hj1 : (j : Int) < (n : Int) := by omega
  have hi0 : (0 : Int) ≤ (i : Int) := by omega
  have hj0 : (0 : Int) ≤ (j : Int) := by omega
  have hsl := hs.lt
  have hgl := hr.lt
  clear hs hr hlt hi hj
  go_enter Try.func37, Try.ntmps37
  go_wp2
  go_region
  all_goals
    go_wp2
    first
      | refine gen_world (Two sb w.heap.size (w.heap.size + 1) xk xn yk yn w) (two_new c0) ?_
      | refine gen_world (Two sb (w.heap.size + 1) w.heap.size xk xn yk yn w) (two_new' c0) ?_
    intro W ⟨c0, p0, p1, q0, q1, hb⟩
    unfold lessV at c0
    have HB := Lib.hid hb
    clear hb i0 i1 j0 j1 hsl hgl c1
    rcases Int.lt_trichotomy xn yn with h | h | h
    · have d1 : decide (xn < yn) = true := decide_eq_true h
      have hq : q = true := HQ.out.2 (.inl h)
      go_quiet (fail)
      go_wp2
      go_ret
      exact ⟨by rw [hq]; rfl, below_draws HB.out rfl rfl rfl rfl⟩
    · subst h
      have d1 : decide (xn < xn) = false := decide_eq_false (by omega)
      have HZ : Hid (q = decide (xk < yk)) := by
        have := HQ.out
        show q = _
        rw [Bool.eq_iff_iff, decide_eq_true_iff, this]; simp
      have C := Lib.hid (fun w => less_same xk yk w)
      generalize decide (xk < yk) = z at HZ C
      clear HQ
      go_quiet ((go_at_call 11; exact Calls.quiet_of_same (C.out _)))
      go_wp2
      go_ret
      exact ⟨by rw [HZ.out]; rfl, below_draws HB.out rfl rfl rfl rfl⟩
    · have d1 : decide (xn < yn) = false := decide_eq_false (by omega)
      have d2 : (xn == yn) = false := by rw [beq_eq_false_iff_ne]; omega
      have hq : q = false := by
        have := HQ.out
        rw [← Bool.not_eq_true, this]; omega
      clear HQ
      go_quiet (fail)
      go_wp2
      go_ret
      exact ⟨by rw [hq]; rfl, below_draws HB.out rfl rfl rfl rfl⟩

end Go.Proofs.Ytbmmigaabhnnfaa
