/-
  The walks over the document's own answers: one number put in, taken out.
-/
import Derived.Test.YtigafpmhgogpmaaDoorBRef1
namespace Go.Proofs.YtigafpmhgogpmaaDoor
open Go.RowKit

theorem set4_results {w : World} {b y0 y1 y2 y3 : Nat} (h : Four w b y0 y1 y2 y3) (x0 x1 x2 x3 : Nat) :
    ((((w.setCell ⟨b, 0, none⟩ (.int .u64 x0)).setCell ⟨b, 1, none⟩ (.int .u64 x1)).setCell ⟨b, 2, none⟩ (.int .u64 x2)).setCell ⟨b, 3, none⟩ (.int .u64 x3)).cell? ⟨b, 0, none⟩ = some (.int .u64 x0) ∧
    ((((w.setCell ⟨b, 0, none⟩ (.int .u64 x0)).setCell ⟨b, 1, none⟩ (.int .u64 x1)).setCell ⟨b, 2, none⟩ (.int .u64 x2)).setCell ⟨b, 3, none⟩ (.int .u64 x3)).cell? ⟨b, 1, none⟩ = some (.int .u64 x1) ∧
    ((((w.setCell ⟨b, 0, none⟩ (.int .u64 x0)).setCell ⟨b, 1, none⟩ (.int .u64 x1)).setCell ⟨b, 2, none⟩ (.int .u64 x2)).setCell ⟨b, 3, none⟩ (.int .u64 x3)).cell? ⟨b, 2, none⟩ = some (.int .u64 x2) ∧
    ((((w.setCell ⟨b, 0, none⟩ (.int .u64 x0)).setCell ⟨b, 1, none⟩ (.int .u64 x1)).setCell ⟨b, 2, none⟩ (.int .u64 x2)).setCell ⟨b, 3, none⟩ (.int .u64 x3)).cell? ⟨b, 3, none⟩ = some (.int .u64 x3) := by
  obtain ⟨s0, s1, s2, s3, _, _, _, _⟩ := h.set4 x0 x1 x2 x3
  unfold set4 at s0 s1 s2 s3
  exact ⟨s0, s1, s2, s3⟩

set_option maxHeartbeats 2000000 in
theorem rwith_low (x0 x1 x2 x3 : Nat) (i : Int) (h : i < 0) (w : World)
    (C : Hid (∀ w, Calls Tryd.prog 12 #[.agg #[.int .u64 x0, .int .u64 x1, .int .u64 x2, .int .u64 x3], .int .i64 i] w fun e w' => e = .returned (.bool false) ∧ Below w.heap.size w w')) :
    Calls Tryd.prog 14 #[.agg #[.int .u64 x0, .int .u64 x1, .int .u64 x2, .int .u64 x3], .int .i64 i] w fun e w' => e = .returned (.agg #[.int .u64 x0, .int .u64 x1, .int .u64 x2, .int .u64 x3]) ∧ Below w.heap.size w w' := by
  have FA := Lib.hid ((Four.new w x0 x1 x2 x3 24).alloc (.cells #[.int .u64 0, .int .u64 0, .int .u64 0, .int .u64 0] 24))
  have FZ := Four.new (w.alloc (.cells #[.int .u64 x0, .int .u64 x1, .int .u64 x2, .int .u64 x3] 24)) 0 0 0 0 24
  rw [World.size_alloc] at FZ
  have FZ := Lib.hid FZ
  have HB := Lib.hid (((Below.refl w.heap.size w).alloc (Nat.le_refl _) (.cells #[.int .u64 x0, .int .u64 x1, .int .u64 x2, .int .u64 x3] 24)).alloc (by simp) (.cells #[.int .u64 0, .int .u64 0, .int .u64 0, .int .u64 0] 24))
  go_enter Tryd.func14, Tryd.ntmps14
  go_wp2_with (go_at_call 12; (refine (C.out _).mono ?_); rintro e w1 ⟨rfl, hw1⟩; have FA1 := Lib.hid (FA.out.kept hw1); have FZ1 := Lib.hid (FZ.out.kept hw1); have HB1 := Lib.hid (below_next hw1 HB.out (Nat.le_refl _)); obtain ⟨a0, a1, a2, a3, c0, c1, c2, c3⟩ := FA1.out; obtain ⟨z0, z1, z2, z3, v0, v1, v2, v3⟩ := FZ1.out; clear hw1)
  refine bodyPost_ret (v := .agg #[.int .u64 x0, .int .u64 x1, .int .u64 x2, .int .u64 x3]) ?_ rfl ⟨rfl, below_set4 HB1.out (by simp) x0 x1 x2 x3⟩
  obtain ⟨s0, s1, s2, s3⟩ := set4_results FZ1.out x0 x1 x2 x3
  simp [results, Tryd.results14, go_sem, s0, s1, s2, s3]

set_option maxHeartbeats 2000000 in
theorem rwith_high (x0 x1 x2 x3 : Nat) (i : Int) (h0 : 0 ≤ i) (h : 255 < i) (w : World)
    (C : Hid (∀ w, Calls Tryd.prog 12 #[.agg #[.int .u64 x0, .int .u64 x1, .int .u64 x2, .int .u64 x3], .int .i64 i] w fun e w' => e = .returned (.bool false) ∧ Below w.heap.size w w')) :
    Calls Tryd.prog 14 #[.agg #[.int .u64 x0, .int .u64 x1, .int .u64 x2, .int .u64 x3], .int .i64 i] w fun e w' => e = .returned (.agg #[.int .u64 x0, .int .u64 x1, .int .u64 x2, .int .u64 x3]) ∧ Below w.heap.size w w' := by
  have FA := Lib.hid ((Four.new w x0 x1 x2 x3 24).alloc (.cells #[.int .u64 0, .int .u64 0, .int .u64 0, .int .u64 0] 24))
  have FZ := Four.new (w.alloc (.cells #[.int .u64 x0, .int .u64 x1, .int .u64 x2, .int .u64 x3] 24)) 0 0 0 0 24
  rw [World.size_alloc] at FZ
  have FZ := Lib.hid FZ
  have HB := Lib.hid (((Below.refl w.heap.size w).alloc (Nat.le_refl _) (.cells #[.int .u64 x0, .int .u64 x1, .int .u64 x2, .int .u64 x3] 24)).alloc (by simp) (.cells #[.int .u64 0, .int .u64 0, .int .u64 0, .int .u64 0] 24))
  go_enter Tryd.func14, Tryd.ntmps14
  go_wp2_with (go_at_call 12; (refine (C.out _).mono ?_); rintro e w1 ⟨rfl, hw1⟩; have FA1 := Lib.hid (FA.out.kept hw1); have FZ1 := Lib.hid (FZ.out.kept hw1); have HB1 := Lib.hid (below_next hw1 HB.out (Nat.le_refl _)); obtain ⟨a0, a1, a2, a3, c0, c1, c2, c3⟩ := FA1.out; obtain ⟨z0, z1, z2, z3, v0, v1, v2, v3⟩ := FZ1.out; clear hw1)
  refine bodyPost_ret (v := .agg #[.int .u64 x0, .int .u64 x1, .int .u64 x2, .int .u64 x3]) ?_ rfl ⟨rfl, below_set4 HB1.out (by simp) x0 x1 x2 x3⟩
  obtain ⟨s0, s1, s2, s3⟩ := set4_results FZ1.out x0 x1 x2 x3
  simp [results, Tryd.results14, go_sem, s0, s1, s2, s3]

set_option maxHeartbeats 2000000 in
theorem rwith_same (x0 x1 x2 x3 : Nat) (i : Int) (h0 : 0 ≤ i) (h : i ≤ 255) (w : World)
    (C : Hid (∀ w, Calls Tryd.prog 12 #[.agg #[.int .u64 x0, .int .u64 x1, .int .u64 x2, .int .u64 x3], .int .i64 i] w fun e w' => e = .returned (.bool true) ∧ Below w.heap.size w w')) :
    Calls Tryd.prog 14 #[.agg #[.int .u64 x0, .int .u64 x1, .int .u64 x2, .int .u64 x3], .int .i64 i] w fun e w' => e = .returned (.agg #[.int .u64 x0, .int .u64 x1, .int .u64 x2, .int .u64 x3]) ∧ Below w.heap.size w w' := by
  have FA := Lib.hid ((Four.new w x0 x1 x2 x3 24).alloc (.cells #[.int .u64 0, .int .u64 0, .int .u64 0, .int .u64 0] 24))
  have FZ := Four.new (w.alloc (.cells #[.int .u64 x0, .int .u64 x1, .int .u64 x2, .int .u64 x3] 24)) 0 0 0 0 24
  rw [World.size_alloc] at FZ
  have FZ := Lib.hid FZ
  have HB := Lib.hid (((Below.refl w.heap.size w).alloc (Nat.le_refl _) (.cells #[.int .u64 x0, .int .u64 x1, .int .u64 x2, .int .u64 x3] 24)).alloc (by simp) (.cells #[.int .u64 0, .int .u64 0, .int .u64 0, .int .u64 0] 24))
  go_enter Tryd.func14, Tryd.ntmps14
  go_wp2_with (go_at_call 12; (refine (C.out _).mono ?_); rintro e w1 ⟨rfl, hw1⟩; have FA1 := Lib.hid (FA.out.kept hw1); have FZ1 := Lib.hid (FZ.out.kept hw1); have HB1 := Lib.hid (below_next hw1 HB.out (Nat.le_refl _)); obtain ⟨a0, a1, a2, a3, c0, c1, c2, c3⟩ := FA1.out; obtain ⟨z0, z1, z2, z3, v0, v1, v2, v3⟩ := FZ1.out; clear hw1)
  refine bodyPost_ret (v := .agg #[.int .u64 x0, .int .u64 x1, .int .u64 x2, .int .u64 x3]) ?_ rfl ⟨rfl, below_set4 HB1.out (by simp) x0 x1 x2 x3⟩
  obtain ⟨s0, s1, s2, s3⟩ := set4_results FZ1.out x0 x1 x2 x3
  simp [results, Tryd.results14, go_sem, s0, s1, s2, s3]

set_option maxHeartbeats 2000000 in
theorem rwith_0 (x0 x1 x2 x3 : Nat) (i : Int) (_h0 : 0 ≤ i) (_h255 : i ≤ 255) (h1 : i / 64 = 0) (j : Nat) (hj : j < 64) (h2 : i % 64 = j) (y : Nat) (hy : x0 + 2 ^ j = y) (hl : y < 18446744073709551616) (w : World)
    (C : Hid (∀ w, Calls Tryd.prog 12 #[.agg #[.int .u64 x0, .int .u64 x1, .int .u64 x2, .int .u64 x3], .int .i64 i] w fun e w' => e = .returned (.bool false) ∧ Below w.heap.size w w')) :
    Calls Tryd.prog 14 #[.agg #[.int .u64 x0, .int .u64 x1, .int .u64 x2, .int .u64 x3], .int .i64 i] w fun e w' => e = .returned (.agg #[.int .u64 y, .int .u64 x1, .int .u64 x2, .int .u64 x3]) ∧ Below w.heap.size w w' := by
  have FA := Lib.hid ((Four.new w x0 x1 x2 x3 24).alloc (.cells #[.int .u64 0, .int .u64 0, .int .u64 0, .int .u64 0] 24))
  have FZ := Four.new (w.alloc (.cells #[.int .u64 x0, .int .u64 x1, .int .u64 x2, .int .u64 x3] 24)) 0 0 0 0 24
  rw [World.size_alloc] at FZ
  have FZ := Lib.hid FZ
  have HB := Lib.hid (((Below.refl w.heap.size w).alloc (Nat.le_refl _) (.cells #[.int .u64 x0, .int .u64 x1, .int .u64 x2, .int .u64 x3] 24)).alloc (by simp) (.cells #[.int .u64 0, .int .u64 0, .int .u64 0, .int .u64 0] 24))
  have hs : IntKind.u64.wrap ((x0 : Int) + ((2 ^ j : Nat) : Int)) = (y : Int) := by rw [← Int.natCast_add, hy]; exact u64_nat y hl
  have pw := pow_wrap hj
  clear hl hy
  generalize (2 : Nat) ^ j = z at pw hs
  go_enter Tryd.func14, Tryd.ntmps14
  go_wp2_with (go_at_call 12; (refine (C.out _).mono ?_); rintro e w1 ⟨rfl, hw1⟩; have FA1 := Lib.hid (FA.out.kept hw1); have FZ1 := Lib.hid (FZ.out.kept hw1); have HB1 := Lib.hid (below_next hw1 HB.out (Nat.le_refl _)); obtain ⟨a0, a1, a2, a3, c0, c1, c2, c3⟩ := FA1.out; obtain ⟨z0, z1, z2, z3, v0, v1, v2, v3⟩ := FZ1.out; clear hw1)
  refine bodyPost_ret (v := .agg #[.int .u64 y, .int .u64 x1, .int .u64 x2, .int .u64 x3]) ?_ rfl ⟨rfl, below_set4 (HB1.out.setCell (p := ⟨w.heap.size, 0, none⟩) (Nat.le_refl _) _) (by simp) y x1 x2 x3⟩
  obtain ⟨s0, s1, s2, s3⟩ := set4_results (FZ1.out.far (p := ⟨w.heap.size, 0, none⟩) (by simp) (.int .u64 y)) y x1 x2 x3
  simp [results, Tryd.results14, go_sem, s0, s1, s2, s3]

set_option maxHeartbeats 2000000 in
theorem rwith_1 (x0 x1 x2 x3 : Nat) (i : Int) (_h0 : 0 ≤ i) (_h255 : i ≤ 255) (h1 : i / 64 = 1) (j : Nat) (hj : j < 64) (h2 : i % 64 = j) (y : Nat) (hy : x1 + 2 ^ j = y) (hl : y < 18446744073709551616) (w : World)
    (C : Hid (∀ w, Calls Tryd.prog 12 #[.agg #[.int .u64 x0, .int .u64 x1, .int .u64 x2, .int .u64 x3], .int .i64 i] w fun e w' => e = .returned (.bool false) ∧ Below w.heap.size w w')) :
    Calls Tryd.prog 14 #[.agg #[.int .u64 x0, .int .u64 x1, .int .u64 x2, .int .u64 x3], .int .i64 i] w fun e w' => e = .returned (.agg #[.int .u64 x0, .int .u64 y, .int .u64 x2, .int .u64 x3]) ∧ Below w.heap.size w w' := by
  have FA := Lib.hid ((Four.new w x0 x1 x2 x3 24).alloc (.cells #[.int .u64 0, .int .u64 0, .int .u64 0, .int .u64 0] 24))
  have FZ := Four.new (w.alloc (.cells #[.int .u64 x0, .int .u64 x1, .int .u64 x2, .int .u64 x3] 24)) 0 0 0 0 24
  rw [World.size_alloc] at FZ
  have FZ := Lib.hid FZ
  have HB := Lib.hid (((Below.refl w.heap.size w).alloc (Nat.le_refl _) (.cells #[.int .u64 x0, .int .u64 x1, .int .u64 x2, .int .u64 x3] 24)).alloc (by simp) (.cells #[.int .u64 0, .int .u64 0, .int .u64 0, .int .u64 0] 24))
  have hs : IntKind.u64.wrap ((x1 : Int) + ((2 ^ j : Nat) : Int)) = (y : Int) := by rw [← Int.natCast_add, hy]; exact u64_nat y hl
  have pw := pow_wrap hj
  clear hl hy
  generalize (2 : Nat) ^ j = z at pw hs
  go_enter Tryd.func14, Tryd.ntmps14
  go_wp2_with (go_at_call 12; (refine (C.out _).mono ?_); rintro e w1 ⟨rfl, hw1⟩; have FA1 := Lib.hid (FA.out.kept hw1); have FZ1 := Lib.hid (FZ.out.kept hw1); have HB1 := Lib.hid (below_next hw1 HB.out (Nat.le_refl _)); obtain ⟨a0, a1, a2, a3, c0, c1, c2, c3⟩ := FA1.out; obtain ⟨z0, z1, z2, z3, v0, v1, v2, v3⟩ := FZ1.out; clear hw1)
  refine bodyPost_ret (v := .agg #[.int .u64 x0, .int .u64 y, .int .u64 x2, .int .u64 x3]) ?_ rfl ⟨rfl, below_set4 (HB1.out.setCell (p := ⟨w.heap.size, 1, none⟩) (Nat.le_refl _) _) (by simp) x0 y x2 x3⟩
  obtain ⟨s0, s1, s2, s3⟩ := set4_results (FZ1.out.far (p := ⟨w.heap.size, 1, none⟩) (by simp) (.int .u64 y)) x0 y x2 x3
  simp [results, Tryd.results14, go_sem, s0, s1, s2, s3]

set_option maxHeartbeats 2000000 in
theorem rwith_2 (x0 x1 x2 x3 : Nat) (i : Int) (_h0 : 0 ≤ i) (_h255 : i ≤ 255) (h1 : i / 64 = 2) (j : Nat) (hj : j < 64) (h2 : i % 64 = j) (y : Nat) (hy : x2 + 2 ^ j = y) (hl : y < 18446744073709551616) (w : World)
    (C : Hid (∀ w, Calls Tryd.prog 12 #[.agg #[.int .u64 x0, .int .u64 x1, .int .u64 x2, .int .u64 x3], .int .i64 i] w fun e w' => e = .returned (.bool false) ∧ Below w.heap.size w w')) :
    Calls Tryd.prog 14 #[.agg #[.int .u64 x0, .int .u64 x1, .int .u64 x2, .int .u64 x3], .int .i64 i] w fun e w' => e = .returned (.agg #[.int .u64 x0, .int .u64 x1, .int .u64 y, .int .u64 x3]) ∧ Below w.heap.size w w' := by
  have FA := Lib.hid ((Four.new w x0 x1 x2 x3 24).alloc (.cells #[.int .u64 0, .int .u64 0, .int .u64 0, .int .u64 0] 24))
  have FZ := Four.new (w.alloc (.cells #[.int .u64 x0, .int .u64 x1, .int .u64 x2, .int .u64 x3] 24)) 0 0 0 0 24
  rw [World.size_alloc] at FZ
  have FZ := Lib.hid FZ
  have HB := Lib.hid (((Below.refl w.heap.size w).alloc (Nat.le_refl _) (.cells #[.int .u64 x0, .int .u64 x1, .int .u64 x2, .int .u64 x3] 24)).alloc (by simp) (.cells #[.int .u64 0, .int .u64 0, .int .u64 0, .int .u64 0] 24))
  have hs : IntKind.u64.wrap ((x2 : Int) + ((2 ^ j : Nat) : Int)) = (y : Int) := by rw [← Int.natCast_add, hy]; exact u64_nat y hl
  have pw := pow_wrap hj
  clear hl hy
  generalize (2 : Nat) ^ j = z at pw hs
  go_enter Tryd.func14, Tryd.ntmps14
  go_wp2_with (go_at_call 12; (refine (C.out _).mono ?_); rintro e w1 ⟨rfl, hw1⟩; have FA1 := Lib.hid (FA.out.kept hw1); have FZ1 := Lib.hid (FZ.out.kept hw1); have HB1 := Lib.hid (below_next hw1 HB.out (Nat.le_refl _)); obtain ⟨a0, a1, a2, a3, c0, c1, c2, c3⟩ := FA1.out; obtain ⟨z0, z1, z2, z3, v0, v1, v2, v3⟩ := FZ1.out; clear hw1)
  refine bodyPost_ret (v := .agg #[.int .u64 x0, .int .u64 x1, .int .u64 y, .int .u64 x3]) ?_ rfl ⟨rfl, below_set4 (HB1.out.setCell (p := ⟨w.heap.size, 2, none⟩) (Nat.le_refl _) _) (by simp) x0 x1 y x3⟩
  obtain ⟨s0, s1, s2, s3⟩ := set4_results (FZ1.out.far (p := ⟨w.heap.size, 2, none⟩) (by simp) (.int .u64 y)) x0 x1 y x3
  simp [results, Tryd.results14, go_sem, s0, s1, s2, s3]

set_option maxHeartbeats 2000000 in
theorem rwith_3 (x0 x1 x2 x3 : Nat) (i : Int) (_h0 : 0 ≤ i) (_h255 : i ≤ 255) (h1 : i / 64 = 3) (j : Nat) (hj : j < 64) (h2 : i % 64 = j) (y : Nat) (hy : x3 + 2 ^ j = y) (hl : y < 18446744073709551616) (w : World)
    (C : Hid (∀ w, Calls Tryd.prog 12 #[.agg #[.int .u64 x0, .int .u64 x1, .int .u64 x2, .int .u64 x3], .int .i64 i] w fun e w' => e = .returned (.bool false) ∧ Below w.heap.size w w')) :
    Calls Tryd.prog 14 #[.agg #[.int .u64 x0, .int .u64 x1, .int .u64 x2, .int .u64 x3], .int .i64 i] w fun e w' => e = .returned (.agg #[.int .u64 x0, .int .u64 x1, .int .u64 x2, .int .u64 y]) ∧ Below w.heap.size w w' := by
  have FA := Lib.hid ((Four.new w x0 x1 x2 x3 24).alloc (.cells #[.int .u64 0, .int .u64 0, .int .u64 0, .int .u64 0] 24))
  have FZ := Four.new (w.alloc (.cells #[.int .u64 x0, .int .u64 x1, .int .u64 x2, .int .u64 x3] 24)) 0 0 0 0 24
  rw [World.size_alloc] at FZ
  have FZ := Lib.hid FZ
  have HB := Lib.hid (((Below.refl w.heap.size w).alloc (Nat.le_refl _) (.cells #[.int .u64 x0, .int .u64 x1, .int .u64 x2, .int .u64 x3] 24)).alloc (by simp) (.cells #[.int .u64 0, .int .u64 0, .int .u64 0, .int .u64 0] 24))
  have hs : IntKind.u64.wrap ((x3 : Int) + ((2 ^ j : Nat) : Int)) = (y : Int) := by rw [← Int.natCast_add, hy]; exact u64_nat y hl
  have pw := pow_wrap hj
  clear hl hy
  generalize (2 : Nat) ^ j = z at pw hs
  go_enter Tryd.func14, Tryd.ntmps14
  go_wp2_with (go_at_call 12; (refine (C.out _).mono ?_); rintro e w1 ⟨rfl, hw1⟩; have FA1 := Lib.hid (FA.out.kept hw1); have FZ1 := Lib.hid (FZ.out.kept hw1); have HB1 := Lib.hid (below_next hw1 HB.out (Nat.le_refl _)); obtain ⟨a0, a1, a2, a3, c0, c1, c2, c3⟩ := FA1.out; obtain ⟨z0, z1, z2, z3, v0, v1, v2, v3⟩ := FZ1.out; clear hw1)
  refine bodyPost_ret (v := .agg #[.int .u64 x0, .int .u64 x1, .int .u64 x2, .int .u64 y]) ?_ rfl ⟨rfl, below_set4 (HB1.out.setCell (p := ⟨w.heap.size, 3, none⟩) (Nat.le_refl _) _) (by simp) x0 x1 x2 y⟩
  obtain ⟨s0, s1, s2, s3⟩ := set4_results (FZ1.out.far (p := ⟨w.heap.size, 3, none⟩) (by simp) (.int .u64 y)) x0 x1 x2 y
  simp [results, Tryd.results14, go_sem, s0, s1, s2, s3]

set_option maxHeartbeats 2000000 in
theorem rwithout_same (x0 x1 x2 x3 : Nat) (i : Int)  (w : World)
    (C : Hid (∀ w, Calls Tryd.prog 12 #[.agg #[.int .u64 x0, .int .u64 x1, .int .u64 x2, .int .u64 x3], .int .i64 i] w fun e w' => e = .returned (.bool false) ∧ Below w.heap.size w w')) :
    Calls Tryd.prog 16 #[.agg #[.int .u64 x0, .int .u64 x1, .int .u64 x2, .int .u64 x3], .int .i64 i] w fun e w' => e = .returned (.agg #[.int .u64 x0, .int .u64 x1, .int .u64 x2, .int .u64 x3]) ∧ Below w.heap.size w w' := by
  have FA := Lib.hid ((Four.new w x0 x1 x2 x3 24).alloc (.cells #[.int .u64 0, .int .u64 0, .int .u64 0, .int .u64 0] 24))
  have FZ := Four.new (w.alloc (.cells #[.int .u64 x0, .int .u64 x1, .int .u64 x2, .int .u64 x3] 24)) 0 0 0 0 24
  rw [World.size_alloc] at FZ
  have FZ := Lib.hid FZ
  have HB := Lib.hid (((Below.refl w.heap.size w).alloc (Nat.le_refl _) (.cells #[.int .u64 x0, .int .u64 x1, .int .u64 x2, .int .u64 x3] 24)).alloc (by simp) (.cells #[.int .u64 0, .int .u64 0, .int .u64 0, .int .u64 0] 24))
  go_enter Tryd.func16, Tryd.ntmps16
  go_wp2_with (go_at_call 12; (refine (C.out _).mono ?_); rintro e w1 ⟨rfl, hw1⟩; have FA1 := Lib.hid (FA.out.kept hw1); have FZ1 := Lib.hid (FZ.out.kept hw1); have HB1 := Lib.hid (below_next hw1 HB.out (Nat.le_refl _)); obtain ⟨a0, a1, a2, a3, c0, c1, c2, c3⟩ := FA1.out; obtain ⟨z0, z1, z2, z3, v0, v1, v2, v3⟩ := FZ1.out; clear hw1)
  refine bodyPost_ret (v := .agg #[.int .u64 x0, .int .u64 x1, .int .u64 x2, .int .u64 x3]) ?_ rfl ⟨rfl, below_set4 HB1.out (by simp) x0 x1 x2 x3⟩
  obtain ⟨s0, s1, s2, s3⟩ := set4_results FZ1.out x0 x1 x2 x3
  simp [results, Tryd.results16, go_sem, s0, s1, s2, s3]

set_option maxHeartbeats 2000000 in
theorem rwithout_0 (x0 x1 x2 x3 : Nat) (i : Int) (_h0 : 0 ≤ i) (_h255 : i ≤ 255) (h1 : i / 64 = 0) (j : Nat) (hj : j < 64) (h2 : i % 64 = j) (y : Nat) (hy : x0 = y + 2 ^ j) (hl : y < 18446744073709551616) (w : World)
    (C : Hid (∀ w, Calls Tryd.prog 12 #[.agg #[.int .u64 x0, .int .u64 x1, .int .u64 x2, .int .u64 x3], .int .i64 i] w fun e w' => e = .returned (.bool true) ∧ Below w.heap.size w w')) :
    Calls Tryd.prog 16 #[.agg #[.int .u64 x0, .int .u64 x1, .int .u64 x2, .int .u64 x3], .int .i64 i] w fun e w' => e = .returned (.agg #[.int .u64 y, .int .u64 x1, .int .u64 x2, .int .u64 x3]) ∧ Below w.heap.size w w' := by
  have FA := Lib.hid ((Four.new w x0 x1 x2 x3 24).alloc (.cells #[.int .u64 0, .int .u64 0, .int .u64 0, .int .u64 0] 24))
  have FZ := Four.new (w.alloc (.cells #[.int .u64 x0, .int .u64 x1, .int .u64 x2, .int .u64 x3] 24)) 0 0 0 0 24
  rw [World.size_alloc] at FZ
  have FZ := Lib.hid FZ
  have HB := Lib.hid (((Below.refl w.heap.size w).alloc (Nat.le_refl _) (.cells #[.int .u64 x0, .int .u64 x1, .int .u64 x2, .int .u64 x3] 24)).alloc (by simp) (.cells #[.int .u64 0, .int .u64 0, .int .u64 0, .int .u64 0] 24))
  have hs : IntKind.u64.wrap ((x0 : Int) - ((2 ^ j : Nat) : Int)) = (y : Int) := by rw [hy, Int.natCast_add, Int.add_sub_cancel]; exact u64_nat y hl
  have pw := pow_wrap hj
  clear hl hy
  generalize (2 : Nat) ^ j = z at pw hs
  go_enter Tryd.func16, Tryd.ntmps16
  go_wp2_with (go_at_call 12; (refine (C.out _).mono ?_); rintro e w1 ⟨rfl, hw1⟩; have FA1 := Lib.hid (FA.out.kept hw1); have FZ1 := Lib.hid (FZ.out.kept hw1); have HB1 := Lib.hid (below_next hw1 HB.out (Nat.le_refl _)); obtain ⟨a0, a1, a2, a3, c0, c1, c2, c3⟩ := FA1.out; obtain ⟨z0, z1, z2, z3, v0, v1, v2, v3⟩ := FZ1.out; clear hw1)
  refine bodyPost_ret (v := .agg #[.int .u64 y, .int .u64 x1, .int .u64 x2, .int .u64 x3]) ?_ rfl ⟨rfl, below_set4 (HB1.out.setCell (p := ⟨w.heap.size, 0, none⟩) (Nat.le_refl _) _) (by simp) y x1 x2 x3⟩
  obtain ⟨s0, s1, s2, s3⟩ := set4_results (FZ1.out.far (p := ⟨w.heap.size, 0, none⟩) (by simp) (.int .u64 y)) y x1 x2 x3
  simp [results, Tryd.results16, go_sem, s0, s1, s2, s3]

set_option maxHeartbeats 2000000 in
theorem rwithout_1 (x0 x1 x2 x3 : Nat) (i : Int) (_h0 : 0 ≤ i) (_h255 : i ≤ 255) (h1 : i / 64 = 1) (j : Nat) (hj : j < 64) (h2 : i % 64 = j) (y : Nat) (hy : x1 = y + 2 ^ j) (hl : y < 18446744073709551616) (w : World)
    (C : Hid (∀ w, Calls Tryd.prog 12 #[.agg #[.int .u64 x0, .int .u64 x1, .int .u64 x2, .int .u64 x3], .int .i64 i] w fun e w' => e = .returned (.bool true) ∧ Below w.heap.size w w')) :
    Calls Tryd.prog 16 #[.agg #[.int .u64 x0, .int .u64 x1, .int .u64 x2, .int .u64 x3], .int .i64 i] w fun e w' => e = .returned (.agg #[.int .u64 x0, .int .u64 y, .int .u64 x2, .int .u64 x3]) ∧ Below w.heap.size w w' := by
  have FA := Lib.hid ((Four.new w x0 x1 x2 x3 24).alloc (.cells #[.int .u64 0, .int .u64 0, .int .u64 0, .int .u64 0] 24))
  have FZ := Four.new (w.alloc (.cells #[.int .u64 x0, .int .u64 x1, .int .u64 x2, .int .u64 x3] 24)) 0 0 0 0 24
  rw [World.size_alloc] at FZ
  have FZ := Lib.hid FZ
  have HB := Lib.hid (((Below.refl w.heap.size w).alloc (Nat.le_refl _) (.cells #[.int .u64 x0, .int .u64 x1, .int .u64 x2, .int .u64 x3] 24)).alloc (by simp) (.cells #[.int .u64 0, .int .u64 0, .int .u64 0, .int .u64 0] 24))
  have hs : IntKind.u64.wrap ((x1 : Int) - ((2 ^ j : Nat) : Int)) = (y : Int) := by rw [hy, Int.natCast_add, Int.add_sub_cancel]; exact u64_nat y hl
  have pw := pow_wrap hj
  clear hl hy
  generalize (2 : Nat) ^ j = z at pw hs
  go_enter Tryd.func16, Tryd.ntmps16
  go_wp2_with (go_at_call 12; (refine (C.out _).mono ?_); rintro e w1 ⟨rfl, hw1⟩; have FA1 := Lib.hid (FA.out.kept hw1); have FZ1 := Lib.hid (FZ.out.kept hw1); have HB1 := Lib.hid (below_next hw1 HB.out (Nat.le_refl _)); obtain ⟨a0, a1, a2, a3, c0, c1, c2, c3⟩ := FA1.out; obtain ⟨z0, z1, z2, z3, v0, v1, v2, v3⟩ := FZ1.out; clear hw1)
  refine bodyPost_ret (v := .agg #[.int .u64 x0, .int .u64 y, .int .u64 x2, .int .u64 x3]) ?_ rfl ⟨rfl, below_set4 (HB1.out.setCell (p := ⟨w.heap.size, 1, none⟩) (Nat.le_refl _) _) (by simp) x0 y x2 x3⟩
  obtain ⟨s0, s1, s2, s3⟩ := set4_results (FZ1.out.far (p := ⟨w.heap.size, 1, none⟩) (by simp) (.int .u64 y)) x0 y x2 x3
  simp [results, Tryd.results16, go_sem, s0, s1, s2, s3]

set_option maxHeartbeats 2000000 in
theorem rwithout_2 (x0 x1 x2 x3 : Nat) (i : Int) (_h0 : 0 ≤ i) (_h255 : i ≤ 255) (h1 : i / 64 = 2) (j : Nat) (hj : j < 64) (h2 : i % 64 = j) (y : Nat) (hy : x2 = y + 2 ^ j) (hl : y < 18446744073709551616) (w : World)
    (C : Hid (∀ w, Calls Tryd.prog 12 #[.agg #[.int .u64 x0, .int .u64 x1, .int .u64 x2, .int .u64 x3], .int .i64 i] w fun e w' => e = .returned (.bool true) ∧ Below w.heap.size w w')) :
    Calls Tryd.prog 16 #[.agg #[.int .u64 x0, .int .u64 x1, .int .u64 x2, .int .u64 x3], .int .i64 i] w fun e w' => e = .returned (.agg #[.int .u64 x0, .int .u64 x1, .int .u64 y, .int .u64 x3]) ∧ Below w.heap.size w w' := by
  have FA := Lib.hid ((Four.new w x0 x1 x2 x3 24).alloc (.cells #[.int .u64 0, .int .u64 0, .int .u64 0, .int .u64 0] 24))
  have FZ := Four.new (w.alloc (.cells #[.int .u64 x0, .int .u64 x1, .int .u64 x2, .int .u64 x3] 24)) 0 0 0 0 24
  rw [World.size_alloc] at FZ
  have FZ := Lib.hid FZ
  have HB := Lib.hid (((Below.refl w.heap.size w).alloc (Nat.le_refl _) (.cells #[.int .u64 x0, .int .u64 x1, .int .u64 x2, .int .u64 x3] 24)).alloc (by simp) (.cells #[.int .u64 0, .int .u64 0, .int .u64 0, .int .u64 0] 24))
  have hs : IntKind.u64.wrap ((x2 : Int) - ((2 ^ j : Nat) : Int)) = (y : Int) := by rw [hy, Int.natCast_add, Int.add_sub_cancel]; exact u64_nat y hl
  have pw := pow_wrap hj
  clear hl hy
  generalize (2 : Nat) ^ j = z at pw hs
  go_enter Tryd.func16, Tryd.ntmps16
  go_wp2_with (go_at_call 12; (refine (C.out _).mono ?_); rintro e w1 ⟨rfl, hw1⟩; have FA1 := Lib.hid (FA.out.kept hw1); have FZ1 := Lib.hid (FZ.out.kept hw1); have HB1 := Lib.hid (below_next hw1 HB.out (Nat.le_refl _)); obtain ⟨a0, a1, a2, a3, c0, c1, c2, c3⟩ := FA1.out; obtain ⟨z0, z1, z2, z3, v0, v1, v2, v3⟩ := FZ1.out; clear hw1)
  refine bodyPost_ret (v := .agg #[.int .u64 x0, .int .u64 x1, .int .u64 y, .int .u64 x3]) ?_ rfl ⟨rfl, below_set4 (HB1.out.setCell (p := ⟨w.heap.size, 2, none⟩) (Nat.le_refl _) _) (by simp) x0 x1 y x3⟩
  obtain ⟨s0, s1, s2, s3⟩ := set4_results (FZ1.out.far (p := ⟨w.heap.size, 2, none⟩) (by simp) (.int .u64 y)) x0 x1 y x3
  simp [results, Tryd.results16, go_sem, s0, s1, s2, s3]

set_option maxHeartbeats 2000000 in
theorem rwithout_3 (x0 x1 x2 x3 : Nat) (i : Int) (_h0 : 0 ≤ i) (_h255 : i ≤ 255) (h1 : i / 64 = 3) (j : Nat) (hj : j < 64) (h2 : i % 64 = j) (y : Nat) (hy : x3 = y + 2 ^ j) (hl : y < 18446744073709551616) (w : World)
    (C : Hid (∀ w, Calls Tryd.prog 12 #[.agg #[.int .u64 x0, .int .u64 x1, .int .u64 x2, .int .u64 x3], .int .i64 i] w fun e w' => e = .returned (.bool true) ∧ Below w.heap.size w w')) :
    Calls Tryd.prog 16 #[.agg #[.int .u64 x0, .int .u64 x1, .int .u64 x2, .int .u64 x3], .int .i64 i] w fun e w' => e = .returned (.agg #[.int .u64 x0, .int .u64 x1, .int .u64 x2, .int .u64 y]) ∧ Below w.heap.size w w' := by
  have FA := Lib.hid ((Four.new w x0 x1 x2 x3 24).alloc (.cells #[.int .u64 0, .int .u64 0, .int .u64 0, .int .u64 0] 24))
  have FZ := Four.new (w.alloc (.cells #[.int .u64 x0, .int .u64 x1, .int .u64 x2, .int .u64 x3] 24)) 0 0 0 0 24
  rw [World.size_alloc] at FZ
  have FZ := Lib.hid FZ
  have HB := Lib.hid (((Below.refl w.heap.size w).alloc (Nat.le_refl _) (.cells #[.int .u64 x0, .int .u64 x1, .int .u64 x2, .int .u64 x3] 24)).alloc (by simp) (.cells #[.int .u64 0, .int .u64 0, .int .u64 0, .int .u64 0] 24))
  have hs : IntKind.u64.wrap ((x3 : Int) - ((2 ^ j : Nat) : Int)) = (y : Int) := by rw [hy, Int.natCast_add, Int.add_sub_cancel]; exact u64_nat y hl
  have pw := pow_wrap hj
  clear hl hy
  generalize (2 : Nat) ^ j = z at pw hs
  go_enter Tryd.func16, Tryd.ntmps16
  go_wp2_with (go_at_call 12; (refine (C.out _).mono ?_); rintro e w1 ⟨rfl, hw1⟩; have FA1 := Lib.hid (FA.out.kept hw1); have FZ1 := Lib.hid (FZ.out.kept hw1); have HB1 := Lib.hid (below_next hw1 HB.out (Nat.le_refl _)); obtain ⟨a0, a1, a2, a3, c0, c1, c2, c3⟩ := FA1.out; obtain ⟨z0, z1, z2, z3, v0, v1, v2, v3⟩ := FZ1.out; clear hw1)
  refine bodyPost_ret (v := .agg #[.int .u64 x0, .int .u64 x1, .int .u64 x2, .int .u64 y]) ?_ rfl ⟨rfl, below_set4 (HB1.out.setCell (p := ⟨w.heap.size, 3, none⟩) (Nat.le_refl _) _) (by simp) x0 x1 x2 y⟩
  obtain ⟨s0, s1, s2, s3⟩ := set4_results (FZ1.out.far (p := ⟨w.heap.size, 3, none⟩) (by simp) (.int .u64 y)) x0 x1 x2 y
  simp [results, Tryd.results16, go_sem, s0, s1, s2, s3]

theorem with_no {p : Nat → Bool} {i : Int} (h : hasP p i = true ∨ i < 0 ∨ 255 < i) {k : Nat} (hk : k < 4) : wd (orP p (oneP i)) k = wd p k :=
  wd_congr (fun x hx => by
    unfold orP oneP
    by_cases e : (x : Int) = i
    · subst e
      rcases h with h | h | h
      · have : p x = true := by simpa [hasP, show (x : Int) ≤ 255 by omega] using h
        simp [this]
      · omega
      · omega
    · simp [e]) hk
theorem with_yes {p : Nat → Bool} {i : Int} {k j : Nat} (hi : i = ((64 * k + j : Nat) : Int)) (hj : j < 64) (hk : k < 4) (h : hasP p i = false) :
    wd p k + 2 ^ j = wd (orP p (oneP i)) k ∧ ∀ k', k' ≠ k → wd (orP p (oneP i)) k' = wd p k' := by
  refine ⟨?_, fun k' hk' => wd_or_far fun j' hj' => by omega⟩
  have h3 : p (64 * k + j) = false := by
    have := h
    unfold hasP at this
    rw [decide_eq_true (⟨by omega, by omega⟩ : 0 ≤ i ∧ i ≤ 255), Bool.true_and] at this
    rw [show 64 * k + j = i.toNat by omega]; exact this
  rw [hi]; exact wd_put hj h3

theorem rwith_any (p : Nat → Bool) (i : Int) (w : World) :
    Calls Tryd.prog 14 #[.agg #[.int .u64 (wd p 0), .int .u64 (wd p 1), .int .u64 (wd p 2), .int .u64 (wd p 3)], .int .i64 i] w fun e w' => e = .returned (.agg #[.int .u64 (wd (orP p (oneP i)) 0), .int .u64 (wd (orP p (oneP i)) 1), .int .u64 (wd (orP p (oneP i)) 2), .int .u64 (wd (orP p (oneP i)) 3)]) ∧ Below w.heap.size w w' := by
  have C := Lib.hid (fun w => rhas_any p i w)
  rcases (show i < 0 ∨ (0 ≤ i ∧ 255 < i) ∨ (0 ≤ i ∧ i ≤ 255) by omega) with h | ⟨h0, h⟩ | ⟨h0, h1⟩
  · rw [hasP_out (.inl h)] at C
    rw [with_no (.inr (.inl h)) (k := 0) (by omega), with_no (.inr (.inl h)) (k := 1) (by omega), with_no (.inr (.inl h)) (k := 2) (by omega), with_no (.inr (.inl h)) (k := 3) (by omega)]
    exact rwith_low _ _ _ _ i h w C
  · rw [hasP_out (.inr h)] at C
    rw [with_no (.inr (.inr h)) (k := 0) (by omega), with_no (.inr (.inr h)) (k := 1) (by omega), with_no (.inr (.inr h)) (k := 2) (by omega), with_no (.inr (.inr h)) (k := 3) (by omega)]
    exact rwith_high _ _ _ _ i h0 h w C
  · cases hp : hasP p i with
    | true =>
      rw [hp] at C
      rw [with_no (.inl hp) (k := 0) (by omega), with_no (.inl hp) (k := 1) (by omega), with_no (.inl hp) (k := 2) (by omega), with_no (.inl hp) (k := 3) (by omega)]
      exact rwith_same _ _ _ _ i h0 h1 w C
    | false =>
      rw [hp] at C
      obtain ⟨j, hj⟩ : ∃ j : Nat, i % 64 = j := ⟨(i % 64).toNat, by omega⟩
      have hj' : j < 64 := by omega
      rcases (show i / 64 = 0 ∨ i / 64 = 1 ∨ i / 64 = 2 ∨ i / 64 = 3 by omega) with g | g | g | g
      · obtain ⟨e, f⟩ := with_yes (k := 0) (j := j) (by omega) hj' (by omega) hp
        rw [f 1 (by omega), f 2 (by omega), f 3 (by omega)]
        exact rwith_0 _ _ _ _ i h0 h1 g j hj' hj _ e (wd_lt _ _) w C
      · obtain ⟨e, f⟩ := with_yes (k := 1) (j := j) (by omega) hj' (by omega) hp
        rw [f 0 (by omega), f 2 (by omega), f 3 (by omega)]
        exact rwith_1 _ _ _ _ i h0 h1 g j hj' hj _ e (wd_lt _ _) w C
      · obtain ⟨e, f⟩ := with_yes (k := 2) (j := j) (by omega) hj' (by omega) hp
        rw [f 0 (by omega), f 1 (by omega), f 3 (by omega)]
        exact rwith_2 _ _ _ _ i h0 h1 g j hj' hj _ e (wd_lt _ _) w C
      · obtain ⟨e, f⟩ := with_yes (k := 3) (j := j) (by omega) hj' (by omega) hp
        rw [f 0 (by omega), f 1 (by omega), f 2 (by omega)]
        exact rwith_3 _ _ _ _ i h0 h1 g j hj' hj _ e (wd_lt _ _) w C

theorem rwithout_any (p : Nat → Bool) (i : Int) (w : World) :
    Calls Tryd.prog 16 #[.agg #[.int .u64 (wd p 0), .int .u64 (wd p 1), .int .u64 (wd p 2), .int .u64 (wd p 3)], .int .i64 i] w fun e w' => e = .returned (.agg #[.int .u64 (wd (minusP p (oneP i)) 0), .int .u64 (wd (minusP p (oneP i)) 1), .int .u64 (wd (minusP p (oneP i)) 2), .int .u64 (wd (minusP p (oneP i)) 3)]) ∧ Below w.heap.size w w' := by
  have C := Lib.hid (fun w => rhas_any p i w)
  cases hp : hasP p i with
  | false =>
    rw [hp] at C
    rw [has_no hp (k := 0) (by omega), has_no hp (k := 1) (by omega), has_no hp (k := 2) (by omega), has_no hp (k := 3) (by omega)]
    exact rwithout_same _ _ _ _ i w C
  | true =>
    rw [hp] at C
    obtain ⟨k, j, hk, hj, hi, e, f⟩ := has_yes hp
    rcases (show k = 0 ∨ k = 1 ∨ k = 2 ∨ k = 3 by omega) with rfl | rfl | rfl | rfl
    · rw [f 1 (by omega), f 2 (by omega), f 3 (by omega)]
      exact rwithout_0 _ _ _ _ i (by omega) (by omega) (by omega) j hj (by omega) _ e (wd_lt _ _) w C
    · rw [f 0 (by omega), f 2 (by omega), f 3 (by omega)]
      exact rwithout_1 _ _ _ _ i (by omega) (by omega) (by omega) j hj (by omega) _ e (wd_lt _ _) w C
    · rw [f 0 (by omega), f 1 (by omega), f 3 (by omega)]
      exact rwithout_2 _ _ _ _ i (by omega) (by omega) (by omega) j hj (by omega) _ e (wd_lt _ _) w C
    · rw [f 0 (by omega), f 1 (by omega), f 2 (by omega)]
      exact rwithout_3 _ _ _ _ i (by omega) (by omega) (by omega) j hj (by omega) _ e (wd_lt _ _) w C

end Go.Proofs.YtigafpmhgogpmaaDoor
