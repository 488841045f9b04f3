/-
  Two sets held against each other: word by word.
-/
import Derived.Test.YtigafpmhgogpmaaDoorBMem
namespace Go.Proofs.YtigafpmhgogpmaaDoor
open Go Go.RowKit
set_option linter.unusedSimpArgs false

/-- Are four words the same as four others? -/
def eq4 (x0 x1 x2 x3 y0 y1 y2 y3 : Nat) : Bool := x0 == y0 && x1 == y1 && x2 == y2 && x3 == y3
theorem eq4_self (x0 x1 x2 x3 : Nat) : eq4 x0 x1 x2 x3 x0 x1 x2 x3 = true := by simp [eq4]

set_option maxHeartbeats 1000000 in
theorem set_eq_d (d : Nat) (x0 x1 x2 x3 y0 y1 y2 y3 : Nat) (w : World) :
    (Op.equalIn (d + 1 + 1) 24 (.agg #[.int .u64 x0, .int .u64 x1, .int .u64 x2, .int .u64 x3]) (.agg #[.int .u64 y0, .int .u64 y1, .int .u64 y2, .int .u64 y3])).run Tryd.prog w = .ok (eq4 x0 x1 x2 x3 y0 y1 y2 y3) w := by
  unfold eq4
  have e : ∀ (a b : Nat) (w : World), (Op.equalIn (d + 1) 22 (.int .u64 a) (.int .u64 b)).run Tryd.prog w = .ok (a == b) w := fun a b w => by
    rw [run_equalIn_int w d 22 .u64 .u64 a b Tryd.underlying22]
    congr 1
    rw [Bool.eq_iff_iff]; simp; omega
  have hp : ∀ (xs : Array Value) (i : Nat) (w : World) (v : Value), xs[i]? = some v → (part 22 xs i).run Tryd.prog w = .ok v w := by
    intro xs i w v h
    simp [part, Sem.run_bind, Tryd.isAgg22, go_sem, h]
  have hs : ∀ w, (sizeOf 22).run Tryd.prog w = .ok 1 w := fun w => by simp [Tryd.sizeOf22, go_sem]
  rw [Op.equalIn]
  simp only [Sem.run_bind, run_underlying Tryd.underlying24, Result.andThen_ok, hs]
  simp only [Std.Legacy.Range.forIn_eq_forIn_range', Std.Legacy.Range.size, List.range']
  have px0 : ∀ w, (part 22 #[.int .u64 x0, .int .u64 x1, .int .u64 x2, .int .u64 x3] (0 * 1)).run Tryd.prog w = .ok (.int .u64 x0) w := fun w => hp _ _ _ _ rfl
  have px1 : ∀ w, (part 22 #[.int .u64 x0, .int .u64 x1, .int .u64 x2, .int .u64 x3] ((0 + 1) * 1)).run Tryd.prog w = .ok (.int .u64 x1) w := fun w => hp _ _ _ _ rfl
  have px2 : ∀ w, (part 22 #[.int .u64 x0, .int .u64 x1, .int .u64 x2, .int .u64 x3] ((0 + 1 + 1) * 1)).run Tryd.prog w = .ok (.int .u64 x2) w := fun w => hp _ _ _ _ rfl
  have px3 : ∀ w, (part 22 #[.int .u64 x0, .int .u64 x1, .int .u64 x2, .int .u64 x3] ((0 + 1 + 1 + 1) * 1)).run Tryd.prog w = .ok (.int .u64 x3) w := fun w => hp _ _ _ _ rfl
  have py0 : ∀ w, (part 22 #[.int .u64 y0, .int .u64 y1, .int .u64 y2, .int .u64 y3] (0 * 1)).run Tryd.prog w = .ok (.int .u64 y0) w := fun w => hp _ _ _ _ rfl
  have py1 : ∀ w, (part 22 #[.int .u64 y0, .int .u64 y1, .int .u64 y2, .int .u64 y3] ((0 + 1) * 1)).run Tryd.prog w = .ok (.int .u64 y1) w := fun w => hp _ _ _ _ rfl
  have py2 : ∀ w, (part 22 #[.int .u64 y0, .int .u64 y1, .int .u64 y2, .int .u64 y3] ((0 + 1 + 1) * 1)).run Tryd.prog w = .ok (.int .u64 y2) w := fun w => hp _ _ _ _ rfl
  have py3 : ∀ w, (part 22 #[.int .u64 y0, .int .u64 y1, .int .u64 y2, .int .u64 y3] ((0 + 1 + 1 + 1) * 1)).run Tryd.prog w = .ok (.int .u64 y3) w := fun w => hp _ _ _ _ rfl
  clear hp hs
  simp only [List.forIn_cons, List.forIn_nil, Sem.run_bind, px0, px1, px2, px3, py0, py1, py2, py3, Result.andThen_ok, e]
  cases h0 : x0 == y0 <;> simp only [Bool.not_false, Bool.not_true, Bool.false_eq_true, if_true, if_false, Sem.run_pure, Sem.run_bind, Result.andThen_ok, Bool.true_and, Bool.false_and, Bool.and_true, Bool.and_false, px1, px2, px3, py1, py2, py3, e]
  cases h1 : x1 == y1 <;> simp only [Bool.not_false, Bool.not_true, Bool.false_eq_true, if_true, if_false, Sem.run_pure, Sem.run_bind, Result.andThen_ok, Bool.true_and, Bool.false_and, Bool.and_true, Bool.and_false, px1, px2, px3, py1, py2, py3, e]
  cases h2 : x2 == y2 <;> simp only [Bool.not_false, Bool.not_true, Bool.false_eq_true, if_true, if_false, Sem.run_pure, Sem.run_bind, Result.andThen_ok, Bool.true_and, Bool.false_and, Bool.and_true, Bool.and_false, px1, px2, px3, py1, py2, py3, e]
  cases h3 : x3 == y3 <;> simp only [Bool.not_false, Bool.not_true, Bool.false_eq_true, if_true, if_false, Sem.run_pure, Sem.run_bind, Result.andThen_ok, Bool.true_and, Bool.false_and, Bool.and_true, Bool.and_false, px1, px2, px3, py1, py2, py3, e]

theorem set_eq (x0 x1 x2 x3 y0 y1 y2 y3 : Nat) (w : World) :
    (Op.equalIn 10000 24 (.agg #[.int .u64 x0, .int .u64 x1, .int .u64 x2, .int .u64 x3]) (.agg #[.int .u64 y0, .int .u64 y1, .int .u64 y2, .int .u64 y3])).run Tryd.prog w = .ok (eq4 x0 x1 x2 x3 y0 y1 y2 y3) w :=
  set_eq_d 9998 x0 x1 x2 x3 y0 y1 y2 y3 w

end Go.Proofs.YtigafpmhgogpmaaDoor
