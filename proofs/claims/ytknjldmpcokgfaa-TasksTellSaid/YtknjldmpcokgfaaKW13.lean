/-
  The walks over what is cut of tasks and systems that came in.
-/
import Derived.Test.YtknjldmpcokgfaaKW3
namespace Go.Proofs.Ytknjldmpcokgfaa
open Go.RowKit Go.Maps

/-- A task with at most 66 chunks and 66 used sets. -/
def cut (x : TV) : TV := { x with ch := x.ch.take 66, us := x.us.take 66 }
theorem cut_ok {w : World} {x : TV} (h : x.ok w) : (cut x).ok w :=
  ⟨h.one.take 66, h.two.take 66, by have := h.l1; simp only [cut, List.length_take]; omega, h.m1, by have := h.l2; simp only [cut, List.length_take]; omega, h.m2⟩

set_option maxRecDepth 100000 in
set_option maxHeartbeats 2000000 in
theorem less_any (x : TV) (w : World) (hx : x.ok w) : Calls Try.prog 8 #[x.val] w fun e w' => e = .returned (cut x).val ∧ Below w.heap.size w w' := by
  obtain ⟨id, c, d, t, p, a1, ch, c1, a2, us, c2⟩ := x
  obtain ⟨i1, i2, l1, m1, l2, m2⟩ := hx
  simp only at i1 i2 l1 m1 l2 m2
  unfold TV.val cut
  simp only []
  clear i1 i2
  have hz := zeroTask
  by_cases h1 : 66 < ch.length
  · have e1 : (ch.take 66).length = 66 := by rw [List.length_take]; omega
    rw [e1]
    have f1 : (66 : Int) < (ch.length : Int) := by omega
    have g1 : 66 ≤ c1 := by omega
    clear e1 h1
    by_cases h2 : 66 < us.length
    · have e2 : (us.take 66).length = 66 := by rw [List.length_take]; omega
      rw [e2]
      have f2 : (66 : Int) < (us.length : Int) := by omega
      have g2 : 66 ≤ c2 := by omega
      clear e2 h2
      go_enter Try.func8, Try.ntmps8
      go_wp2
      exact bodyPost_ret (v := .agg #[.int .i64 id, .int .i64 c, .int .i64 d, .int .i64 t, .int .i64 p, .slice a1 66 c1, .slice a2 66 c2]) (by simp [results, Try.results8, go_sem]) rfl ⟨rfl, (by repeat (first | exact Below.refl _ _ | (with_reducible assumption) | refine bw_alloc ?_ _ | refine bw_drew ?_ | refine Below.setCell ?_ (by simp) _ | refine Below.setCell ?_ (by simp; omega) _))⟩
    · have e2 : us.take 66 = us := List.take_of_length_le (by omega)
      rw [e2]
      have f2 : ¬ (66 : Int) < (us.length : Int) := by omega
      clear e2 h2
      go_enter Try.func8, Try.ntmps8
      go_wp2
      exact bodyPost_ret (v := .agg #[.int .i64 id, .int .i64 c, .int .i64 d, .int .i64 t, .int .i64 p, .slice a1 66 c1, .slice a2 us.length c2]) (by simp [results, Try.results8, go_sem]) rfl ⟨rfl, (by repeat (first | exact Below.refl _ _ | (with_reducible assumption) | refine bw_alloc ?_ _ | refine bw_drew ?_ | refine Below.setCell ?_ (by simp) _ | refine Below.setCell ?_ (by simp; omega) _))⟩
  · have e1 : ch.take 66 = ch := List.take_of_length_le (by omega)
    rw [e1]
    have f1 : ¬ (66 : Int) < (ch.length : Int) := by omega
    clear e1 h1
    by_cases h2 : 66 < us.length
    · have e2 : (us.take 66).length = 66 := by rw [List.length_take]; omega
      rw [e2]
      have f2 : (66 : Int) < (us.length : Int) := by omega
      have g2 : 66 ≤ c2 := by omega
      clear e2 h2
      go_enter Try.func8, Try.ntmps8
      go_wp2
      exact bodyPost_ret (v := .agg #[.int .i64 id, .int .i64 c, .int .i64 d, .int .i64 t, .int .i64 p, .slice a1 ch.length c1, .slice a2 66 c2]) (by simp [results, Try.results8, go_sem]) rfl ⟨rfl, (by repeat (first | exact Below.refl _ _ | (with_reducible assumption) | refine bw_alloc ?_ _ | refine bw_drew ?_ | refine Below.setCell ?_ (by simp) _ | refine Below.setCell ?_ (by simp; omega) _))⟩
    · have e2 : us.take 66 = us := List.take_of_length_le (by omega)
      rw [e2]
      have f2 : ¬ (66 : Int) < (us.length : Int) := by omega
      clear e2 h2
      go_enter Try.func8, Try.ntmps8
      go_wp2
      exact bodyPost_ret (v := .agg #[.int .i64 id, .int .i64 c, .int .i64 d, .int .i64 t, .int .i64 p, .slice a1 ch.length c1, .slice a2 us.length c2]) (by simp [results, Try.results8, go_sem]) rfl ⟨rfl, (by repeat (first | exact Below.refl _ _ | (with_reducible assumption) | refine bw_alloc ?_ _ | refine bw_drew ?_ | refine Below.setCell ?_ (by simp) _ | refine Below.setCell ?_ (by simp; omega) _))⟩
end Go.Proofs.Ytknjldmpcokgfaa
