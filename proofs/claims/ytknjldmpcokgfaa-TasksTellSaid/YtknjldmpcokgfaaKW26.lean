/-
  The walk over the tasks that are higher than one.
-/
import Derived.Test.YtknjldmpcokgfaaKW25
namespace Go.Proofs.Ytknjldmpcokgfaa
open Go.RowKit Go.Maps Go.Shelf

/-- The tasks that are higher than that of a number, by priority; none, if there is no such task. -/
def Highs (L : List Tk) (id : Int) (M : List Tk) : Prop :=
  (findTk L id = none ∧ M = []) ∨ ∃ (t : Tk) (K : List Tk), findTk L id = some t ∧ Ranks L K ∧ M = K.filter (fun x => decide (x.p < t.p))
/-- A row of tasks that comes back. -/
def RowOf (K : List Tk → Prop) (w : World) (e : Ending) (w' : World) : Prop :=
  ∃ (a : Option Addr) (n c : Nat) (M : List TV), e = .returned (.slice a n c) ∧ Tasks w' a n c M ∧ K (M.map TV.tk) ∧ Below w.heap.size w w'
theorem OwnT.length {w : World} {B n c : Nat} {a : Option Addr} {l : List TV} (h : OwnT w B (.slice a n c) l) : l.length = n := by
  obtain ⟨a', c', e, _⟩ := h.slice
  simp only [Value.slice.injEq] at e
  exact e.2.1.symm

set_option maxRecDepth 100000 in
set_option maxHeartbeats 4000000 in
theorem higher_sys {w : World} {a : Option Addr} {n cap : Nat} {L : List TV} (s r id : Int) (ha : Tasks w a n cap L) (hn : 0 < n) (h19 : n ≤ 19) (hsm : ∀ x ∈ L, (x.ch.length : Int) ≤ 1000000 ∧ (x.us.length : Int) ≤ 1000000) :
    Calls Try.prog 23 #[.agg #[.int .i64 s, .int .i64 r, .slice a n cap], .int .i64 id] w (RowOf (Highs (L.map TV.tk) id) w) := by
  have HA := Lib.hid ha
  have HS := Lib.hid hsm
  have hz := zeroTask
  have CF : Hid (∀ v, Below w.heap.size w v → _) := fun v hb => find_sys s r id (ha.below hb) hn hsm
  have CP : Hid (∀ v, Below w.heap.size w v → _) := fun v hb => prio_sys s r (ha.below hb) hn h19 hsm
  clear ha hsm
  go_enter Try.func23, Try.ntmps23
  go_upto_region 1 with fail
  refine gen_world (fun v => Below w.heap.size w v ∧ v.heap[w.heap.size]? = some (.cells #[.int .i64 s, .int .i64 r, .slice a n cap] 28 (0, 0))) ⟨(by repeat (first | exact Below.refl _ _ | (with_reducible assumption) | refine bw_alloc ?_ _ | refine bw_drew ?_)), heap_alloc_new w _⟩ ?_
  intro W1 ⟨hl1, hb1⟩
  have HL1 := Lib.hid hl1
  have HB1 := Lib.hid hb1
  have e0 : W1.cell? ⟨w.heap.size, 0, none⟩ = some (.int .i64 s) := by rw [blk_cell hb1]; rfl
  have e1 : W1.cell? ⟨w.heap.size, 1, none⟩ = some (.int .i64 r) := by rw [blk_cell hb1]; rfl
  have e2 : W1.cell? ⟨w.heap.size, 2, none⟩ = some (.slice a n cap) := by rw [blk_cell hb1]; rfl
  have hlt := lt_of_block hb1
  clear hl1 hb1
  go_upto_region 2 with (go_at_call 21; (with_reducible refine (CF.out _ HL1.out).mono ?_); rintro e w5 ⟨y, b, rfl, hy, hyi, ht, b5⟩; have HL5 := Lib.hid (below_up HL1.out b5); have HB5 := Lib.hid (kept_obj b5 HB1.out); have HT := Lib.hid ht; clear hy hyi ht b5)
  refine gen_world (fun v => Below w.heap.size w v ∧ v.heap[w.heap.size]? = some (.cells #[.int .i64 s, .int .i64 r, .slice a n cap] 28 (0, 0)) ∧ v.cell? ⟨w5.heap.size, 4, none⟩ = some (.int .i64 y.p)) ⟨below_up HL5.out (by repeat (first | exact Below.refl _ _ | (with_reducible assumption) | refine bw_alloc ?_ _ | refine bw_drew ?_)), kept_obj ((by repeat (first | exact Below.refl _ _ | (with_reducible assumption) | refine bw_alloc ?_ _ | refine bw_drew ?_)) : Below w5.heap.size w5 _) HB5.out, by rw [World.cell?_alloc_new]; rfl⟩ ?_
  intro W2 ⟨hl2, hb2, hp2⟩
  have HL2 := Lib.hid hl2
  have HP2 := Lib.hid hp2
  clear e0 e1 e2 hlt
  have e0 : W2.cell? ⟨w.heap.size, 0, none⟩ = some (.int .i64 s) := by rw [blk_cell hb2]; rfl
  have e1 : W2.cell? ⟨w.heap.size, 1, none⟩ = some (.int .i64 r) := by rw [blk_cell hb2]; rfl
  have e2 : W2.cell? ⟨w.heap.size, 2, none⟩ = some (.slice a n cap) := by rw [blk_cell hb2]; rfl
  have hlt := lt_of_block hb2
  clear hl2 hb2 hp2 HL5 HB5 HL1 HB1
  generalize w5.heap.size = g at *
  rcases HT.out with ⟨rfl, hf⟩ | ⟨rfl, hf, _⟩
  · have HF := Lib.hid hf
    clear hf HT
    have D : Hid (∀ (v : World) (a7 : Option Addr) (n7 c7 : Nat) (M : List TV), Below W2.heap.size W2 v → OwnT v W2.heap.size (.slice a7 n7 c7) M → AllOk v M → (∀ x ∈ M, IsI v x.a1 x.ch ∧ IsI v x.a2 x.us) → Ranks (L.map TV.tk) (M.map TV.tk) → Calls Try.prog 49 #[.slice a7 n7 c7, .func (.func 50) #[] #[.pointer (some ⟨g, 0, none⟩)]] v (RowOf (Highs (L.map TV.tk) id) w)) := by
      intro v a7 n7 c7 M hb ho hok hi hr
      have hlen := ho.length
      have hn7 : n7 = n := by
        have := hr.1.length_eq
        rw [List.length_map, List.length_map, HA.out.len, hlen] at this
        exact this
      obtain ⟨go, rfl, _⟩ := ho.some_at (by omega)
      have hs : M.Pairwise (fun x y => x.p ≤ y.p) := by
        have := hr.2
        rw [List.pairwise_map] at this
        exact this
      refine (delete_any ho hok hi hs hlen (by omega) (by omega) y.p g (kept_cell hb HP2.out) hb.size).mono ?_
      rintro e w' ⟨k, rfl, hk, ho', hok', hf', hb'⟩
      refine ⟨_, k, c7, M.take k, rfl, ho'.tasks hok', .inr ⟨y.tk, M.map TV.tk, HF.out, hr, ?_⟩, HL2.out.trans ((hb.trans hb').mono HL2.out.size)⟩
      rw [← hf', List.filter_map]; rfl
    go_wp2_with (first
      | (go_at_call 19; (with_reducible refine (CP.out _ HL2.out).mono ?_); rintro e w7 ⟨a7, n7, c7, M, rfl, ho7, hok7, hi7, hr7, b7⟩; have HX := Lib.hid (D.out w7 a7 n7 c7 M b7 ho7 hok7 hi7 hr7); clear ho7 hok7 hi7 hr7 b7)
      | (go_at_call 49; (with_reducible refine (HX.out).mono ?_); rintro e w8 ⟨a8, n8, c8, M8, rfl, ht8, hk8, b8⟩; have HY := Lib.hid (And.intro ht8 (And.intro hk8 b8)); clear ht8 hk8 b8))
    go_ret
    exact ⟨a8, n8, c8, M8, rfl, HY.out.1, HY.out.2.1, HY.out.2.2⟩
  · have HF := Lib.hid hf
    clear hf HT
    go_wp2_with fail
    go_ret
    exact ⟨none, 0, 0, [], rfl, ⟨rfl, .inl rfl, (fun x hx => by cases hx), Nat.le_refl _, by omega⟩, .inl ⟨HF.out, rfl⟩, HL2.out⟩
end Go.Proofs.Ytknjldmpcokgfaa
