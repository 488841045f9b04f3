/-
  The walks over all keys, as they would be taken; two rows held against each other.
-/
import Derived.Test.YtbmmigaabhnnfaaHRow
import Derived.Deep.RegionLawGrows
namespace Go.Proofs.Ytbmmigaabhnnfaa
open Go.RowKit Go.Maps

theorem infoInt : (Try.prog.info? 3).map (fun i => (i.zero, i.size, i.bytes)) = some (some (.int .i64 0), 1, 8) := by kernel_rfl
theorem make_run (c : Nat) (hc : c ≤ 1000000) (w : World) : (Instr.makeSlice 48 (.int .i64 0) (.int .i64 (c : Int))).run Try.prog w = .ok (.slice (some ⟨w.heap.size, 0, none⟩) 0 c) (w.alloc (.cells (madeCells #[.int .i64 0] c) 3)) := by
  obtain ⟨i0, hi, hz0, hz1, hz2⟩ := info_parts infoInt
  have h := run_make w 48 3 i0 (.int .i64 0) Try.underlying48 hi hz0 .i64 .i64 0 c (by omega) (by omega) (by rw [hz2]; omega) (by omega)
  rw [hz1] at h
  simpa [Value.cells] using h
theorem make_zero (w : World) : (Instr.makeSlice 48 (.int .i64 0) (.int .i64 0)).run Try.prog w = .ok (.slice (some ⟨w.heap.size, 0, none⟩) 0 0) (w.alloc (.cells (madeCells #[.int .i64 0] 0) 3)) := make_run 0 (by omega) w

/-- Keys taken one by one lead from c to c'. -/
def DrainsTo (c' : Int → Option Int) : (Int → Option Int) → List Int → Prop
  | c, [] => c' = c
  | c, k :: L => (∃ x, First c k x) ∧ DrainsTo c' (cdel c k) L
theorem drains_snoc {c' : Int → Option Int} {k x : Int} (hf : First c' k x) : ∀ {L : List Int} {c : Int → Option Int}, DrainsTo c' c L → DrainsTo (cdel c' k) c (L ++ [k])
  | [], c, h => by
    have h : c' = c := h
    subst h
    exact ⟨⟨x, hf⟩, rfl⟩
  | j :: L, c, h => ⟨h.1, drains_snoc hf h.2⟩
theorem first_unique {c : Int → Option Int} {k x k' x' : Int} (h : First c k x) (h' : First c k' x') : k = k' := (first_is h h'.1 h'.2).1
theorem drains_unique {e : Int → Option Int} (he : ∀ k, e k = none) : ∀ {L L' : List Int} {c : Int → Option Int} {e' : Int → Option Int}, (∀ k, e' k = none) → DrainsTo e c L → DrainsTo e' c L' → L = L'
  | [], [], _, _, _, _, _ => rfl
  | [], k :: L', c, e', h0, h, h' => by
    obtain ⟨⟨x, hx⟩, _⟩ := h'
    have h : e = c := h
    have := hx.1; rw [← h, he] at this; cases this
  | k :: L, [], c, e', h0, h, h' => by
    obtain ⟨⟨x, hx⟩, _⟩ := h
    have h' : e' = c := h'
    have := hx.1; rw [← h', h0] at this; cases this
  | k :: L, k' :: L', c, e', h0, h, h' => by
    obtain ⟨⟨x, hx⟩, h⟩ := h
    obtain ⟨⟨x', hx'⟩, h'⟩ := h'
    have e1 := first_unique hx hx'
    subst e1
    rw [drains_unique he h0 h h']

set_option maxRecDepth 100000 in
set_option maxHeartbeats 1000000 in
theorem keys_none {w : World} {p : Option Addr} (hl : ∀ w', Below w.heap.size w w' → Calls Try.prog 28 #[.pointer p] w' fun r w'' => r = .returned (.int .i64 0) ∧ w' = w'') :
    Calls Try.prog 26 #[.pointer p] w fun r w' => r = .returned (.slice (some ⟨w.heap.size, 0, none⟩) 0 0) ∧ Below w.heap.size w w' := by
  have CL := Lib.hid hl
  have hmk := make_zero
  clear hl
  go_enter Try.func26, Try.ntmps26
  go_wp2_with (first | (go_at_call 28; (with_reducible refine (CL.out _ (Below.refl _ _)).mono ?_); rintro r w1 ⟨rfl, rfl⟩) | (go_at_call 28; (refine (CL.out _ ((Below.refl _ _).alloc (Nat.le_refl _) _)).mono ?_); rintro r w2 ⟨rfl, rfl⟩))
  go_ret
  exact ⟨rfl, (Below.refl _ _).alloc (Nat.le_refl _) _⟩

end Go.Proofs.Ytbmmigaabhnnfaa
