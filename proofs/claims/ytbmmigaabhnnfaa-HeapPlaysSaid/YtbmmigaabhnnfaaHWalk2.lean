/-
  The walks over a heap's notes, and over where a key is found.
-/
import Derived.Test.YtbmmigaabhnnfaaHMap
import Derived.Defers
import Derived.Recover
import Derived.Tactics
import Derived.Tactics2
namespace Go.Proofs.Ytbmmigaabhnnfaa
open Go.RowKit Go.Maps
attribute [local go_sem] map_ne_nil map_ne_some fn_eq_nil fn_eq_less

set_option maxHeartbeats 1000000 in
theorem note_nil (sb g n cap : Nat) (e : Nat → Int × Int) (i : Nat) (hi : i < n) (hn : (n : Int) ≤ 9223372036854775807) (w : World) (hs : Str w sb (.slice (some ⟨g, 0, none⟩) n cap) (.map none)) (hr : Row w g n cap e) :
    Calls Try.prog 33 #[.pointer (some ⟨sb, 0, none⟩), .int .i64 i] w fun r w' => r = .returned (.tuple #[]) ∧ w = w' := by
  obtain ⟨c0, c1, c2⟩ := hs.cells
  obtain ⟨i0, i1⟩ := hr.cells hi
  have hi1 : (i : Int) < (n : Int) := by omega
  have hi0 : (0 : Int) ≤ (i : Int) := by omega
  clear hs hr
  go_enter Try.func33, Try.ntmps33
  go_wp2
  go_end0
  exact ⟨rfl, rfl⟩

set_option maxHeartbeats 1000000 in
theorem note_any (sb g n cap bm N M : Nat) (e : Nat → Int × Int) (f : Int → Option Int) (i : Nat) (hi : i < n) (hn : (n : Int) ≤ 9223372036854775807) (w : World) (hs : Str w sb (.slice (some ⟨g, 0, none⟩) n cap) (.map (some bm))) (hr : Row w g n cap e)
    (hm : MapIs w bm N f) (hN : N < maxLen) (hk : I64 (e i).1) (hM : (f (e i).1).isSome = true ∧ N ≤ M ∨ N + 1 ≤ M) :
    Calls Try.prog 33 #[.pointer (some ⟨sb, 0, none⟩), .int .i64 i] w fun r w' => r = .returned (.tuple #[]) ∧ MapIs w' bm M (fput f (e i).1 i) ∧ w.mapTurned w' bm := by
  obtain ⟨c0, c1, c2⟩ := hs.cells
  obtain ⟨i0, i1⟩ := hr.cells hi
  obtain ⟨D, hown, hf⟩ := hm
  have hi1 : (i : Int) < (n : Int) := by omega
  have hi0 : (0 : Int) ≤ (i : Int) := by omega
  generalize (e i).1 = x at i0 hk hM ⊢
  generalize (e i).2 = y at i1
  have hkey := keyOf_int_mk Try.underlying3 hk.wf
  have hwv : (Lit.int .i64 (i : Int)).wf = true := I64.wf ⟨by omega, by omega⟩
  have HST : Hid (∀ w', w'.ownsMap Try.prog 3 (plainElem Try.prog 3) bm (N + 1) (D.put (.int .i64 x) (.lit (.int .i64 (i : Int)))) → MapIs w' bm M (fput f x (i : Int))) := fun w' h => (MapIs.stored (w' := w') (bm := bm) (N := N) (k := x) (v := (i : Int)) hf (hown.tidy lawK) hown.size_le h).mono (by
    rcases hM with ⟨h1, h2⟩ | h2
    · rw [if_pos h1]; exact h2
    · split <;> omega)
  clear hs hr hf hi hk hM
  go_enter Try.func33, Try.ntmps33
  go_wp2_with (at_mapUpdate; refine wpList_mapUpdate_in _ rfl _ _ _ 58 rfl 3 3 lawK Try.underlying58 _ bm N D rfl hown hN _ _ _ rfl rfl hkey _ [] (plainElem_int Try.underlying3 hwv) ?_; intro w1 hown1 hturn1; have H1 := Lib.hid hown1; have H2 := Lib.hid hturn1; clear hown1 hturn1)
  go_end0
  exact ⟨rfl, HST.out _ H1.out, H2.out⟩

/-- The closures that recover, where nothing has panicked. -/
theorem find1_idle (p : Addr) (w : World) :
    CallsD Try.prog 35 #[.pointer (some p)] .returning w fun e u' w' => e = .returned (.tuple #[]) ∧ u' = .returning ∧ w' = w := by
  refine callsD_of_wpS Try.func35 rfl fun c₀ cs hu => ?_
  apply wpS_seq
  apply wpS_region
  simp [wpOpsS, go_sem, recoverD, hu, Try.ntmps35, Exit.thenS]
  refine wpS_cond (t := false) (by simp [Act.eval, Array.replicate]) ?_
  simp only [Bool.false_eq_true, if_false]
  refine wpS_of_wp (wp_skip ?_)
  cases c₀
  simp_all [bodyPostS, results, Try.results35]
theorem up1_idle (w : World) :
    CallsD Try.prog 36 #[] .returning w fun e u' w' => e = .returned (.tuple #[]) ∧ u' = .returning ∧ w' = w := by
  refine callsD_of_wpS Try.func36 rfl fun c₀ cs hu => ?_
  apply wpS_region
  cases c₀
  simp_all [wpOpsS, go_sem, recoverD, hu, Try.ntmps36, Exit.thenS, bodyPostS, results, Try.results36]
theorem down1_idle (w : World) :
    CallsD Try.prog 40 #[] .returning w fun e u' w' => e = .returned (.tuple #[]) ∧ u' = .returning ∧ w' = w := by
  refine callsD_of_wpS Try.func40 rfl fun c₀ cs hu => ?_
  apply wpS_region
  cases c₀
  simp_all [wpOpsS, go_sem, recoverD, hu, Try.ntmps40, Exit.thenS, bodyPostS, results, Try.results40]


set_option maxRecDepth 100000 in
set_option maxHeartbeats 1000000 in
theorem find_none (sb bm N : Nat) (v : Value) (f : Int → Option Int) (key : Int) (hk : I64 key) (w : World) (hs : Str w sb v (.map (some bm))) (hm : MapIs w bm N f) (hq : f key = none) :
    Calls Try.prog 29 #[.pointer (some ⟨sb, 0, none⟩), .int .i64 key] w fun r w' => r = .returned (.int .i64 (-1)) ∧ Below w.heap.size w w' := by
  have hmf : ∀ (fn : Fn) (first cap : Array Value) (w : World), (Instr.makeFunc fn first cap).run Try.prog w = .ok (.func fn first cap) w := fun _ _ _ _ => rfl
  obtain ⟨c0, c1, c2⟩ := hs.cells
  unfold lessV at c0
  have hsl := hs.lt
  obtain ⟨D, hown, hf⟩ := hm
  have hkey := keyOf_int_mk Try.underlying3 hk.wf
  have hh : Maps.has D (.int .i64 key) = false := by rw [(hf key).1, hq]; rfl
  clear hs hf hq
  go_enter_defers Try.func29, Try.ntmps29
  go_wp2_with (at_lookup; refine wpList_lookup_own_ok_int _ rfl _ _ 58 rfl 3 3 .i64 lawK Try.underlying58 Try.underlying3 (zeroK _) bm N D rfl (hown.alloc _) _ _ rfl hkey ?_; rw [hh]; intro c _ _)
  refine leaves_cons (f := 35) (args := #[.pointer (some ⟨w.heap.size, 0, none⟩)]) (by simp) (by simp [go_sem]) ?_
  refine (find1_idle _ _).mono ?_
  rintro e u' w'' ⟨rfl, rfl, rfl⟩
  simp [Leaves, settle, results, Try.results29, go_sem]
  exact (Below.refl _ _).alloc (Nat.le_refl _) _

set_option maxRecDepth 100000 in
set_option maxHeartbeats 1000000 in
theorem find_some (sb bm N : Nat) (v : Value) (f : Int → Option Int) (key i : Int) (hk : I64 key) (w : World) (hs : Str w sb v (.map (some bm))) (hm : MapIs w bm N f) (hq : f key = some i) :
    Calls Try.prog 29 #[.pointer (some ⟨sb, 0, none⟩), .int .i64 key] w fun r w' => r = .returned (.int .i64 i) ∧ Below w.heap.size w w' := by
  have hmf : ∀ (fn : Fn) (first cap : Array Value) (w : World), (Instr.makeFunc fn first cap).run Try.prog w = .ok (.func fn first cap) w := fun _ _ _ _ => rfl
  obtain ⟨c0, c1, c2⟩ := hs.cells
  unfold lessV at c0
  have hsl := hs.lt
  obtain ⟨D, hown, hf⟩ := hm
  have hkey := keyOf_int_mk Try.underlying3 hk.wf
  have hh : Maps.has D (.int .i64 key) = true := by rw [(hf key).1, hq]; rfl
  have hh2 : Hid (D.atKey (.int .i64 key) (.lit (.int .i64 0)) = .lit (.int .i64 i)) := by show _ = _; rw [(hf key).2, hq]; rfl
  clear hs hf hq
  go_enter_defers Try.func29, Try.ntmps29
  go_wp2_with (at_lookup; refine wpList_lookup_own_ok_int _ rfl _ _ 58 rfl 3 3 .i64 lawK Try.underlying58 Try.underlying3 (zeroK _) bm N D rfl (hown.alloc _) _ _ rfl hkey ?_; rw [hh]; intro c hat _; obtain rfl : c = i := (by have h := hh2.out; rw [hat] at h; simpa using h); clear hat)
  refine leaves_cons (f := 35) (args := #[.pointer (some ⟨w.heap.size, 0, none⟩)]) (by simp) (by simp [go_sem]) ?_
  refine (find1_idle _ _).mono ?_
  rintro e u' w'' ⟨rfl, rfl, rfl⟩
  simp [Leaves, settle, results, Try.results29, go_sem]
  exact (Below.refl _ _).alloc (Nat.le_refl _) _

set_option maxRecDepth 100000 in
set_option maxHeartbeats 1000000 in
theorem find_never (key : Int) (w : World) :
    Calls Try.prog 29 #[.pointer none, .int .i64 key] w fun r w' => r = .returned (.int .i64 (-2)) ∧ Below w.heap.size w w' := by
  go_enter_defers Try.func29, Try.ntmps29
  go_wp2
  simp [bodyPostD, Leaves, settle, results, Try.results29, go_sem]
  exact (Below.refl _ _).alloc (Nat.le_refl _) _

end Go.Proofs.Ytbmmigaabhnnfaa
