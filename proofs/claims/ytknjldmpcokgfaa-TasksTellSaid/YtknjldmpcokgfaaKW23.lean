/-
  The walks over the search for a task.
-/
import Derived.Test.YtknjldmpcokgfaaKW22
import Derived.Shelf.SlicesQ.IndexFunc
namespace Go.Proofs.Ytknjldmpcokgfaa
open Go.RowKit Go.Maps Go.Shelf

def idxRen : Ren := ⟨fun | 6 => 47 | n => n, fun | 0 => 0 | 3 => 3 | 4 => 4 | 22 => 26 | 23 => 25 | 25 => 74 | n => n, fun | n => n⟩
theorem idxLays : SlLaysH0.n6 Try.prog idxRen where
  mixed := by kernel_rfl
  f6 := ⟨ "slices.IndexFunc[[]ostinato/api.Task,ostinato/api.Task]", by decide, Try.func47.trans (congrArg some (by kernel_rfl))⟩
  t0 := Try.underlying0
  a0 := Try.isAgg0
  z0 := Try.sizeOf0
  v0 := Try.zeroValue0
  t3 := Try.underlying3
  a3 := Try.isAgg3
  z3 := Try.sizeOf3
  v3 := Try.zeroValue3
  t4 := Try.underlying4
  a4 := Try.isAgg4
  z4 := Try.sizeOf4
  v4 := Try.zeroValue4
  t22 := Try.underlying26
  a22 := Try.isAgg26
  z22 := Try.sizeOf26
  v22 := Try.zeroValue26
  t25 := Try.underlying74
  a25 := Try.isAgg74
  z25 := Try.sizeOf74
  v25 := Try.zeroValue74

theorem idxFrom_spec (p : TV → Bool) (u : TV) : ∀ (l : List TV) (i : Nat), (Lib.idxByFrom (fun _ y => p y) u l i = -1 ∧ ∀ x ∈ l, p x = false) ∨ ∃ (k : Nat) (x : TV), Lib.idxByFrom (fun _ y => p y) u l i = ((i + k : Nat) : Int) ∧ l[k]? = some x ∧ p x = true ∧ ∀ (j : Nat) (y : TV), j < k → l[j]? = some y → p y = false
  | [], _ => .inl ⟨rfl, fun x hx => by cases hx⟩
  | y :: r, i => by
    by_cases h : p y = true
    · exact .inr ⟨0, y, by simp [Lib.idxByFrom, h], rfl, h, fun j _ hj => absurd hj (Nat.not_lt_zero _)⟩
    · have h' : p y = false := by simpa using h
      have e0 : Lib.idxByFrom (fun _ y => p y) u (y :: r) i = Lib.idxByFrom (fun _ y => p y) u r (i + 1) := by simp [Lib.idxByFrom, h']
      rcases idxFrom_spec p u r (i + 1) with ⟨e, ha⟩ | ⟨k, x, e, hx, hp, ha⟩
      · refine .inl ⟨e0.trans e, fun x hx => ?_⟩
        rcases List.mem_cons.1 hx with rfl | q
        · exact h'
        · exact ha x q
      · refine .inr ⟨k + 1, x, ?_, by simpa using hx, hp, fun j z hj hz => ?_⟩
        · rw [e0, e]; congr 1; omega
        · cases j with
          | zero => simp at hz; subst hz; exact h'
          | succ j => exact ha j z (by omega) (by simpa using hz)
/-- Where the first one is, if there is one. -/
def FirstAt (p : TV → Bool) (L : List TV) (z : Int) : Prop :=
  (z = -1 ∧ ∀ x ∈ L, p x = false) ∨ ∃ (k : Nat) (x : TV), z = (k : Int) ∧ L[k]? = some x ∧ p x = true ∧ ∀ (j : Nat) (y : TV), j < k → L[j]? = some y → p y = false
theorem index_any {w : World} {a : Option Addr} {n cap : Nat} {L : List TV} (hv : View w a L) (hl : L.length = n) (hs : (n : Int) ≤ 9223372036854775807) (hn : 0 < n) (p : TV → Bool) (g : Nat) (lb : Array Value) (eg : ∀ args w, (callFunc g args).run Try.prog w = .ok (.enter g args) w) (hp : PredBelow Try.prog g lb (fun x => .agg (TV.cells x).toArray) p w) :
    Calls Try.prog 47 #[.slice a n cap, .func (.func g) #[] lb] w fun e w' => ∃ z : Int, e = .returned (.int .i64 z) ∧ FirstAt p L z ∧ Below w.heap.size w w' := by
  obtain ⟨x0, hx0⟩ := nth_of hl hn
  obtain ⟨b, o, rfl, hat⟩ := hv.at_ hx0
  have hb := block_of_cell hat.c0
  have hcl : ∀ j, j < L.length → ∀ i v, (TV.cells L[j]!)[i]? = some v → w.cell? ⟨b, o + j * 7 + i, none⟩ = some v := by
    intro j hj i v hi
    have hi7 : i < 7 := by have := (List.getElem?_eq_some_iff.1 hi).1; rwa [cells_len] at this
    have hf := flat_at L j L[j]! (by simp [hj]) i hi7
    rw [hi] at hf
    rcases hv with rfl | ⟨g', o', e, hc⟩
    · simp at hj
    · cases e
      rw [Nat.add_assoc]; exact hc _ _ hf
  have h := AnyQ.slices_IndexFunc idxLays 7 Try.isAgg25 Try.sizeOf25 TV.cells cells_len p g lb eg b o n cap L w hp (by omega) (by omega) hb hcl
  change Calls Try.prog 47 _ _ _ at h
  refine h.mono fun e w' ⟨he, hb'⟩ => ⟨_, he, ?_, hb'⟩
  rw [List.take_of_length_le (by omega)]
  rcases idxFrom_spec p default L 0 with ⟨e, ha⟩ | ⟨k, x, e, hx, hp, ha⟩
  · exact .inl ⟨e, ha⟩
  · exact .inr ⟨k, x, by unfold Lib.idxBy; rw [e, Nat.zero_add], hx, hp, ha⟩

set_option maxHeartbeats 1000000 in
theorem find1_any (x : TV) (id : Int) (b : Nat) (W : World) (h : W.cell? ⟨b, 0, none⟩ = some (.int .i64 id)) : Calls Try.prog 48 #[.agg #[.int .i64 x.id, .int .i64 x.c, .int .i64 x.d, .int .i64 x.t, .int .i64 x.p, .slice x.a1 x.ch.length x.c1, .slice x.a2 x.us.length x.c2], .pointer (some ⟨b, 0, none⟩)] W fun e w' => e = .returned (.bool (decide (x.id = id))) ∧ Below W.heap.size W w' := by
  have hl := block_of_cell h
  have hlt : b < W.heap.size := hl
  clear hl
  by_cases hq : x.id = id
  · rw [decide_eq_true hq]
    have d1 : (x.id == id) = true := by rw [beq_iff_eq]; exact hq
    clear hq
    go_enter Try.func48, Try.ntmps48
    go_wp2
    go_ret
    exact ⟨rfl, (by repeat (first | exact Below.refl _ _ | (with_reducible assumption) | refine bw_alloc ?_ _ | refine bw_drew ?_))⟩
  · rw [decide_eq_false hq]
    have d1 : (x.id == id) = false := by rw [beq_eq_false_iff_ne]; exact hq
    clear hq
    go_enter Try.func48, Try.ntmps48
    go_wp2
    go_ret
    exact ⟨rfl, (by repeat (first | exact Below.refl _ _ | (with_reducible assumption) | refine bw_alloc ?_ _ | refine bw_drew ?_))⟩
theorem find1_enters : ∀ args w, (callFunc 48 args).run Try.prog w = .ok (.enter 48 args) w := enters_of Try.func48 (by kernel_rfl) rfl
theorem find1_pred (id : Int) (b : Nat) (w : World) (h : w.cell? ⟨b, 0, none⟩ = some (.int .i64 id)) : PredBelow Try.prog 48 #[.pointer (some ⟨b, 0, none⟩)] (fun x => .agg (TV.cells x).toArray) (fun x => decide (x.id = id)) w :=
  fun W x hb => (find1_any x id b W (kept_cell hb h)).mono fun _ _ ⟨h1, h2⟩ => ⟨h1, below_up hb h2⟩

/-- A task of that number, or nothing. -/
def tk0 : Tk := ⟨0, 0, 0, 0, 0, [], []⟩
def findTk (L : List Tk) (id : Int) : Option Tk := L.find? fun t => decide (t.id = id)
def Told (L : List TV) (id : Int) (y : TV) (b : Bool) : Prop := (b = true ∧ findTk (L.map TV.tk) id = some y.tk) ∨ (b = false ∧ findTk (L.map TV.tk) id = none ∧ y.tk = tk0)
def FindBack (L : List TV) (id : Int) (w : World) (e : Ending) (w' : World) : Prop :=
  ∃ (y : TV) (b : Bool), e = .returned (.tuple #[.agg #[.int .i64 y.id, .int .i64 y.c, .int .i64 y.d, .int .i64 y.t, .int .i64 y.p, .slice y.a1 y.ch.length y.c1, .slice y.a2 y.us.length y.c2], .bool b]) ∧ y.ok w' ∧ (IsI w' y.a1 y.ch ∧ IsI w' y.a2 y.us) ∧ Told L id y b ∧ Below w.heap.size w w'
theorem told_none {L : List TV} {id : Int} (h : ∀ x ∈ L, decide (x.id = id) = false) : findTk (L.map TV.tk) id = none := by
  unfold findTk
  rw [List.find?_eq_none]
  intro t ht
  obtain ⟨x, hx, rfl⟩ := List.mem_map.1 ht
  have := h x hx
  show ¬ decide (x.id = id) = true
  rw [this]; simp
theorem told_some {L : List TV} {id : Int} {k : Nat} {x : TV} (hx : L[k]? = some x) (hp : decide (x.id = id) = true) (ha : ∀ (j : Nat) (y : TV), j < k → L[j]? = some y → decide (y.id = id) = false) : findTk (L.map TV.tk) id = some x.tk := by
  unfold findTk
  rw [List.find?_eq_some_iff_getElem]
  obtain ⟨hkl, hke⟩ := List.getElem?_eq_some_iff.1 hx
  refine ⟨hp, k, by simpa using hkl, by simp [hke], fun j hj => ?_⟩
  have hjl : j < L.length := by omega
  have := ha j L[j] hj (by simp [hjl])
  simp only [List.getElem_map]
  show (!decide (L[j].id = id)) = true
  rw [this]; rfl
end Go.Proofs.Ytknjldmpcokgfaa
