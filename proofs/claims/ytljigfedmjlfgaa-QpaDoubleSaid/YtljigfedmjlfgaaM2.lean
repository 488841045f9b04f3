/- Texts of this claim, put together: GDef2, GR2, GR3, GU, LcmNum, Ref3, GR4, GR5, VDef. -/
import Derived.Test.YtljigfedmjlfgaaM1
import Derived.Laws.MakeOwn
import Derived.StillTailTactics
set_option linter.unusedVariables false
set_option linter.unusedSimpArgs false

/-
  Demands, plainly: deadlines, slack, a period's work.
-/
namespace Go.Proofs.Ytljigfedmjlfgaa

/-- A deadline of any. -/
def Dl (l : List Dm) (y : Int) : Prop := ∃ x ∈ l, DlOf x y
theorem dl_all {l : List Dm} {y : Int} : DlN l l.length y ↔ Dl l y := by
  constructor
  · rintro ⟨j, x, _, hx, hd⟩; exact ⟨x, List.mem_of_getElem? hx, hd⟩
  · rintro ⟨x, hx, hd⟩
    obtain ⟨j, hj⟩ := List.mem_iff_getElem?.1 hx
    exact ⟨j, x, (List.getElem?_eq_some_iff.1 hj).1, hj, hd⟩
def dlOfB (x : Dm) (y : Int) : Bool := decide (x.d ≤ y) && decide ((y - x.d) % x.t = 0)
theorem dlOfB_iff {x : Dm} (h : x.ok) {y : Int} : dlOfB x y = true ↔ DlOf x y := by
  have hd := h.d1; have hd2 := h.d2
  unfold dlOfB
  rw [Bool.and_eq_true, decide_eq_true_eq, decide_eq_true_eq]
  constructor
  · rintro ⟨h1, h2⟩
    have e := Int.mul_ediv_add_emod (y - x.d) x.t
    refine ⟨(y - x.d) / x.t, Int.ediv_nonneg (by omega) (by omega), ?_⟩
    rw [Int.mul_comm]; omega
  · rintro ⟨n, hn, rfl⟩
    have := Int.mul_nonneg hn (show 0 ≤ x.t by omega)
    refine ⟨by omega, ?_⟩
    rw [show x.d + n * x.t - x.d = n * x.t by omega]
    exact Int.mul_emod_left _ _
def dlB (l : List Dm) (y : Int) : Bool := l.any fun x => dlOfB x y
theorem dlB_iff {l : List Dm} (h : ∀ x ∈ l, x.ok) {y : Int} : dlB l y = true ↔ Dl l y := by
  unfold dlB Dl
  rw [List.any_eq_true]
  exact ⟨fun ⟨x, hx, e⟩ => ⟨x, hx, (dlOfB_iff (h x hx)).1 e⟩, fun ⟨x, hx, e⟩ => ⟨x, hx, (dlOfB_iff (h x hx)).2 e⟩⟩
theorem dlB_not {l : List Dm} (h : ∀ x ∈ l, x.ok) {y : Int} (q : ¬ Dl l y) : dlB l y = false := by
  cases e : dlB l y with
  | false => rfl
  | true => exact absurd ((dlB_iff h).1 e) q
/-- Of all: the work due, the next deadline, the last one. -/
def dueA (l : List Dm) (t : Int) : Int := dueN l t l.length
def nextA (l : List Dm) (t : Int) : Option Int := nextN l t l.length
def lastA (l : List Dm) (t : Int) : Option Int := lastN l t l.length
theorem next_some {l : List Dm} (h : ∀ x ∈ l, x.ok) {t y : Int} (e : nextA l t = some y) : Dl l y ∧ t < y ∧ ∀ z, Dl l z → t < z → y ≤ z := by
  obtain ⟨i1, i2⟩ := next_is h t l.length
  obtain ⟨a, b⟩ := i1 y e
  refine ⟨dl_all.1 a, b, fun z hz ht => ?_⟩
  obtain ⟨u, hu, hl⟩ := i2 z (dl_all.2 hz) ht
  have : y = u := by have := e.symm.trans hu; cases this; rfl
  omega
theorem next_none {l : List Dm} (h : ∀ x ∈ l, x.ok) {t : Int} (e : nextA l t = none) {z : Int} (hz : Dl l z) : z ≤ t := by
  obtain ⟨_, i2⟩ := next_is h t l.length
  rcases Int.lt_or_le t z with q | q
  · obtain ⟨u, hu, _⟩ := i2 z (dl_all.2 hz) q
    have := e.symm.trans hu; cases this
  · exact q
theorem next_eq {l : List Dm} (h : ∀ x ∈ l, x.ok) {t y : Int} (h1 : Dl l y) (h2 : t < y) (h3 : ∀ z, Dl l z → t < z → y ≤ z) : nextA l t = some y := by
  obtain ⟨i1, i2⟩ := next_is h t l.length
  obtain ⟨u, hu, hl⟩ := i2 y (dl_all.2 h1) h2
  obtain ⟨a, b⟩ := i1 u hu
  have := h3 u (dl_all.1 a) b
  obtain rfl : u = y := by omega
  exact hu
/-- Of none alone there is no next deadline. -/
theorem next_nil {l : List Dm} (h : ∀ x ∈ l, x.ok) {t : Int} (e : nextA l t = none) : l = [] := by
  cases l with
  | nil => rfl
  | cons x l =>
    have hx := h x (List.mem_cons_self ..)
    have := next_none h e ⟨x, List.mem_cons_self .., nxt_dl hx t⟩
    have := (jobs_fit hx t).1
    omega
theorem last_some {l : List Dm} (h : ∀ x ∈ l, x.ok) {t y : Int} (e : lastA l t = some y) : Dl l y ∧ y < t ∧ ∀ z, Dl l z → z < t → z ≤ y := by
  obtain ⟨i1, i2⟩ := last_is h t l.length
  obtain ⟨a, b⟩ := i1 y e
  refine ⟨dl_all.1 a, b, fun z hz ht => ?_⟩
  obtain ⟨u, hu, hl⟩ := i2 z (dl_all.2 hz) ht
  have : y = u := by have := e.symm.trans hu; cases this; rfl
  omega
theorem last_none {l : List Dm} (h : ∀ x ∈ l, x.ok) {t : Int} (e : lastA l t = none) {z : Int} (hz : Dl l z) : t ≤ z := by
  obtain ⟨_, i2⟩ := last_is h t l.length
  rcases Int.lt_or_le z t with q | q
  · obtain ⟨u, hu, _⟩ := i2 z (dl_all.2 hz) q
    have := e.symm.trans hu; cases this
  · exact q
theorem last_eq {l : List Dm} (h : ∀ x ∈ l, x.ok) {t y : Int} (h1 : Dl l y) (h2 : y < t) (h3 : ∀ z, Dl l z → z < t → z ≤ y) : lastA l t = some y := by
  obtain ⟨i1, i2⟩ := last_is h t l.length
  obtain ⟨u, hu, hl⟩ := i2 y (dl_all.2 h1) h2
  obtain ⟨a, b⟩ := i1 u hu
  have := h3 u (dl_all.1 a) b
  obtain rfl : u = y := by omega
  exact hu
theorem dl_pos' {l : List Dm} (h : ∀ x ∈ l, x.ok) {y : Int} (hy : Dl l y) : 1 ≤ y := by
  obtain ⟨x, hx, hd⟩ := hy; exact dl_pos (h x hx) hd
/-- Work does not grow where no deadline is. -/
theorem due_still {l : List Dm} (h : ∀ x ∈ l, x.ok) {t u : Int} (htu : t ≤ u) (hn : ∀ z, Dl l z → t < z → u < z) : dueA l u = dueA l t :=
  due_same (fun x hx => jobs_between (h x hx) htu (hn _ ⟨x, hx, nxt_dl (h x hx) t⟩ (jobs_fit (h x hx) t).1)) _
theorem due_nonneg {l : List Dm} (h : ∀ x ∈ l, x.ok) (t : Int) : 0 ≤ dueA l t := due_mono h t (Nat.zero_le _)
/-- Between a deadline and the next one. -/
theorem steps_due {l : List Dm} (h : ∀ x ∈ l, x.ok) {t y : Int} (e : nextA l t = some y) : dueA l (y - 1) = dueA l t := by
  obtain ⟨_, h2, h3⟩ := next_some h e
  exact due_still h (by omega) fun z hz ht => by have := h3 z hz ht; omega
/-- The last deadline ahead of the next one. -/
theorem steps_last {l : List Dm} (h : ∀ x ∈ l, x.ok) {t y : Int} (ht : 0 ≤ t) (e : nextA l t = some y) : (∀ z, lastA l y = some z → z ≤ t ∧ 1 ≤ z ∧ nextA l z = some y) ∧ (lastA l y = none → nextA l 0 = some y) := by
  obtain ⟨h1, h2, h3⟩ := next_some h e
  refine ⟨fun z ez => ?_, fun en => ?_⟩
  · obtain ⟨z1, z2, z3⟩ := last_some h ez
    refine ⟨?_, dl_pos' h z1, next_eq h h1 z2 fun u hu hzu => ?_⟩
    · rcases Int.lt_or_le t z with q | q
      · have := h3 z z1 q; omega
      · exact q
    · rcases Int.lt_or_le u y with q | q
      · have := z3 u hu q; omega
      · exact q
  · exact next_eq h h1 (by omega) fun u hu _ => last_none h en hu
/-- The next deadline of two rows. -/
theorem next_two {l m : List Dm} (hl : ∀ x ∈ l, x.ok) (hm : ∀ x ∈ m, x.ok) (t : Int) :
    nextA (l ++ m) t = match nextA l t, nextA m t with
      | none, b => b
      | some a, none => some a
      | some a, some b => if b < a then some b else some a := by
  have ha : ∀ x ∈ l ++ m, x.ok := fun x hx => (List.mem_append.1 hx).elim (hl x) (hm x)
  have d1 : ∀ {y}, Dl l y → Dl (l ++ m) y := fun ⟨x, hx, e⟩ => ⟨x, List.mem_append_left _ hx, e⟩
  have d2 : ∀ {y}, Dl m y → Dl (l ++ m) y := fun ⟨x, hx, e⟩ => ⟨x, List.mem_append_right _ hx, e⟩
  have d3 : ∀ {y}, Dl (l ++ m) y → Dl l y ∨ Dl m y := fun ⟨x, hx, e⟩ => (List.mem_append.1 hx).elim (fun q => .inl ⟨x, q, e⟩) (fun q => .inr ⟨x, q, e⟩)
  cases ea : nextA l t with
  | none =>
    have := next_nil hl ea
    subst this
    rfl
  | some a =>
    obtain ⟨a1, a2, a3⟩ := next_some hl ea
    cases eb : nextA m t with
    | none =>
      have := next_nil hm eb
      subst this
      rw [List.append_nil]; exact ea
    | some b =>
      obtain ⟨b1, b2, b3⟩ := next_some hm eb
      dsimp only
      split
      · exact next_eq ha (d2 b1) b2 fun z hz hzt => (d3 hz).elim (fun q => by have := a3 z q hzt; omega) (fun q => b3 z q hzt)
      · exact next_eq ha (d1 a1) a2 fun z hz hzt => (d3 hz).elim (fun q => a3 z q hzt) (fun q => by have := b3 z q hzt; omega)
theorem due_two (l m : List Dm) (t : Int) : dueA (l ++ m) t = dueA l t + dueA m t := by
  unfold dueA
  rw [List.length_append]; exact due_append m.length

/-- The work of a period, of the first k. -/
def loadN (l : List Dm) (p : Int) : Nat → Int
  | 0 => 0
  | k + 1 => match l[k]? with
    | some x => loadN l p k + x.c * (p / x.t)
    | none => loadN l p k
theorem load_next {l : List Dm} {p : Int} {k : Nat} {x : Dm} (h : l[k]? = some x) : loadN l p (k + 1) = loadN l p k + x.c * (p / x.t) := by rw [loadN, h]
theorem load_end {l : List Dm} {p : Int} {k : Nat} (h : l[k]? = none) : loadN l p (k + 1) = loadN l p k := by rw [loadN, h]
/-- A period later there is a period's work more. -/
theorem due_period {l : List Dm} (h : ∀ x ∈ l, x.ok) {t p : Int} (ht : 0 ≤ t) (hp : 0 ≤ p) (hd : ∀ x ∈ l, x.t ∣ p) : ∀ k, dueN l (t + p) k = dueN l t k + loadN l p k
  | 0 => rfl
  | k + 1 => by
    have ih := due_period h ht hp hd k
    cases hx : l[k]? with
    | none => rw [due_end hx, due_end hx, load_end hx, ih]
    | some x =>
      have hm := List.mem_of_getElem? hx
      have ho := h x hm
      have e : p = p / x.t * x.t := (Int.ediv_mul_cancel (hd x hm)).symm
      have hj : jobsD x (t + p) = jobsD x t + p / x.t := by
        conv => lhs; rw [e]
        exact jobs_period ho ht (Int.ediv_nonneg hp (by have := ho.d1; have := ho.d2; omega))
      rw [due_next hx, due_next hx, load_next hx, ih, hj, Int.mul_add]; omega

def slkMin : Option Int → Int → Int
  | none, v => v
  | some u, v => if v < u then v else u
/-- One time more. -/
def slkStep (l : List Dm) (y : Int) (b : Option Int) : Option (Option Int) :=
  if dlB l y = true then (if 4611686018427387904 < dueA l y then none else some (some (slkMin b (y - dueA l y)))) else some b
/-- Slack of the first k times from a time on: nothing, where the work of a deadline is too much. -/
def slkN (l : List Dm) (fr : Int) : Nat → Option (Option Int)
  | 0 => some none
  | k + 1 => (slkN l fr k).bind (slkStep l (fr + k))
theorem slk_next {l : List Dm} {fr : Int} {k : Nat} {b : Option Int} (h : slkN l fr k = some b) : slkN l fr (k + 1) = slkStep l (fr + k) b := by rw [slkN, h]; rfl
theorem slk_fell {l : List Dm} {fr : Int} {k : Nat} (h : slkN l fr k = none) : slkN l fr (k + 1) = none := by rw [slkN, h]; rfl
theorem step_not {l : List Dm} {y : Int} (h : dlB l y = false) (b : Option Int) : slkStep l y b = some b := by unfold slkStep; rw [h]; rfl
theorem step_over {l : List Dm} {y : Int} (h : dlB l y = true) (hw : 4611686018427387904 < dueA l y) (b : Option Int) : slkStep l y b = none := by unfold slkStep; rw [if_pos h, if_pos hw]
theorem step_at {l : List Dm} {y : Int} (h : dlB l y = true) (hw : dueA l y ≤ 4611686018427387904) (b : Option Int) : slkStep l y b = some (some (slkMin b (y - dueA l y))) := by unfold slkStep; rw [if_pos h, if_neg (by omega)]
theorem slk_skip {l : List Dm} {fr : Int} {a : Nat} : ∀ {b : Nat}, a ≤ b → (∀ i, a ≤ i → i < b → dlB l (fr + (i : Nat)) = false) → slkN l fr b = slkN l fr a
  | 0, h, _ => by obtain rfl : a = 0 := by omega
                  rfl
  | b + 1, h, hn => by
    rcases Nat.lt_or_ge b a with q | q
    · obtain rfl : a = b + 1 := by omega
      rfl
    · have ih := slk_skip q (fun i h1 h2 => hn i h1 (by omega))
      have hd := hn b q (by omega)
      rw [← ih]
      cases hz : slkN l fr b with
      | none => exact slk_fell hz
      | some c => rw [slk_next hz, step_not hd]
theorem slk_bad {l : List Dm} {fr : Int} {a : Nat} (h : slkN l fr a = none) : ∀ {b : Nat}, a ≤ b → slkN l fr b = none
  | 0, hb => by obtain rfl : a = 0 := by omega
                exact h
  | b + 1, hb => by
    rcases Nat.lt_or_ge b a with q | q
    · obtain rfl : a = b + 1 := by omega
      exact h
    · exact slk_fell (slk_bad h q)
theorem slk_is {l : List Dm} {fr : Int} : ∀ {k : Nat} {b : Option Int}, slkN l fr k = some b → (b = none → ∀ i, i < k → dlB l (fr + (i : Nat)) = false) ∧ (∀ v, b = some v → (∃ i : Nat, i < k ∧ dlB l (fr + i) = true ∧ fr + i - dueA l (fr + i) = v) ∧ ∀ i : Nat, i < k → dlB l (fr + i) = true → v ≤ fr + i - dueA l (fr + i))
  | 0, b, h => by
    have : none = b := by have := h; rw [slkN] at this; cases this; rfl
    subst this
    exact ⟨fun _ i hi => absurd hi (Nat.not_lt_zero _), fun v e => by cases e⟩
  | k + 1, b, h => by
    cases hk : slkN l fr k with
    | none => rw [slk_fell hk] at h; cases h
    | some c =>
      obtain ⟨i1, i2⟩ := slk_is hk
      rw [slk_next hk] at h
      cases hd : dlB l (fr + k) with
      | false =>
        rw [step_not hd] at h
        cases h
        refine ⟨fun e i hi => ?_, fun v e => ?_⟩
        · rcases Nat.lt_or_ge i k with q | q
          · exact i1 e i q
          · obtain rfl : i = k := by omega
            exact hd
        · obtain ⟨⟨i, hi, h1, h2⟩, h3⟩ := i2 v e
          refine ⟨⟨i, by omega, h1, h2⟩, fun j hj hj1 => ?_⟩
          rcases Nat.lt_or_ge j k with q | q
          · exact h3 j q hj1
          · obtain rfl : j = k := by omega
            rw [hd] at hj1; cases hj1
      | true =>
        by_cases hw : 4611686018427387904 < dueA l (fr + k)
        · rw [step_over hd hw] at h; cases h
        · rw [step_at hd (by omega)] at h
          cases h
          refine ⟨fun e => (by cases e), fun v e => ?_⟩
          cases e
          cases c with
          | none =>
            refine ⟨⟨k, by omega, hd, rfl⟩, fun j hj hj1 => ?_⟩
            rcases Nat.lt_or_ge j k with q | q
            · have := i1 rfl j q; rw [hj1] at this; cases this
            · obtain rfl : j = k := by omega
              exact Int.le_refl _
          | some u =>
            obtain ⟨⟨i, hi, h1, h2⟩, h3⟩ := i2 u rfl
            show (∃ i : Nat, i < k + 1 ∧ dlB l (fr + i) = true ∧ fr + i - dueA l (fr + i) = (if fr + k - dueA l (fr + k) < u then fr + k - dueA l (fr + k) else u)) ∧ ∀ i : Nat, i < k + 1 → dlB l (fr + i) = true → (if fr + k - dueA l (fr + k) < u then fr + k - dueA l (fr + k) else u) ≤ fr + i - dueA l (fr + i)
            split
            · rename_i q0
              refine ⟨⟨k, by omega, hd, rfl⟩, fun j hj hj1 => ?_⟩
              rcases Nat.lt_or_ge j k with q | q
              · have := h3 j q hj1; omega
              · obtain rfl : j = k := by omega
                exact Int.le_refl _
            · rename_i q0
              refine ⟨⟨i, by omega, h1, h2⟩, fun j hj hj1 => ?_⟩
              rcases Nat.lt_or_ge j k with q | q
              · exact h3 j q hj1
              · obtain rfl : j = k := by omega
                omega
theorem slk_small {l : List Dm} {fr : Int} : ∀ {k : Nat}, (∀ i : Nat, i < k → dueA l (fr + i) ≤ 4611686018427387904) → ∃ b, slkN l fr k = some b
  | 0, _ => ⟨none, rfl⟩
  | k + 1, h => by
    obtain ⟨b, hb⟩ := slk_small (k := k) (fun i hi => h i (by omega))
    rw [slk_next hb]
    cases hd : dlB l (fr + k) with
    | false => exact ⟨b, step_not hd b⟩
    | true => exact ⟨_, step_at hd (h k (by omega)) b⟩
end Go.Proofs.Ytljigfedmjlfgaa

/-
  The walk over the document's work due.
-/
namespace Go.Proofs.Ytljigfedmjlfgaa
open Go.RowKit Go.Maps

abbrev NT : TypeId := 47
abbrev GT : TypeId := 74
/-- A number and whether it is one, in a box. -/
def Nm (w : World) (b : Nat) (x : Int) (y : Bool) : Prop := w.heap[b]? = some (.cells #[.int .i64 x, .bool y] NT (0, 0))
theorem Nm.set {w : World} {b : Nat} {x : Int} {y : Bool} (h : Nm w b x y) (x' : Int) (y' : Bool) : Nm ((w.setCell ⟨b, 0, none⟩ (.int .i64 x')).setCell ⟨b, 1, none⟩ (.bool y')) b x' y' := by
  unfold Nm at *
  have h1 := blk_set (o := 0) h (.int .i64 x')
  exact (blk_set (o := 1) h1 (.bool y')).trans rfl
theorem nm_new (w : World) (x : Int) (y : Bool) : Nm (w.alloc (.cells #[.int .i64 x, .bool y] NT)) w.heap.size x y := heap_alloc_new w _
def Gt (w : World) (b : Nat) (x : Int) (y : Bool) : Prop := w.heap[b]? = some (.cells #[.int .u64 x, .bool y] GT (0, 0))
theorem Gt.set {w : World} {b : Nat} {x : Int} {y : Bool} (h : Gt w b x y) (x' : Int) (y' : Bool) : Gt ((w.setCell ⟨b, 0, none⟩ (.int .u64 x')).setCell ⟨b, 1, none⟩ (.bool y')) b x' y' := by
  unfold Gt at *
  have h1 := blk_set (o := 0) h (.int .u64 x')
  exact (blk_set (o := 1) h1 (.bool y')).trans rfl
theorem gt_of {w : World} {b : Nat} {x : Int} {y : Bool} (h : w.heap[b]? = some (.cells #[.int .u64 x, .bool y] GT (0, 0))) : Gt w b x y := h
theorem gt_new (w : World) (x : Int) (y : Bool) : Gt (w.alloc (.cells #[.int .u64 x, .bool y] GT)) w.heap.size x y := heap_alloc_new w _
/-- The boxes: what comes back. -/
structure ROAt (w : World) (V : World) : Prop where
  low : Below w.heap.size w V
  res : Nm V w.heap.size 0 false
theorem ROAt.below {w V V' : World} (h : ROAt w V) (hb : Below V.heap.size V V') : ROAt w V' := ⟨below_up h.low hb, kept_obj hb h.res⟩
/-- What comes back at the end. -/
theorem ROAt.done {w V : World} (h : ROAt w V) (x : Int) (y : Bool) : Nm ((V.setCell ⟨w.heap.size, 0, none⟩ (.int .i64 x)).setCell ⟨w.heap.size, 1, none⟩ (.bool y)) w.heap.size x y ∧ Below w.heap.size w ((V.setCell ⟨w.heap.size, 0, none⟩ (.int .i64 x)).setCell ⟨w.heap.size, 1, none⟩ (.bool y)) :=
  ⟨h.res.set x y, (h.low.setCell (p := ⟨w.heap.size, 0, none⟩) (Nat.le_refl _) _).setCell (p := ⟨w.heap.size, 1, none⟩) (Nat.le_refl _) _⟩

/-- Work due, if demands may be, the time is one, and the work is not too much. -/
def ofA (l : List Dm) (t : Int) : Option Int := if okL l = true ∧ timeB t = true ∧ dueA l t ≤ 4611686018427387904 then some (dueA l t) else none
theorem ofA_bad {l : List Dm} {t : Int} (h : okL l = false ∨ timeB t = false) : ofA l t = none := if_neg fun ⟨a, b, _⟩ => by rcases h with h | h <;> simp_all
theorem ofA_over {l : List Dm} {t : Int} (h : 4611686018427387904 < dueA l t) : ofA l t = none := if_neg fun ⟨_, _, c⟩ => by omega
theorem ofA_is {l : List Dm} {t : Int} (h1 : okL l = true) (h2 : timeB t = true) (h3 : dueA l t ≤ 4611686018427387904) : ofA l t = some (dueA l t) := if_pos ⟨h1, h2, h3⟩
/-- A step of the sum. -/
theorem of_step {s c j : Int} (h0 : 0 ≤ s) (hs : s ≤ 4611686018427387904) (hc : 0 ≤ c) (hj : 0 ≤ j) :
    (mulB c j = true ∧ addB s (mulN c j) = true ∧ addN s (mulN c j) ≤ 4611686018427387904 → addN s (mulN c j) = s + c * j ∧ s + c * j ≤ 4611686018427387904) ∧
    (¬ (mulB c j = true ∧ addB s (mulN c j) = true ∧ addN s (mulN c j) ≤ 4611686018427387904) → 4611686018427387904 < s + c * j) := by
  have hp := Int.mul_nonneg hc hj
  unfold mulB mulN addB addN
  generalize c * j = p at *
  by_cases q : p < 18446744073709551616
  · rw [if_pos q, decide_eq_true q]
    by_cases q2 : s + p < 18446744073709551616
    · rw [if_pos q2, decide_eq_true q2]
      exact ⟨fun ⟨_, _, h⟩ => ⟨rfl, by omega⟩, fun h => by
        rcases Int.lt_or_le 4611686018427387904 (s + p) with z | z
        · exact z
        · exact absurd ⟨rfl, rfl, by omega⟩ h⟩
    · rw [if_neg q2, decide_eq_false q2]
      exact ⟨fun ⟨_, h, _⟩ => (by cases h), fun _ => by omega⟩
  · rw [if_neg q, decide_eq_false q]
    exact ⟨fun ⟨h, _, _⟩ => (by cases h), fun _ => by omega⟩

set_option maxRecDepth 100000 in
set_option maxHeartbeats 8000000 in
theorem rof_any (l : List Dm) (n c : Nat) (hl : l.length = n) (hn : (n : Int) ≤ 9223372036854775807) (a : Option Addr) (t : Int) (w : World) (hv : GView w a l) :
    Calls Try.prog 17 #[.slice a n c, .int .i64 t] w fun e w' => e = .returned (.agg #[.int .i64 ((ofA l t).getD 0), .bool (ofA l t).isSome]) ∧ Below w.heap.size w w' := by
  have HV := Lib.hid hv
  have HL := Lib.hid hl
  have RC := Lib.hid (fun v (hb : Below w.heap.size w v) => rcheck_any l n c hl hn a v (hv.below hb))
  have TC := Lib.hid (fun v => rtime_any t v)
  clear hv hl
  obtain ⟨b1, hb1⟩ : ∃ b1, okL l = b1 := ⟨_, rfl⟩
  obtain ⟨b2, hb2⟩ : ∃ b2, timeB t = b2 := ⟨_, rfl⟩
  have HB1 := Lib.hid hb1
  have HB2 := Lib.hid hb2
  rw [hb1] at RC
  rw [hb2] at TC
  clear hb1 hb2
  go_enter Try.func17, Try.ntmps17
  go_upto_region 1 with fail
  refine gen_world (ROAt w) ⟨(by repeat (first | exact Below.refl _ _ | (with_reducible assumption) | refine bw_alloc ?_ _ | refine bw_drew ?_)), nm_new w 0 false⟩ ?_
  intro V0 hv0
  have HV0 := Lib.hid hv0
  clear hv0
  go_upto_region 3 with (first
    | (go_at_call 29; (with_reducible refine (RC.out _ HV0.out.low).mono ?_); rintro e w1 ⟨rfl, bx1⟩; have HV1 := Lib.hid (HV0.out.below bx1); clear bx1)
    | (go_at_call 30; (with_reducible refine (TC.out _).mono ?_); rintro e w2 ⟨rfl, rfl⟩))
  clear HV0 RC TC
  by_cases hbad : b1 = false ∨ b2 = false
  · have HN : Hid (ofA l t = none) := ofA_bad (by have := HB1.out; have := HB2.out; rcases hbad with h | h <;> simp_all)
    have hr := HV1.out.res
    have f0 := blk_free hr 0
    have f1 := blk_free hr 1
    have r0 : w1.cell? ⟨w.heap.size, 0, none⟩ = some (.int .i64 0) := by rw [blk_cell hr]; rfl
    have r1 : w1.cell? ⟨w.heap.size, 1, none⟩ = some (.bool false) := by rw [blk_cell hr]; rfl
    have HD := Lib.hid (HV1.out.done 0 false)
    clear hr HB1 HB2
    have hcs : b1 = false ∨ (b1 = true ∧ b2 = false) := by
      rcases hbad with h | h
      · exact .inl h
      · cases b1
        · exact .inl rfl
        · exact .inr ⟨rfl, h⟩
    clear hbad
    rcases hcs with rfl | ⟨rfl, rfl⟩
    · go_wp2_with fail
      obtain ⟨hd, hlow⟩ := HD.out
      unfold Nm at hd
      have y0 := blk_cell (o := 0) hd
      have y1 := blk_cell (o := 1) hd
      refine bodyPost_ret (v := .agg #[.int .i64 0, .bool false]) ?_ rfl ⟨by rw [HN.out]; rfl, hlow⟩
      simp [results, Try.results17, go_sem, y0, y1]
    · go_wp2_with fail
      obtain ⟨hd, hlow⟩ := HD.out
      unfold Nm at hd
      have y0 := blk_cell (o := 0) hd
      have y1 := blk_cell (o := 1) hd
      refine bodyPost_ret (v := .agg #[.int .i64 0, .bool false]) ?_ rfl ⟨by rw [HN.out]; rfl, hlow⟩
      simp [results, Try.results17, go_sem, y0, y1]
  obtain rfl : b1 = true := by cases b1 with | true => rfl | false => exact absurd (.inl rfl) hbad
  obtain rfl : b2 = true := by cases b2 with | true => rfl | false => exact absurd (.inr rfl) hbad
  clear hbad
  have HOK := Lib.hid ((okL_iff.1 HB1.out).1)
  have HT := Lib.hid (timeB_iff.1 HB2.out)
  go_upto_block 0 with fail
  go_cut [7] (fun u wx => ∃ s : Int, u = .int .u64 s ∧ Hid (s = dueA l t ∧ s ≤ 4611686018427387904) ∧ Hid (ROAt w wx))
  case first =>
    go_wp2
    go_loopw [7, 8] (fun g u wr => ∃ k : Nat, k ≤ n ∧ u = .int .i64 k ∧ g = .int .u64 (dueN l t k) ∧ Hid (dueN l t k ≤ 4611686018427387904) ∧ Hid (ROAt w wr)) (fun _ u _ => (n - intOf u).toNat)
    case atStart => exact ⟨0, Nat.zero_le _, rfl, rfl, by show (0 : Int) ≤ _; omega, HV1⟩
    case round =>
      obtain ⟨k, hk, rfl, rfl, HS, HP⟩ := hrel
      clear HV1
      by_cases hlt : k < n
      · obtain ⟨x, hx⟩ := nth_of HL.out hlt
        have hxm := List.mem_of_getElem? hx
        have hxo := HOK.out x hxm
        obtain ⟨g, o, rfl, ⟨c0, c1, c2⟩⟩ := (HV.out.below HP.out.low).at_ hx
        have hk1 : (k : Int) < (n : Int) := by omega
        have hk0 : (0 : Int) ≤ (k : Int) := by omega
        have HN := Lib.hid (due_next (t := t) hx)
        have hs0 : 0 ≤ dueN l t k := due_mono HOK.out t (Nat.zero_le k)
        have HTOP : Hid (dueN l t (k + 1) ≤ dueA l t) := due_mono HOK.out t (by have := HL.out; omega)
        have hj0 := jobs_nonneg hxo t
        have hj1 := jobs_top hxo HT.out.2
        have JC := Lib.hid (fun v => rjobs_any x hxo t (by have := HT.out.1; omega) HT.out.2 v)
        have hcx0 := hxo.c0
        have hcx1 := hxo.c1
        have HST := Lib.hid (of_step hs0 HS.out hcx0 hj0)
        obtain ⟨j, hj⟩ : ∃ j, jobsD x t = j := ⟨_, rfl⟩
        rw [hj] at hj0 hj1 JC HST HN
        obtain ⟨sm, hsm⟩ : ∃ sm, dueN l t k = sm := ⟨_, rfl⟩
        rw [hsm] at hs0 HST HN HS
        rw [hsm]
        have e1 : IntKind.u64.wrap x.c = x.c := IntWalk.u64_in _ (by omega)
        have e2 : IntKind.u64.wrap j = j := IntWalk.u64_in _ (by omega)
        have MC := Lib.hid (fun v => rmul_any x.c j ⟨hcx0, by omega⟩ ⟨hj0, by omega⟩ v)
        have hm64 : U64 (mulN x.c j) := mulN_u64 ⟨hcx0, by omega⟩ ⟨hj0, by omega⟩
        have AC := Lib.hid (fun v => radd_any sm (mulN x.c j) ⟨hs0, by have := HS.out; omega⟩ hm64 v)
        have ha64 : U64 (addN sm (mulN x.c j)) := addN_u64 ⟨hs0, by have := HS.out; omega⟩ hm64
        obtain ⟨M, hM⟩ : ∃ M, mulN x.c j = M := ⟨_, rfl⟩
        obtain ⟨mb, hmb⟩ : ∃ mb, mulB x.c j = mb := ⟨_, rfl⟩
        rw [hM] at AC HST MC
        rw [hmb] at HST MC
        obtain ⟨A1, hA1⟩ : ∃ A1, addN sm M = A1 := ⟨_, rfl⟩
        obtain ⟨ab, hab⟩ : ∃ ab, addB sm M = ab := ⟨_, rfl⟩
        rw [hA1, hab] at AC HST
        have HC := Lib.hid (fun w' (hb : Below wr.heap.size wr w') => And.intro (kept_cell hb c0) (And.intro (kept_cell hb c1) (kept_cell hb c2)))
        clear hx hxm hxo hj hsm hcx0 hcx1 hj0 hj1 hs0 hm64 ha64 hM hmb hA1 hab HS
        go_upto_region 9 with fail
        go_cut [9] (fun u wx => ∃ gx : Nat, u = .pointer (some ⟨gx, 0, none⟩) ∧ Hid (Gt wx gx M mb) ∧ Hid (Below wr.heap.size wr wx))
        case first =>
          go_region_held3 (fun w' => w'.cell? ⟨g, o + k * 3, none⟩ = some (.int .i64 x.c) ∧ w'.cell? ⟨g, o + k * 3 + 1, none⟩ = some (.int .i64 x.d) ∧ w'.cell? ⟨g, o + k * 3 + 2, none⟩ = some (.int .i64 x.t)) (exact HC.out _ (by repeat (first | exact Below.refl _ _ | (with_reducible assumption) | refine bw_drew ?_ | refine bw_alloc ?_ _ | refine Below.setCell ?_ (by show _ ≤ _; first | exact Nat.le_refl _ | exact bx1.size) _))) (first
            | (go_at_call 31; (with_reducible refine (Calls.upV (V := wr) (by repeat (first | exact Below.refl _ _ | (with_reducible assumption) | refine bw_alloc ?_ _ | refine bw_drew ?_)) (JC.out _)).mono ?_); rintro e wj ⟨rfl, bzj, bx1⟩; (try (have hqj : wj.heap[wr.heap.size]? = some (.cells #[.int .u64 0, .bool false] GT (0, 0)) := kept_obj bzj (heap_alloc_new wr.drew _))); clear bzj)
            | (go_at_call 32; (with_reducible refine (Calls.upV (V := wr) (by repeat (first | exact Below.refl _ _ | (with_reducible assumption) | refine bw_alloc ?_ _ | refine bw_drew ?_)) (MC.out _)).mono ?_); rintro e wx ⟨rfl, bz, bx2⟩; (first | (have hq := kept_obj bz hqj; have z0 : wx.cell? ⟨wr.heap.size, 0, none⟩ = some (.int .u64 0) := (by rw [blk_cell hq]; rfl); have z1 : wx.cell? ⟨wr.heap.size, 1, none⟩ = some (.bool false) := (by rw [blk_cell hq]; rfl); have f0 : wx.frozen? ⟨wr.heap.size, 0, none⟩ = false := blk_free hq 0; have f1 : wx.frozen? ⟨wr.heap.size, 1, none⟩ = false := blk_free hq 1; have HQ : Hid (Gt wx (wr.heap.size) 0 false) := hq; clear hq) | (have hq : wx.heap[wj.heap.size]? = some (.cells #[.int .u64 0, .bool false] GT (0, 0)) := kept_obj bz (heap_alloc_new wj _); have z0 : wx.cell? ⟨wj.heap.size, 0, none⟩ = some (.int .u64 0) := (by rw [blk_cell hq]; rfl); have z1 : wx.cell? ⟨wj.heap.size, 1, none⟩ = some (.bool false) := (by rw [blk_cell hq]; rfl); have f0 : wx.frozen? ⟨wj.heap.size, 0, none⟩ = false := blk_free hq 0; have f1 : wx.frozen? ⟨wj.heap.size, 1, none⟩ = false := blk_free hq 1; have HQ : Hid (Gt wx (wj.heap.size) 0 false) := hq; clear hq) | skip); clear bz))
          all_goals
            go_wp2_with fail
            go_meet
            first
              | with_reducible exact ⟨_, rfl, Lib.hid (Gt.set HQ.out M mb), Lib.hid (by repeat (first | (with_reducible assumption) | refine bw_alloc ?_ _ | refine Below.setCell ?_ (by show _ ≤ _; first | exact Nat.le_refl _ | exact bx1.size) _))⟩
              | with_reducible exact ⟨wx.heap.size, rfl, Lib.hid (gt_new wx _ _), Lib.hid (by repeat (first | (with_reducible assumption) | refine bw_alloc ?_ _))⟩
        case rest =>
          obtain ⟨gx, rfl, HX, HB⟩ := hcut
          have HPW := Lib.hid (HP.out.below HB.out)
          clear MC JC HC HP HB
          have x0 : wc.cell? ⟨gx, 0, none⟩ = some (.int .u64 M) := by rw [blk_cell HX.out]; rfl
          go_upto_region 11 with (go_at_call 33; (with_reducible refine (AC.out _).mono ?_); rintro e w5 ⟨rfl, b5⟩; have HX5 : Hid (Gt w5 gx M mb) := kept_obj b5 HX.out; have HP5 := Lib.hid (HPW.out.below b5); clear b5)
          obtain ⟨gy, hgy⟩ : ∃ gy, w5.heap.size = gy := ⟨_, rfl⟩
          have hq5 := gt_new w5 A1 ab
          rw [hgy] at hq5 ⊢
          refine gen_world (fun v => Gt v gx M mb ∧ Gt v gy A1 ab ∧ ROAt w v) ⟨kept_obj (by repeat (first | exact Below.refl _ _ | (with_reducible assumption) | refine bw_alloc ?_ _ | refine bw_drew ?_)) HX5.out, hq5, HP5.out.below (by repeat (first | exact Below.refl _ _ | (with_reducible assumption) | refine bw_alloc ?_ _ | refine bw_drew ?_))⟩ ?_
          intro V6 ⟨hx6, hy6, hp6⟩
          have HP6 := Lib.hid hp6
          have HY6 := Lib.hid hy6
          have HX6 := Lib.hid hx6
          clear hx6 hy6 hp6 hq5 hgy HX HX5 HP5 HPW AC x0
          have x1 : V6.cell? ⟨gx, 1, none⟩ = some (.bool mb) := by rw [blk_cell HX6.out]; rfl
          have y0 : V6.cell? ⟨gy, 0, none⟩ = some (.int .u64 A1) := by rw [blk_cell HY6.out]; rfl
          have y1 : V6.cell? ⟨gy, 1, none⟩ = some (.bool ab) := by rw [blk_cell HY6.out]; rfl
          by_cases hok : mb = true ∧ ab = true ∧ A1 ≤ 4611686018427387904
          · obtain ⟨rfl, rfl, hA⟩ := hok
            have hst := HST.out.1 ⟨rfl, rfl, hA⟩
            have HNN : Hid (A1 = dueN l t (k + 1) ∧ A1 ≤ 4611686018427387904) := by
              refine ⟨by rw [HN.out]; exact hst.1, by rw [hst.1]; exact hst.2⟩
            have hA' : ¬ 4611686018427387904 < A1 := by omega
            clear hst HST HN HTOP hA
            go_wp2_with fail
            go_roundw
            case rel => exact ⟨k + 1, by omega, by go_num, by rw [HNN.out.1], Lib.hid (by rw [← HNN.out.1]; exact HNN.out.2), HP6⟩
            case measure => simp [intOf]; omega
          · have hst := HST.out.2 hok
            have HNO : Hid (ofA l t = none) := ofA_over (by have := HTOP.out; rw [HN.out] at this; omega)
            have hr := HP6.out.res
            have f0 := blk_free hr 0
            have f1 := blk_free hr 1
            have r0 : V6.cell? ⟨w.heap.size, 0, none⟩ = some (.int .i64 0) := by rw [blk_cell hr]; rfl
            have r1 : V6.cell? ⟨w.heap.size, 1, none⟩ = some (.bool false) := by rw [blk_cell hr]; rfl
            have HD := Lib.hid (HP6.out.done 0 false)
            have hcs : mb = false ∨ (mb = true ∧ ab = false) ∨ (mb = true ∧ ab = true ∧ 4611686018427387904 < A1) := by
              cases mb
              · exact .inl rfl
              · cases ab
                · exact .inr (.inl ⟨rfl, rfl⟩)
                · refine .inr (.inr ⟨rfl, rfl, ?_⟩)
                  rcases Int.lt_or_le 4611686018427387904 A1 with z | z
                  · exact z
                  · exact absurd ⟨rfl, rfl, by omega⟩ hok
            clear hok hst HST HN HTOP hr
            rcases hcs with rfl | ⟨rfl, rfl⟩ | ⟨rfl, rfl, hA⟩
            all_goals
              go_wp2_with fail
              obtain ⟨hd, hlow⟩ := HD.out
              unfold Nm at hd
              have q0 := blk_cell (o := 0) hd
              have q1 := blk_cell (o := 1) hd
              refine bodyPost_ret (v := .agg #[.int .i64 0, .bool false]) ?_ rfl ⟨by rw [HNO.out]; rfl, hlow⟩
              simp [results, Try.results17, go_sem, q0, q1]
      · obtain rfl : k = n := by omega
        have HE : Hid (dueN l t k = dueA l t ∧ dueN l t k ≤ 4611686018427387904) := ⟨by unfold dueA; rw [HL.out], HS.out⟩
        generalize dueN l t k = s at *
        clear HS
        go_wp2_with fail
        go_meet
        exact ⟨s, rfl, HE, HP⟩
  case rest =>
    obtain ⟨s, rfl, HS, HP⟩ := hcut
    have hs1 : s ≤ 4611686018427387904 := HS.out.2
    have hs0 : 0 ≤ s := by rw [HS.out.1]; exact due_nonneg HOK.out t
    have e1 : IntKind.i64.wrap s = s := IntWalk.i64_in _ (by omega)
    have HN : Hid (ofA l t = some s) := by have h := HS.out; show _ = _; rw [h.1] at *; exact ofA_is HB1.out HB2.out h.2
    have hr := HP.out.res
    have f0 := blk_free hr 0
    have f1 := blk_free hr 1
    have r0 : wc.cell? ⟨w.heap.size, 0, none⟩ = some (.int .i64 0) := by rw [blk_cell hr]; rfl
    have r1 : wc.cell? ⟨w.heap.size, 1, none⟩ = some (.bool false) := by rw [blk_cell hr]; rfl
    have HD := Lib.hid (HP.out.done s true)
    clear hr hs1 hs0 HS
    go_wp2_with fail
    obtain ⟨hd, hlow⟩ := HD.out
    unfold Nm at hd
    have q0 := blk_cell (o := 0) hd
    have q1 := blk_cell (o := 1) hd
    refine bodyPost_ret (v := .agg #[.int .i64 s, .bool true]) ?_ rfl ⟨by rw [HN.out]; rfl, hlow⟩
    simp [results, Try.results17, go_sem, q0, q1]
end Go.Proofs.Ytljigfedmjlfgaa

/-
  The walks over the document's next deadline and the last one.
-/
namespace Go.Proofs.Ytljigfedmjlfgaa
open Go.RowKit Go.Maps

/-- The next deadline, the last one, if demands may be and the time is one. -/
def nextS (l : List Dm) (t : Int) : Option Int := if okL l = true ∧ timeB t = true then nextA l t else none
def lastS (l : List Dm) (t : Int) : Option Int := if okL l = true ∧ timeB t = true then lastA l t else none
theorem nextS_bad {l : List Dm} {t : Int} (h : okL l = false ∨ timeB t = false) : nextS l t = none := if_neg fun ⟨a, b⟩ => by rcases h with h | h <;> simp_all
theorem lastS_bad {l : List Dm} {t : Int} (h : okL l = false ∨ timeB t = false) : lastS l t = none := if_neg fun ⟨a, b⟩ => by rcases h with h | h <;> simp_all
theorem nextS_is {l : List Dm} {t : Int} (h1 : okL l = true) (h2 : timeB t = true) : nextS l t = nextA l t := if_pos ⟨h1, h2⟩
theorem lastS_is {l : List Dm} {t : Int} (h1 : okL l = true) (h2 : timeB t = true) : lastS l t = lastA l t := if_pos ⟨h1, h2⟩
theorem next_new {l : List Dm} {t : Int} {k : Nat} {x : Dm} (hx : l[k]? = some x) (h : nextN l t k = none) : nextN l t (k + 1) = some (nxtD x t) := by rw [nextN, hx]; dsimp only; rw [h]
theorem next_old {l : List Dm} {t : Int} {k : Nat} {x : Dm} {b : Int} (hx : l[k]? = some x) (h : nextN l t k = some b) : nextN l t (k + 1) = if nxtD x t < b then some (nxtD x t) else some b := by rw [nextN, hx]; dsimp only; rw [h]
theorem last_skip {l : List Dm} {t : Int} {k : Nat} {x : Dm} (hx : l[k]? = some x) (h : jobsD x (t - 1) = 0) : lastN l t (k + 1) = lastN l t k := by rw [lastN, hx]; dsimp only; rw [if_pos h]
theorem last_step {l : List Dm} {t : Int} {k : Nat} {x : Dm} (hx : l[k]? = some x) (h : jobsD x (t - 1) ≠ 0) : lastN l t (k + 1) = if (lastN l t k).getD 0 < prvD x t then some (prvD x t) else lastN l t k := by rw [lastN, hx]; dsimp only; rw [if_neg h]
theorem nxt_top {x : Dm} (h : x.ok) {t : Int} (ht : t ≤ 2199023255552) : jobsD x t * x.t ≤ 2200096997376 ∧ nxtD x t ≤ 2201170739200 ∧ 0 ≤ jobsD x t * x.t := by
  have h1 := h.d1; have h2 := h.d2; have h3 := h.t2
  have hj := jobs_nonneg h t
  have hp := Int.mul_nonneg hj (show 0 ≤ x.t by omega)
  have hf := (jobs_fit h t).2
  unfold nxtD at hf ⊢
  rcases Int.lt_or_le 0 (jobsD x t) with q | q
  · have := hf q; omega
  · have e : jobsD x t = 0 := by omega
    rw [e, Int.zero_mul]; omega
/-- The boxes: what comes back, the best so far. -/
structure RNAt (w : World) (gb : Nat) (o : Option Int) (V : World) : Prop where
  low : Below w.heap.size w V
  res : Nm V w.heap.size 0 false
  bst : Nm V gb (o.getD 0) o.isSome
  lt : w.heap.size < gb
theorem RNAt.below {w V V' : World} {gb : Nat} {o : Option Int} (h : RNAt w gb o V) (hb : Below V.heap.size V V') : RNAt w gb o V' := ⟨below_up h.low hb, kept_obj hb h.res, kept_obj hb h.bst, h.lt⟩
theorem RNAt.put {w V : World} {gb : Nat} {o : Option Int} (h : RNAt w gb o V) (x : Int) : RNAt w gb (some x) ((V.setCell ⟨gb, 0, none⟩ (.int .i64 x)).setCell ⟨gb, 1, none⟩ (.bool true)) :=
  ⟨(h.low.setCell (p := ⟨gb, 0, none⟩) (Nat.le_of_lt h.lt) _).setCell (p := ⟨gb, 1, none⟩) (Nat.le_of_lt h.lt) _, (blk_far (a := ⟨gb, 1, none⟩) (Nat.ne_of_lt h.lt) _).trans ((blk_far (a := ⟨gb, 0, none⟩) (Nat.ne_of_lt h.lt) _).trans h.res), h.bst.set x true, h.lt⟩
theorem RNAt.ro {w V : World} {gb : Nat} {o : Option Int} (h : RNAt w gb o V) : ROAt w V := ⟨h.low, h.res⟩

set_option maxRecDepth 100000 in
set_option maxHeartbeats 8000000 in
theorem rnext_any (l : List Dm) (n c : Nat) (hl : l.length = n) (hn : (n : Int) ≤ 9223372036854775807) (a : Option Addr) (t : Int) (w : World) (hv : GView w a l) :
    Calls Try.prog 16 #[.slice a n c, .int .i64 t] w fun e w' => e = .returned (.agg #[.int .i64 ((nextS l t).getD 0), .bool (nextS l t).isSome]) ∧ Below w.heap.size w w' := by
  have HV := Lib.hid hv
  have HL := Lib.hid hl
  have RC := Lib.hid (fun v (hb : Below w.heap.size w v) => rcheck_any l n c hl hn a v (hv.below hb))
  have TC := Lib.hid (fun v => rtime_any t v)
  clear hv hl
  obtain ⟨b1, hb1⟩ : ∃ b1, okL l = b1 := ⟨_, rfl⟩
  obtain ⟨b2, hb2⟩ : ∃ b2, timeB t = b2 := ⟨_, rfl⟩
  have HB1 := Lib.hid hb1
  have HB2 := Lib.hid hb2
  rw [hb1] at RC
  rw [hb2] at TC
  clear hb1 hb2
  go_enter Try.func16, Try.ntmps16
  go_upto_region 1 with fail
  refine gen_world (fun v => Below w.heap.size w v ∧ Nm v w.heap.size 0 false) ⟨(by repeat (first | exact Below.refl _ _ | (with_reducible assumption) | refine bw_alloc ?_ _ | refine bw_drew ?_)), nm_new w 0 false⟩ ?_
  intro V0 ⟨hl0, hr0⟩
  have HL0 := Lib.hid hl0
  have HR0 := Lib.hid hr0
  clear hl0 hr0
  go_upto_region 2 with (go_at_call 29; (with_reducible refine (RC.out _ HL0.out).mono ?_); rintro e w1 ⟨rfl, bx1⟩; have HL1 := Lib.hid (below_up HL0.out bx1); have HR1 : Hid (Nm w1 w.heap.size 0 false) := kept_obj bx1 HR0.out; clear bx1)
  go_upto_region 3 with (go_at_call 30; (with_reducible refine (TC.out _).mono ?_); rintro e w2 ⟨rfl, rfl⟩)
  go_upto_region 4 with fail
  obtain ⟨gb, hgb⟩ : ∃ gb, w1.heap.size = gb := ⟨_, rfl⟩
  have hgl : w.heap.size < gb := by rw [← hgb]; exact lt_of_block HR1.out
  have hq := nm_new w1 0 false
  rw [hgb] at hq ⊢
  refine gen_world (RNAt w gb none) ⟨below_up HL1.out (by repeat (first | exact Below.refl _ _ | (with_reducible assumption) | refine bw_alloc ?_ _ | refine bw_drew ?_)), kept_obj (by repeat (first | exact Below.refl _ _ | (with_reducible assumption) | refine bw_alloc ?_ _ | refine bw_drew ?_)) HR1.out, hq, hgl⟩ ?_
  intro V3 hv3
  have HV3 := Lib.hid hv3
  clear hv3 hq hgl hgb HL0 HR0 HL1 HR1 RC TC
  go_upto_block 0 with fail
  go_cut [] (fun wx => ∃ p : Option Int, Hid (p = nextS l t) ∧ Hid (RNAt w gb p wx))
  case first =>
    by_cases hbad : b1 = false ∨ b2 = false
    · have HN : Hid (none = nextS l t) := (nextS_bad (by have := HB1.out; have := HB2.out; rcases hbad with h | h <;> simp_all)).symm
      have hcs : b1 = false ∨ (b1 = true ∧ b2 = false) := by
        rcases hbad with h | h
        · exact .inl h
        · cases b1
          · exact .inl rfl
          · exact .inr ⟨rfl, h⟩
      clear hbad HB1 HB2
      by_cases hn0 : n = 0
      · subst hn0
        rcases hcs with rfl | ⟨rfl, rfl⟩
        all_goals
          go_wp2
          go_loopw [8] (fun u wr => u = .int .i64 0 ∧ Hid (RNAt w gb none wr)) (fun _ _ => 0)
          case atStart => exact ⟨rfl, HV3⟩
          case round =>
            obtain ⟨rfl, HP⟩ := hrel
            go_wp2_with fail
            go_meet
            exact ⟨none, HN, HP⟩
      · have hn1 : (0 : Int) < (n : Int) := by omega
        rcases hcs with rfl | ⟨rfl, rfl⟩
        all_goals
          go_wp2
          go_loopw [8] (fun u wr => u = .int .i64 0 ∧ Hid (RNAt w gb none wr)) (fun _ _ => 0)
          case atStart => exact ⟨rfl, HV3⟩
          case round =>
            obtain ⟨rfl, HP⟩ := hrel
            go_wp2_with fail
            go_meet
            exact ⟨none, HN, HP⟩
    obtain rfl : b1 = true := by cases b1 with | true => rfl | false => exact absurd (.inl rfl) hbad
    obtain rfl : b2 = true := by cases b2 with | true => rfl | false => exact absurd (.inr rfl) hbad
    clear hbad
    have HOK := Lib.hid ((okL_iff.1 HB1.out).1)
    have HT := Lib.hid (timeB_iff.1 HB2.out)
    have HNX : Hid (nextA l t = nextS l t) := (nextS_is HB1.out HB2.out).symm
    clear HB1 HB2
    go_wp2
    go_loopw [8] (fun u wr => ∃ (k : Nat) (p : Option Int), k ≤ n ∧ u = .int .i64 k ∧ Hid (p = nextN l t k) ∧ Hid (RNAt w gb p wr)) (fun u _ => (n - intOf u).toNat)
    case atStart => exact ⟨0, none, Nat.zero_le _, rfl, rfl, HV3⟩
    case round =>
      obtain ⟨k, p, hk, rfl, HS, HP⟩ := hrel
      clear HV3
      by_cases hlt : k < n
      · obtain ⟨x, hx⟩ := nth_of HL.out hlt
        have hxo := HOK.out x (List.mem_of_getElem? hx)
        obtain ⟨g, o, rfl, ⟨c0, c1, c2⟩⟩ := (HV.out.below HP.out.low).at_ hx
        have hk1 : (k : Int) < (n : Int) := by omega
        have hk0 : (0 : Int) ≤ (k : Int) := by omega
        obtain ⟨m1, m2, m3⟩ := nxt_top hxo HT.out.2
        have JC := Lib.hid (fun v => rjobs_any x hxo t (by have := HT.out.1; omega) HT.out.2 v)
        have HX := Lib.hid hx
        have hnx : nxtD x t = x.d + jobsD x t * x.t := rfl
        have hd1 := hxo.d1
        obtain ⟨j, hj⟩ : ∃ j, jobsD x t = j := ⟨_, rfl⟩
        rw [hj] at m1 m3 JC hnx
        obtain ⟨y, hy⟩ : ∃ y, nxtD x t = y := ⟨_, rfl⟩
        rw [hy] at m2 hnx
        have HY := Lib.hid hy
        have e1 : IntKind.i64.wrap (j * x.t) = j * x.t := IntWalk.i64_in _ (by omega)
        have e2 : IntKind.i64.wrap (x.d + j * x.t) = y := by rw [← hnx]; exact IntWalk.i64_in _ (by omega)
        have HC := Lib.hid (fun w' (hb : Below wr.heap.size wr w') => And.intro (kept_cell hb c0) (And.intro (kept_cell hb c1) (kept_cell hb c2)))
        clear hx hxo hj hy m1 m2 m3 hnx hd1
        go_upto_region 7 with fail
        go_cut [9] (fun u wx => u = .int .i64 y ∧ Hid (Below wr.heap.size wr wx))
        case first =>
          go_region_held3 (fun w' => w'.cell? ⟨g, o + k * 3, none⟩ = some (.int .i64 x.c) ∧ w'.cell? ⟨g, o + k * 3 + 1, none⟩ = some (.int .i64 x.d) ∧ w'.cell? ⟨g, o + k * 3 + 2, none⟩ = some (.int .i64 x.t)) (exact HC.out _ (by repeat (first | exact Below.refl _ _ | (with_reducible assumption) | refine bw_alloc ?_ _ | refine bw_drew ?_))) (first
            | (go_at_call 31; (with_reducible refine (Calls.upV (V := wr) (by repeat (first | exact Below.refl _ _ | (with_reducible assumption) | refine bw_alloc ?_ _ | refine bw_drew ?_)) (JC.out _)).mono ?_); rintro e wj ⟨rfl, bzj, bx1⟩; clear bzj))
          all_goals
            go_wp2_with fail
            go_meet
            exact ⟨rfl, Lib.hid (by repeat (first | exact Below.refl _ _ | (with_reducible assumption) | refine bw_alloc ?_ _ | refine bw_drew ?_))⟩
        case rest =>
          obtain ⟨rfl, HB⟩ := hcut
          have HPW := Lib.hid (HP.out.below HB.out)
          clear JC HC HP HB e1 e2
          have b0 : wc.cell? ⟨gb, 0, none⟩ = some (.int .i64 (p.getD 0)) := by rw [blk_cell HPW.out.bst]; rfl
          have b1 : wc.cell? ⟨gb, 1, none⟩ = some (.bool p.isSome) := by rw [blk_cell HPW.out.bst]; rfl
          have f0 := blk_free HPW.out.bst 0
          have f1 := blk_free HPW.out.bst 1
          have HPUT := Lib.hid (HPW.out.put y)
          cases p with
          | none =>
            have HN : Hid (some y = nextN l t (k + 1)) := by show _ = _; rw [next_new HX.out HS.out.symm, HY.out]
            clear HX HS HY
            go_wp2_with fail
            go_roundw
            case rel => exact ⟨k + 1, some y, by omega, by go_num, HN, HPUT⟩
            case measure => simp [intOf]; omega
          | some b =>
            have hst := next_old HX.out HS.out.symm
            rw [HY.out] at hst
            by_cases q : y < b
            · rw [if_pos q] at hst
              have HN : Hid (some y = nextN l t (k + 1)) := hst.symm
              have q' : y < (some b).getD 0 := q
              clear HX HS HY hst
              go_wp2_with fail
              go_roundw
              case rel => exact ⟨k + 1, some y, by omega, by go_num, HN, HPUT⟩
              case measure => simp [intOf]; omega
            · rw [if_neg q] at hst
              have HN : Hid (some b = nextN l t (k + 1)) := hst.symm
              clear HX HS HY hst
              go_wp2_with fail
              go_roundw
              case rel => exact ⟨k + 1, some b, by omega, by go_num, HN, HPW⟩
              case measure => simp [intOf]; omega
      · obtain rfl : k = n := by omega
        have HE : Hid (p = nextS l t) := by show _ = _; rw [← HNX.out, HS.out]; unfold nextA; rw [HL.out]
        clear HS
        go_wp2_with fail
        go_meet
        exact ⟨p, HE, HP⟩
  case rest =>
    obtain ⟨p, HE, HP⟩ := hcut
    have hr := HP.out.res
    have hb := HP.out.bst
    have f0 := blk_free hr 0
    have f1 := blk_free hr 1
    have r0 : wc.cell? ⟨w.heap.size, 0, none⟩ = some (.int .i64 0) := by rw [blk_cell hr]; rfl
    have r1 : wc.cell? ⟨w.heap.size, 1, none⟩ = some (.bool false) := by rw [blk_cell hr]; rfl
    have b0 : wc.cell? ⟨gb, 0, none⟩ = some (.int .i64 (p.getD 0)) := by rw [blk_cell hb]; rfl
    have b1 : wc.cell? ⟨gb, 1, none⟩ = some (.bool p.isSome) := by rw [blk_cell hb]; rfl
    have HD := Lib.hid (HP.out.ro.done (p.getD 0) p.isSome)
    obtain ⟨P, hP⟩ : ∃ P, p.getD 0 = P := ⟨_, rfl⟩
    obtain ⟨S, hS⟩ : ∃ S, p.isSome = S := ⟨_, rfl⟩
    have HE2 : Hid ((nextS l t).getD 0 = P ∧ (nextS l t).isSome = S) := by rw [← HE.out]; exact ⟨hP, hS⟩
    rw [hP] at b0 HD
    rw [hS] at b1 HD
    clear hr hb HE hP hS HP
    go_wp2_with fail
    obtain ⟨hd, hlow⟩ := HD.out
    unfold Nm at hd
    have q0 := blk_cell (o := 0) hd
    have q1 := blk_cell (o := 1) hd
    refine bodyPost_ret (v := .agg #[.int .i64 P, .bool S]) ?_ rfl ⟨by rw [HE2.out.1, HE2.out.2], hlow⟩
    simp [results, Try.results16, go_sem, q0, q1]
end Go.Proofs.Ytljigfedmjlfgaa

/-
  Rows of numbers without sign.
-/
namespace Go.Proofs.Ytljigfedmjlfgaa
open Go.RowKit Go.Maps

/-- A row of numbers that can be read. -/
def UInts (w : World) (a : Option Addr) (l : List Int) : Prop :=
  l = [] ∨ ∃ g o, a = some ⟨g, o, none⟩ ∧ ∀ (j : Nat) (u : Int), l[j]? = some u → w.cell? ⟨g, o + j, none⟩ = some (.int .u64 u)
theorem UInts.nil {w : World} {a : Option Addr} : UInts w a [] := .inl rfl
theorem UInts.at_ {w : World} {a : Option Addr} {l : List Int} (h : UInts w a l) {k : Nat} {x : Int} (hx : l[k]? = some x) : ∃ g o, a = some ⟨g, o, none⟩ ∧ w.cell? ⟨g, o + k, none⟩ = some (.int .u64 x) := by
  rcases h with rfl | ⟨g, o, rfl, hc⟩
  · simp at hx
  · exact ⟨g, o, rfl, hc _ _ hx⟩
theorem UInts.below {w w' : World} {a : Option Addr} {l : List Int} (h : UInts w a l) (hb : Below w.heap.size w w') : UInts w' a l := by
  rcases h with rfl | ⟨g, o, rfl, hc⟩
  · exact .inl rfl
  · exact .inr ⟨g, o, rfl, fun j u hj => kept_cell hb (hc j u hj)⟩
theorem UInts.take {w : World} {a : Option Addr} {l : List Int} (h : UInts w a l) (k : Nat) : UInts w a (l.take k) := by
  rcases h with rfl | ⟨g, o, rfl, hc⟩
  · left; simp
  · refine .inr ⟨g, o, rfl, fun j u hj => ?_⟩
    rw [List.getElem?_take] at hj
    split at hj
    · exact hc j u hj
    · cases hj
theorem UInts.nothing {w : World} {l : List Int} (h : UInts w none l) : l = [] := by
  rcases h with rfl | ⟨g, o, e, _⟩
  · rfl
  · cases e
theorem UInts.of_block {w : World} {g : Nat} {l : List Int} {cs : Array Value} {T : TypeId} {fr : Nat × Nat} (h : w.heap[g]? = some (.cells cs T fr)) (hl : ∀ (j : Nat) (u : Int), l[j]? = some u → cs[j]? = some (.int .u64 u)) : UInts w (some ⟨g, 0, none⟩) l :=
  .inr ⟨g, 0, rfl, fun j u hj => by rw [Nat.zero_add, blk_cell h]; exact hl j u hj⟩
def vu (l : List Int) : List Value := l.map (Value.int .u64)
theorem vu_one (l : List Int) : ∀ u ∈ vu l, u.oneCell' = true := by
  intro u hu
  obtain ⟨_, _, rfl⟩ := List.mem_map.1 hu
  rfl
theorem vu_at {l : List Int} {j : Nat} {u : Int} (h : l[j]? = some u) : (vu l)[j]? = some (.int .u64 u) := by simp [vu, h]
def OwnU (w : World) (e : TypeId) (B : Nat) (v : Value) (l : List Int) : Prop := w.ownsRow B e 1 v l.length (vu l)
theorem OwnU.nil (w : World) (e : TypeId) (B : Nat) : OwnU w e B (.slice none 0 0) [] := World.ownsRow_nil _ _ _ _
theorem OwnU.made (w : World) (e : TypeId) : OwnU (w.alloc (.cells #[] e)) e w.heap.size (.slice (some ⟨w.heap.size, 0, none⟩) 0 0) [] :=
  World.ownsRow_made (w := w) #[] 0 (Nat.le_refl _) (by decide) rfl
theorem OwnU.slice {w : World} {e : TypeId} {B : Nat} {v : Value} {l : List Int} (h : OwnU w e B v l) : ∃ a cap, v = .slice a l.length cap ∧ UInts w a l ∧ l.length ≤ cap ∧ (cap : Int) ≤ 9223372036854775807 := by
  rcases h.2 with ⟨rfl, h0⟩ | ⟨g, cap, cur, rfl, _, h3, h1, h2, h4, h5⟩
  · exact ⟨none, 0, by rw [h0], .inl (List.length_eq_zero_iff.1 h0), by omega, by omega⟩
  · refine ⟨_, cap, rfl, .inr ⟨g, 0, rfl, fun j u hj => ?_⟩, h1, by unfold maxLen at h2; omega⟩
    rw [Nat.zero_add, blk_cell h3]
    have := vu_at hj
    rw [← h5, List.getElem?_take] at this
    split at this
    · simpa using this
    · cases this
theorem OwnU.new {w : World} {e : TypeId} {B : Nat} {v : Value} {l : List Int} (h : OwnU w e B v l) {k : Nat} (hk : v.ownBlock = some k) : B ≤ k ∧ k < w.heap.size := World.ownsRow.lt h k hk
theorem OwnU.below {w w' : World} {e : TypeId} {B : Nat} {v : Value} {l : List Int} (h : OwnU w e B v l) (hb : Below w.heap.size w w') : OwnU w' e B v l := by
  rcases h with ⟨h0, h | ⟨g, cap, cur, rfl, hB, h3, r⟩⟩
  · exact ⟨h0, .inl h⟩
  · exact ⟨h0, .inr ⟨g, cap, cur, rfl, hB, kept_obj hb h3, r⟩⟩
theorem OwnU.low {w : World} {e : TypeId} {B B' : Nat} {v : Value} {l : List Int} (h : OwnU w e B v l) (hB : B' ≤ B) : OwnU w e B' v l := by
  rcases h with ⟨h0, h | ⟨g, cap, cur, rfl, hb, r⟩⟩
  · exact ⟨h0, .inl h⟩
  · exact ⟨h0, .inr ⟨g, cap, cur, rfl, by omega, r⟩⟩

/-- A slice type of numbers. -/
structure IsNumU (t e : TypeId) : Prop where
  und : Try.prog.underlying t = some (.slice e)
  info : ∃ i, Try.prog.info? e = some i ∧ i.zero = some (.int .u64 0) ∧ i.size = 1 ∧ i.bytes = 8
theorem numU_of {t e : TypeId} (h : Try.prog.underlying t = some (.slice e)) (h2 : (Try.prog.info? e).map (fun i => (i.zero, i.size, i.bytes)) = some (some (.int .u64 0), 1, 8)) : IsNumU t e := by
  obtain ⟨i, h1, h2⟩ := Option.map_eq_some_iff.1 h2
  simp only [Prod.mk.injEq] at h2
  exact ⟨h, i, h1, h2.1, h2.2.1, h2.2.2⟩
theorem append_uints {w : World} {t e : TypeId} (ht : IsNumU t e) {B m c : Nat} {v : Value} {q l : List Int} {ad : Option Addr} (h : OwnU w e B v q) (hB : B ≤ w.heap.size) (hv : UInts w ad l) (hl : l.length = m) (hs : (q.length + m : Int) ≤ 17592186044416) (hn : ad = none → m = 0) (ty : TypeId) :
    ∃ v' w', (Builtin.append_ #[t, t] ty #[v, .slice ad m c]).run Try.prog w = .ok v' w' ∧ OwnU w' e B v' (q ++ l) ∧ w.grownBy w' v.ownBlock ∧ ∀ k, v'.ownBlock = some k → v.ownBlock = some k ∨ w.heap.size ≤ k := by
  obtain ⟨i0, hi, hz0, hz1, hz2⟩ := ht.info
  cases ad with
  | none =>
    obtain rfl := hn rfl
    obtain rfl : l = [] := List.length_eq_zero_iff.1 hl
    refine ⟨v, w, ?_, by rw [List.append_nil]; exact h, ⟨rfl, rfl, rfl, Nat.le_refl _, fun _ _ _ => rfl⟩, fun k hk => .inl hk⟩
    rcases h.2 with ⟨rfl, h0⟩ | ⟨g, cap, cur, rfl, _, h3, h1, h2, h4, h5⟩
    · have hs := Src.ofNil (w := w) (size := i0.size) ht.und c
      simp [Builtin.append_, run_underlying ht.und, sizeOf, typeInfo, hi, hs.len, hs.cells]
    · have := run_append_room_src (P := Try.prog) (w := w) t t ty e i0 ht.und hi g 0 q.length cap (.slice none 0 c) 0 [] (Src.ofNil w ht.und c) (by omega) (fun j hj => absurd hj (Nat.not_lt_zero _)) (fun j hj => absurd hj (Nat.not_lt_zero _))
      simpa [World.setCells] using this
  | some x =>
    have hnews : ∀ j u, (vu l)[j]? = some u → w.cell? (x.add j) = some u := by
      intro j u hj
      rcases hv with rfl | ⟨g, o, e, hc⟩
      · simp [vu] at hj
      · cases e
        simp only [vu, List.getElem?_map, Option.map_eq_some_iff] at hj
        obtain ⟨y, hy, rfl⟩ := hj
        rw [addr_at]; exact hc j y hy
    obtain ⟨v', w', h1, h2, h3, _, h5⟩ := run_append_own_at (P := Try.prog) w B t ty e i0 _ 1 8 ht.und hi hz0 hz1 hz2 rfl (by decide) v q.length (vu q) h x m c (vu l) (by simp [vu, hl]) hnews (vu_one l) (by unfold maxLen; omega) (by omega) hB
    refine ⟨v', w', h1, ?_, h3, fun k hk => ?_⟩
    · unfold OwnU
      rw [List.length_append, hl]
      unfold vu at h2 ⊢
      rw [List.map_append]
      exact h2
    · rcases h5 with z | z
      · left; rw [← z]; exact hk
      · right; rw [z] at hk; cases hk; exact Nat.le_refl _

theorem step_uints {w : World} {t e : TypeId} (ht : IsNumU t e) {ops : Array Oper} {o : Oper} {a : Act} {K : Act → World → Prop} {Q : Exit → Act → World → Prop} {E : Prop} (hgd : o.guard = none) (s x : Operand)
    (ho : o.op = .call { callee := .builtin .append, args := #[s, x], argTypes := #[t, t] }) {B m c : Nat} {v : Value} {q l : List Int} {ad : Option Addr} (hs : a.eval s = v) (hx : a.eval x = .slice ad m c)
    (hown : OwnU w e B v q) (hB : B ≤ w.heap.size) (hv : UInts w ad l) (hl : l.length = m) (hsm : (q.length + m : Int) ≤ 17592186044416) (hn : ad = none → m = 0) (N : Nat) (hN : q.length + m = N)
    (h : ∀ a' cp' w', OwnU w' e B (.slice a' N cp') (q ++ l) → w.grownBy w' v.ownBlock → (∀ k, (Value.slice a' N cp').ownBlock = some k → v.ownBlock = some k ∨ w.heap.size ≤ k) → K (a.put o.dst (.slice a' N cp')) w') :
    if Region.wanted o (yielded ops a.tmps) = true then Oper.wp Try.prog o a w K Q else E := by
  have hw : Region.wanted o (yielded ops a.tmps) = true := by simp [Region.wanted, hgd]
  rw [if_pos hw]
  obtain ⟨v', w', hr, h2, h3, h4⟩ := append_uints ht (c := c) hown hB hv hl hsm hn o.type
  obtain ⟨a', cp', hv', _⟩ := h2.slice
  rw [List.length_append, hl, hN] at hv'
  subst hv'
  unfold Oper.wp execOp
  simp only [ho, resolve, invoke, builtin, Sem.run_bind, Sem.run_pure, Result.andThen_ok, List.map_toArray, List.map_cons, List.map_nil, hs, hx, hr]
  exact h a' cp' w' h2 h3 h4
theorem wp_uints {t e : TypeId} (ht : IsNumU t e) {ops : Array Oper} {rest : List Oper} {o : Oper} {a : Act} {Q : Exit → Act → World → Prop} {w : World} (hgd : o.guard = none) (s x : Operand)
    (ho : o.op = .call { callee := .builtin .append, args := #[s, x], argTypes := #[t, t] }) {B m c : Nat} {v : Value} {q l : List Int} {ad : Option Addr} (hs : a.eval s = v) (hx : a.eval x = .slice ad m c)
    (hown : OwnU w e B v q) (hB : B ≤ w.heap.size) (hv : UInts w ad l) (hl : l.length = m) (hsm : (q.length + m : Int) ≤ 17592186044416) (hn : ad = none → m = 0) (N : Nat) (hN : q.length + m = N)
    (h : ∀ a' cp' w', OwnU w' e B (.slice a' N cp') (q ++ l) → w.grownBy w' v.ownBlock → (∀ k, (Value.slice a' N cp').ownBlock = some k → v.ownBlock = some k ∨ w.heap.size ≤ k) → wpList Try.prog ops Q rest (a.put o.dst (.slice a' N cp')) w') : wpList Try.prog ops Q (o :: rest) a w :=
  wpList_step fun _ hK => step_uints ht hgd s x ho hs hx hown hB hv hl hsm hn N hN (fun a' cp' w' o' g' l' => hK _ _ (h a' cp' w' o' g' l'))
theorem uints_new (w : World) (x : Int) (T : TypeId) : UInts (w.alloc (.cells #[.int .u64 x] T)) (some ⟨w.heap.size, 0, none⟩) [x] :=
  .inr ⟨_, 0, rfl, fun j u hj => by
    match j, hj with
    | 0, hj => simp at hj; subst hj; rw [World.cell?_alloc_new]; rfl
    | j + 1, hj => simp at hj⟩

theorem numU : IsNumU 86 72 := numU_of Try.underlying86 (by kernel_rfl)
end Go.Proofs.Ytljigfedmjlfgaa

/-
  Plain numbers: the greatest divisor and the least multiple of a row. No program in this text.
-/
namespace Go.Proofs.Ytljigfedmjlfgaa

theorem gcd_row (L : List Int) : ∀ s : Int, 0 ≤ s → (∀ z ∈ L, 0 ≤ z) →
    0 ≤ (foldR gcdN (fun _ _ => true) s L).1 ∧ (foldR gcdN (fun _ _ => true) s L).1.toNat ∣ s.toNat ∧ (∀ z ∈ L, (foldR gcdN (fun _ _ => true) s L).1.toNat ∣ z.toNat) ∧
    ∀ d : Nat, d ∣ s.toNat → (∀ z ∈ L, d ∣ z.toNat) → d ∣ (foldR gcdN (fun _ _ => true) s L).1.toNat := by
  induction L with
  | nil => intro s hs _; exact ⟨hs, Nat.dvd_refl _, by simp, fun d h _ => h⟩
  | cons z r ih =>
    intro s hs hz
    rw [foldR_yes rfl]
    have h0 : 0 ≤ gcdN s z := by unfold gcdN; omega
    have e : (gcdN s z).toNat = Nat.gcd s.toNat z.toNat := by unfold gcdN; omega
    obtain ⟨a, b, c, d⟩ := ih (gcdN s z) h0 (fun x hx => hz x (List.mem_cons_of_mem _ hx))
    rw [e] at b d
    refine ⟨a, Nat.dvd_trans b (Nat.gcd_dvd_left _ _), ?_, ?_⟩
    · intro x hx
      rcases List.mem_cons.1 hx with h | h
      · rw [h]; exact Nat.dvd_trans b (Nat.gcd_dvd_right _ _)
      · exact c x h
    · intro k hk hall
      exact d k (Nat.dvd_gcd hk (hall z List.mem_cons_self)) (fun x hx => hall x (List.mem_cons_of_mem _ hx))

theorem lcm_step (x y : Nat) (hy : 0 < y) : lcmN x y = (if Nat.lcm x y < 18446744073709551616 then ((Nat.lcm x y : Nat) : Int) else 0) ∧ lcmB x y = decide (Nat.lcm x y < 18446744073709551616) := by
  have hy' : ¬ (y : Int) = 0 := by omega
  have e : (x : Int) / (Nat.gcd x y : Nat) * y = ((Nat.lcm x y : Nat) : Int) := by
    have : Nat.lcm x y = x / Nat.gcd x y * y := by
      unfold Nat.lcm; exact (Nat.div_mul_right_comm (Nat.gcd_dvd_left x y) y).symm
    rw [this]; simp
  unfold lcmN lcmB mulN mulB
  rw [if_neg hy', if_neg hy', Int.toNat_natCast, Int.toNat_natCast, e]
  constructor
  · split <;> split <;> omega
  · congr 1
    exact propext ⟨fun h => by omega, fun h => by omega⟩

/-- The fold over multiples: what it answers if it is one, and why it is none. -/
theorem lcm_row (L : List Int) : ∀ s : Int, 0 < s → (∀ z ∈ L, 0 ≤ z) →
    ((foldR lcmN lcmB s L).2 = true → 0 < (foldR lcmN lcmB s L).1 ∧ s.toNat ∣ (foldR lcmN lcmB s L).1.toNat ∧ (∀ z ∈ L, 0 < z ∧ z.toNat ∣ (foldR lcmN lcmB s L).1.toNat) ∧
      (L ≠ [] → (foldR lcmN lcmB s L).1 < 18446744073709551616) ∧ ∀ m : Nat, s.toNat ∣ m → (∀ z ∈ L, z.toNat ∣ m) → (foldR lcmN lcmB s L).1.toNat ∣ m) ∧
    ((foldR lcmN lcmB s L).2 = false → (foldR lcmN lcmB s L).1 = 0 ∧ ((∃ z ∈ L, z = 0) ∨ ∀ m : Nat, 0 < m → s.toNat ∣ m → (∀ z ∈ L, z.toNat ∣ m) → 18446744073709551616 ≤ m)) := by
  induction L with
  | nil =>
    intro s hs _
    rw [foldR_nil]
    exact ⟨fun _ => ⟨hs, Nat.dvd_refl _, by simp, fun h => absurd rfl h, fun m h _ => h⟩, fun h => by cases h⟩
  | cons z r ih =>
    intro s hs hz
    have hz0 := hz z List.mem_cons_self
    obtain ⟨x, rfl⟩ := Int.eq_ofNat_of_zero_le (Int.le_of_lt hs)
    obtain ⟨y, rfl⟩ := Int.eq_ofNat_of_zero_le hz0
    by_cases hy : y = 0
    · subst hy
      have hB : lcmB x ((0 : Nat) : Int) = false := by simp [lcmB]
      have hN : lcmN x ((0 : Nat) : Int) = 0 := by simp [lcmN]
      rw [foldR_no hB, hN]
      exact ⟨fun h => (by cases h), fun _ => ⟨rfl, .inl ⟨_, List.mem_cons_self, rfl⟩⟩⟩
    · obtain ⟨hN, hB⟩ := lcm_step x y (by omega)
      by_cases h : Nat.lcm x y < 18446744073709551616
      · have hB' : lcmB x y = true := by rw [hB]; exact decide_eq_true h
        rw [foldR_yes hB', hN, if_pos h]
        have hl : 0 < Nat.lcm x y := Nat.lcm_pos (by omega) (by omega)
        obtain ⟨i1, i2⟩ := ih ((Nat.lcm x y : Nat) : Int) (by omega) (fun x hx => hz x (List.mem_cons_of_mem _ hx))
        refine ⟨fun ht => ?_, fun hf => ?_⟩
        · obtain ⟨a, b, c, d, e⟩ := i1 ht
          rw [Int.toNat_natCast] at b e ⊢
          refine ⟨a, Nat.dvd_trans (Nat.dvd_lcm_left x y) b, ?_, fun _ => ?_, ?_⟩
          · intro u hu
            rcases List.mem_cons.1 hu with g | g
            · rw [g, Int.toNat_natCast]; exact ⟨by omega, Nat.dvd_trans (Nat.dvd_lcm_right x y) b⟩
            · exact c u g
          · cases r with
            | nil => rw [foldR_nil]; show ((Nat.lcm x y : Nat) : Int) < _; omega
            | cons _ _ => exact d (by simp)
          · intro m hm hall
            refine e m (Nat.lcm_dvd hm ?_) (fun u hu => hall u (List.mem_cons_of_mem _ hu))
            have := hall y List.mem_cons_self
            rwa [Int.toNat_natCast] at this
        · obtain ⟨a, b⟩ := i2 hf
          refine ⟨a, ?_⟩
          rcases b with ⟨u, hu, hu0⟩ | b
          · exact .inl ⟨u, List.mem_cons_of_mem _ hu, hu0⟩
          · right
            intro m hm hsm hall
            refine b m hm ?_ (fun u hu => hall u (List.mem_cons_of_mem _ hu))
            rw [Int.toNat_natCast] at hsm ⊢
            have := hall y List.mem_cons_self
            rw [Int.toNat_natCast] at this
            exact Nat.lcm_dvd hsm this
      · have hB' : lcmB x y = false := by rw [hB]; exact decide_eq_false h
        rw [foldR_no hB', hN, if_neg h]
        refine ⟨fun ht => (by cases ht), fun _ => ⟨rfl, .inr ?_⟩⟩
        intro m hm hsm hall
        rw [Int.toNat_natCast] at hsm
        have := hall y List.mem_cons_self
        rw [Int.toNat_natCast] at this
        have := Nat.le_of_dvd hm (Nat.lcm_dvd hsm this)
        omega

/-- Of two numbers below 2^31 and 1: divisor and multiple. -/
theorem pair_row (x y : Nat) (hx : 0 < x) (hy : 0 < y) (hx1 : x ≤ 2147483648) (hy1 : y ≤ 2147483648) :
    ∃ h t u k : Nat, foldR gcdN (fun _ _ => true) 0 [(x : Int), (y : Int)] = ((h : Int), true) ∧ foldR lcmN lcmB 1 [(x : Int), (y : Int)] = ((k : Int), true) ∧
      0 < h ∧ h ≤ x ∧ 0 < k ∧ k < 18446744073709551616 ∧ k / h = t ∧ h * t = k ∧ k / x = u ∧ u * h = y := by
  have hh : 0 < Nat.gcd x y := Nat.gcd_pos_of_pos_left y hx
  obtain ⟨a, ha⟩ := Nat.gcd_dvd_left x y
  obtain ⟨b, hb⟩ := Nat.gcd_dvd_right x y
  have hk : Nat.lcm x y = x * b := by
    unfold Nat.lcm
    generalize Nat.gcd x y = g at *
    rw [hb, Nat.mul_comm g b, ← Nat.mul_assoc]
    exact Nat.mul_div_cancel _ hh
  have hkpos : 0 < Nat.lcm x y := Nat.lcm_pos hx hy
  have hkle : Nat.lcm x y ≤ 2147483648 * 2147483648 := Nat.le_trans (Nat.le_of_dvd (Nat.mul_pos hx hy) (Nat.lcm_dvd (Nat.dvd_mul_right x y) (Nat.dvd_mul_left y x))) (Nat.mul_le_mul hx1 hy1)
  have e1 : foldR gcdN (fun _ _ => true) 0 [(x : Int), (y : Int)] = (((Nat.gcd x y : Nat) : Int), true) := by
    rw [foldR_yes rfl, foldR_yes rfl, foldR_nil]
    simp [gcdN]
  obtain ⟨s1, s2⟩ := lcm_step 1 x hx
  obtain ⟨s3, s4⟩ := lcm_step x y hy
  rw [Nat.lcm_one_left] at s1 s2
  rw [if_pos (by omega)] at s1 s3
  have e2 : foldR lcmN lcmB 1 [(x : Int), (y : Int)] = (((Nat.lcm x y : Nat) : Int), true) := by
    have q1 : lcmB 1 (x : Int) = true := by rw [show (1 : Int) = ((1 : Nat) : Int) from rfl, s2]; exact decide_eq_true (by omega)
    rw [foldR_yes q1, show (1 : Int) = ((1 : Nat) : Int) from rfl, s1]
    have q2 : lcmB (x : Int) (y : Int) = true := by rw [s4]; exact decide_eq_true (by omega)
    rw [foldR_yes q2, foldR_nil, s3]
  refine ⟨Nat.gcd x y, Nat.lcm x y / Nat.gcd x y, b, Nat.lcm x y, e1, e2, hh, Nat.gcd_le_left y hx, hkpos, by omega, rfl, ?_, ?_, ?_⟩
  · exact Nat.mul_div_cancel' (Nat.dvd_trans (Nat.gcd_dvd_left x y) (Nat.dvd_lcm_left x y))
  · rw [hk]; exact Nat.mul_div_cancel_left _ hx
  · rw [Nat.mul_comm]; exact hb.symm

end Go.Proofs.Ytljigfedmjlfgaa

/-
  The walk over the document's own least multiple.
-/
namespace Go.Proofs.Ytljigfedmjlfgaa
open Go.RowKit

set_option maxRecDepth 100000 in
theorem lcm_with_zero (zs : List Int) (hz : ∀ z ∈ zs, U64 z) (h : ∃ z ∈ zs, z = 0) : foldR lcmN lcmB 1 zs = (0, false) := by
  obtain ⟨l1, l2⟩ := lcm_row zs 1 (by omega) (fun z h => (hz z h).1)
  obtain ⟨z, hm, h0⟩ := h
  generalize foldR lcmN lcmB 1 zs = r at l1 l2
  obtain ⟨n, ok⟩ := r
  cases ok with
  | true => have := ((l1 rfl).2.2.1 z hm).1; omega
  | false => have := (l2 rfl).1; simp only at this; rw [this]

set_option maxHeartbeats 1000000 in
set_option maxRecDepth 100000 in
theorem rlcm_any (zs : List Int) (hz : ∀ z ∈ zs, U64 z) (hn : (zs.length : Int) ≤ 9223372036854775807) (cap : Nat) (ao : Option Addr) (w : World) (hr : Reads w w.heap.size ao zs) :
    Calls Try.prog 49 #[.slice ao zs.length cap] w fun e w' => e = .returned (.agg #[.int .u64 (foldR lcmN lcmB 1 zs).1, .bool (foldR lcmN lcmB 1 zs).2]) ∧ Below w.heap.size w w' := by
  have HZ0 := Lib.hid (lcm_with_zero zs hz)
  have HR := Lib.hid hr; clear hr
  have HZ := Lib.hid hz; clear hz
  have H0 : Hid (true = true → foldR lcmN lcmB 1 (zs.drop 0) = foldR lcmN lcmB 1 zs) := by rw [List.drop_zero]; exact fun _ => rfl
  generalize foldR lcmN lcmB 1 zs = res at H0 HZ0 ⊢
  go_enter Try.func49, Try.ntmps49
  go_wp2
  go_loop [4] (fun i => ∃ (k : Nat), k ≤ zs.length ∧ Hid (∀ j, j < k → zs.getD j 0 ≠ 0) ∧ i = .int .i64 k) (fun i => zs.length - (intOf i).toNat)
  case atStart => exact ⟨0, Nat.zero_le _, fun j hj => absurd hj (Nat.not_lt_zero _), rfl⟩
  case round =>
    obtain ⟨k, hk, hnz, rfl⟩ := hrel
    by_cases hlt : k < zs.length
    · have hmem : zs.getD k 0 ∈ zs := by rw [List.getD_eq_getElem?_getD, List.getElem?_eq_getElem hlt]; exact List.getElem_mem _
      obtain ⟨b, off, rfl, hb, hcells⟩ : ∃ b off, ao = some ⟨b, off, none⟩ ∧ b < w.heap.size ∧ ∀ k, k < zs.length → w.cell? ⟨b, off + k, none⟩ = some (.int .u64 (zs.getD k 0)) := by
        rcases HR.out with h | h
        · rw [h] at hlt; exact absurd hlt (Nat.not_lt_zero _)
        · exact h
      have hc := hcells k hlt
      clear hcells
      by_cases hzz : zs.getD k 0 = 0
      · have hres : res = (0, false) := HZ0.out ⟨_, hmem, hzz⟩
        rw [hzz] at hc
        clear hmem hzz
        go_wp2
        refine bodyPost_ret (v := .agg #[.int .u64 0, .bool false]) (by simp [results, Try.results49, go_sem]) rfl ⟨rfl, ((Below.refl _ _).alloc (Nat.le_refl _) _).alloc (by simp) _⟩
      · have hne : (zs.getD k 0 == 0) = false := by rw [beq_eq_false_iff_ne]; exact hzz
        have hnz' : Hid (∀ j, j < k + 1 → zs.getD j 0 ≠ 0) := by
          intro j hj
          rcases (show j < k ∨ j = k by omega) with h | h
          · exact hnz.out j h
          · rw [h]; exact hzz
        generalize zs.getD k 0 = z at hc hne
        clear hmem hzz hnz
        go_wp2
        go_round
        case rel => exact ⟨k + 1, hlt, hnz', by go_num⟩
        case measure => simp [intOf]; omega
    · have hke : k = zs.length := by omega
      subst hke
      go_wp2
      go_loopw [5] (fun i wr => ∃ (k : Nat) (a : Int) (ok : Bool), k ≤ zs.length ∧ (ok = true → 0 < a) ∧ U64 a ∧ Hid (if ok = true then foldR lcmN lcmB a (zs.drop k) = res else res = (a, false)) ∧ i = .int .i64 k ∧
        wr.cell? ⟨w.heap.size + 1, 0, none⟩ = some (.int .u64 a) ∧ wr.cell? ⟨w.heap.size + 1, 1, none⟩ = some (.bool ok) ∧ wr.frozen? ⟨w.heap.size + 1, 0, none⟩ = false ∧ wr.frozen? ⟨w.heap.size + 1, 1, none⟩ = false ∧
        (∃ v0, wr.cell? ⟨w.heap.size, 0, none⟩ = some v0) ∧ (∃ v1, wr.cell? ⟨w.heap.size, 1, none⟩ = some v1) ∧ wr.frozen? ⟨w.heap.size, 0, none⟩ = false ∧ wr.frozen? ⟨w.heap.size, 1, none⟩ = false ∧
        w.heap.size + 2 ≤ wr.heap.size ∧ Below w.heap.size w wr) (fun i _ => zs.length - (intOf i).toNat)
      case atStart =>
        refine ⟨0, 1, true, Nat.zero_le _, fun _ => by omega, ⟨by omega, by omega⟩, by simpa using H0, rfl, by simp, by simp, by simp, by simp, ⟨.int .u64 0, by simp⟩, ⟨.bool false, by simp⟩, by simp, by simp, by simp, ((Below.refl _ _).alloc (Nat.le_refl _) _).alloc (by simp) _⟩
      case round =>
        clear hlt hk
        obtain ⟨k, a, ok, hk, ha0, ha, hres, rfl, c0, c1, f0, f1, ⟨v0, r0⟩, ⟨v1, r1⟩, g0, g1, hsz, hbel⟩ := hrel
        by_cases hlt : k < zs.length
        · have hz : U64 (zs.getD k 0) := HZ.out _ (by rw [List.getD_eq_getElem?_getD, List.getElem?_eq_getElem hlt]; exact List.getElem_mem _)
          have hd := drop_cons zs k hlt
          obtain ⟨b, off, rfl, hb, hcells⟩ : ∃ b off, ao = some ⟨b, off, none⟩ ∧ b < w.heap.size ∧ ∀ k, k < zs.length → wr.cell? ⟨b, off + k, none⟩ = some (.int .u64 (zs.getD k 0)) := by
            rcases HR.out.below hbel with h | h
            · rw [h] at hlt; exact absurd hlt (Nat.not_lt_zero _)
            · exact h
          have hc := hcells k hlt
          have hzne := hnz.out k hlt
          clear hcells
          cases ok with
          | true =>
            have H1 : foldR lcmN lcmB a (zs.drop k) = res := by have := hres.out; simpa using this
            rw [hd] at H1
            generalize zs.getD k 0 = z at hc H1 hz hzne
            have ha0 := ha0 rfl
            have hgood := lcmN_good ha ha0 hz
            have hs : U64 (lcmN a z) := by
              by_cases h : lcmB a z = true
              · exact (hgood h).1
              · unfold lcmN; rw [if_neg hzne]; unfold lcmB at h; rw [if_neg hzne] at h
                unfold mulB at h; unfold mulN
                rw [if_neg (by simpa using h)]; exact ⟨by omega, by omega⟩
            have H2 : Hid (if lcmB a z = true then foldR lcmN lcmB (lcmN a z) (zs.drop (k + 1)) = res else res = (lcmN a z, false)) := by
              by_cases h : lcmB a z = true
              · rw [foldR_yes h] at H1; rw [if_pos h]; exact H1
              · rw [if_neg h]; rw [foldR_no (by simpa using h)] at H1; exact H1.symm
            obtain ⟨x, rfl⟩ := Int.eq_ofNat_of_zero_le ha.1
            obtain ⟨y, rfl⟩ := Int.eq_ofNat_of_zero_le hz.1
            have hax := ha.2; have hzy := hz.2
            have G := rgcd_any x y (by omega) (by omega)
            have hg : 1 ≤ ((Nat.gcd x y : Nat) : Int) := by have := Nat.gcd_pos_of_pos_left y (show 0 < x by omega); omega
            have hN : lcmN x y = mulN ((x : Int) / (Nat.gcd x y : Nat)) y := by unfold lcmN; rw [if_neg hzne, Int.toNat_natCast, Int.toNat_natCast]
            have hB : lcmB x y = mulB ((x : Int) / (Nat.gcd x y : Nat)) y := by unfold lcmB; rw [if_neg hzne, Int.toNat_natCast, Int.toNat_natCast]
            generalize Nat.gcd x y = g at G hg hN hB
            have h1 : 0 ≤ (x : Int) / g := Int.ediv_nonneg (by omega) (by omega)
            have h2 : (x : Int) / g ≤ x := Int.ediv_le_self _ (by omega)
            have M := rmul_any ((x : Int) / g) y ⟨h1, by omega⟩ hz
            rw [← hN, ← hB] at M
            clear hN hB
            have hl := fun h => (hgood h).2
            generalize lcmN x y = s at M hs H2 hl
            generalize lcmB x y = sb at M H2 hl
            have HL := Lib.hid hl
            have M := Lib.hid M
            have G := Lib.hid G
            have h3 : (x : Int) / g ≤ 18446744073709551615 := by omega
            have hg1 : ((g : Int) == 0) = false := by rw [beq_eq_false_iff_ne]; omega
            have hg2 : ¬ (g : Int) = 0 := by omega
            have hg3 : ¬ g = 0 := by omega
            clear H1 hres hd h2 hl hgood
            go_wp2_with (fail)
            go_still_tail 14, (by kernel_rfl)
            still_call ((G.out _).mono fun _ _ h => ⟨h.1, h.2.symm⟩)
            repeat still_step
            refine wpStill_nil ?_
            go_wp2_with (go_at_call 32; (refine (M.out _).mono ?_); rintro e w' ⟨rfl, hw⟩; have d0 := l_kept_cell hw c0; have d1 := l_kept_cell hw c1; have d2 := kept_frozen hw c0 f0; have d3 := kept_frozen hw c1 f1)
            go_roundw
            case rel =>
              obtain ⟨e1, e2, e3, e4, e5, e6⟩ := two_set (.int .u64 s) (.bool sb) d0 d1
              exact ⟨k + 1, s, sb, hlt, HL.out, hs, H2, by go_num, e1, e2, by rw [e4]; exact d2, by rw [e4]; exact d3, ⟨v0, by rw [e3 _ _ (by omega)]; exact l_kept_cell hw r0⟩, ⟨v1, by rw [e3 _ _ (by omega)]; exact l_kept_cell hw r1⟩, by rw [e4]; exact kept_frozen hw r0 g0, by rw [e4]; exact kept_frozen hw r1 g1,
                by rw [e5]; exact Nat.le_trans hsz hw.size, e6 _ _ (hbel.drew.trans (hw.mono hbel.size)) (by omega)⟩
            case measure => simp [intOf]; omega
          | false =>
            have H1 : res = (a, false) := by have := hres.out; simpa using this
            clear hres hd
            go_wp2
            obtain ⟨e1, e2, _, _, _, e6⟩ := two_set (.int .u64 a) (.bool false) r0 r1
            refine bodyPost_ret (v := .agg #[.int .u64 a, .bool false]) (by simp [results, Try.results49, go_sem, e1, e2]) rfl ⟨by rw [H1], e6 _ _ hbel (Nat.le_refl _)⟩
        · have hke : k = zs.length := by omega
          subst hke
          have H1 : res = (a, ok) := by
            have := hres.out
            rw [List.drop_length, foldR_nil] at this
            cases ok with
            | true => simpa using this.symm
            | false => simpa using this
          clear hres
          go_wp2
          obtain ⟨e1, e2, _, _, _, e6⟩ := two_set (.int .u64 a) (.bool ok) r0 r1
          refine bodyPost_ret (v := .agg #[.int .u64 a, .bool ok]) (by simp [results, Try.results49, go_sem, e1, e2]) rfl ⟨by rw [H1], e6 _ _ hbel (Nat.le_refl _)⟩

end Go.Proofs.Ytljigfedmjlfgaa

/-
  The walks over the document's period, and a period's work.
-/
namespace Go.Proofs.Ytljigfedmjlfgaa
open Go.RowKit Go.Maps

/-- The least multiple of all periods, and whether it is one. -/
def perR (l : List Dm) : Int × Bool := foldR lcmN lcmB 1 (l.map Dm.t)
/-- The period, or why there is none. -/
def perS (l : List Dm) : Int × Int := if okL l = true then (if (perR l).2 = true ∧ (perR l).1 ≤ 1048576 then ((perR l).1, 0) else (0, 16)) else (0, 1)
theorem perS_bad {l : List Dm} (h : okL l = false) : perS l = (0, 1) := if_neg (by rw [h]; simp)
theorem perS_is {l : List Dm} (h : okL l = true) (h1 : (perR l).2 = true) (h2 : (perR l).1 ≤ 1048576) : perS l = ((perR l).1, 0) := by unfold perS; rw [if_pos h, if_pos ⟨h1, h2⟩]
theorem perS_not {l : List Dm} (h : okL l = true) (h1 : ¬ ((perR l).2 = true ∧ (perR l).1 ≤ 1048576)) : perS l = (0, 16) := by unfold perS; rw [if_pos h, if_neg h1]
theorem per_row {l : List Dm} (h : okL l = true) : ∀ z ∈ l.map Dm.t, 0 < z ∧ z ≤ 1073741824 := fun z hz => by
  obtain ⟨x, hx, rfl⟩ := List.mem_map.1 hz
  have q := (okL_iff.1 h).1 x hx
  have := q.d1; have := q.d2; have := q.t2
  omega
theorem per_pos {l : List Dm} (h : okL l = true) : 0 ≤ (perR l).1 ∧ ((perR l).2 = true → 0 < (perR l).1 ∧ ∀ x ∈ l, x.t ∣ (perR l).1) := by
  obtain ⟨l1, l2⟩ := lcm_row (l.map Dm.t) 1 (by omega) (fun z hz => by have := per_row h z hz; omega)
  unfold perR
  generalize foldR lcmN lcmB 1 (l.map Dm.t) = r at l1 l2 ⊢
  cases hr : r.2 with
  | false => exact ⟨by have := (l2 hr).1; omega, fun q => by cases q⟩
  | true =>
    obtain ⟨p1, _, p2, _⟩ := l1 hr
    refine ⟨by omega, fun _ => ⟨p1, fun x hx => ?_⟩⟩
    obtain ⟨q1, q2⟩ := p2 x.t (List.mem_map.2 ⟨x, hx, rfl⟩)
    have := Int.natCast_dvd_natCast.2 q2
    rwa [Int.toNat_of_nonneg (by omega), Int.toNat_of_nonneg (by omega)] at this
theorem reads_of {w : World} {a : Option Addr} {l : List Int} (h : UInts w a l) : Reads w w.heap.size a l := by
  rcases h with rfl | ⟨g, o, rfl, hc⟩
  · exact .inl rfl
  · cases l with
    | nil => exact .inl rfl
    | cons x l =>
      refine .inr ⟨g, o, rfl, block_of_cell (hc 0 x rfl), fun k hk => hc k _ ?_⟩
      rw [List.getD_eq_getElem?_getD, List.getElem?_eq_getElem hk]; rfl

set_option maxRecDepth 100000 in
set_option maxHeartbeats 8000000 in
theorem rperiod_any (l : List Dm) (n c : Nat) (hl : l.length = n) (hn : (n : Int) ≤ 9223372036854775807) (a : Option Addr) (w : World) (hv : GView w a l) :
    Calls Try.prog 28 #[.slice a n c] w fun e w' => e = .returned (.tuple #[.int .i64 (perS l).1, .int .i64 (perS l).2]) ∧ Below w.heap.size w w' := by
  have HV := Lib.hid hv
  have HL := Lib.hid hl
  have RC := Lib.hid (fun v (hb : Below w.heap.size w v) => rcheck_any l n c hl hn a v (hv.below hb))
  clear hv hl
  by_cases hok : okL l = true
  rotate_left
  · have hok' : okL l = false := by cases e : okL l with | true => exact absurd e hok | false => rfl
    have HP := Lib.hid (perS_bad hok')
    rw [hok'] at RC
    clear hok hok'
    go_enter Try.func28, Try.ntmps28
    go_wp2_with (go_at_call 29; (with_reducible refine (RC.out _ (by repeat (first | exact Below.refl _ _ | (with_reducible assumption) | refine bw_alloc ?_ _ | refine bw_drew ?_))).mono ?_); rintro e w1 ⟨rfl, bx1⟩)
    go_ret2
    exact ⟨by rw [HP.out]; rfl, bx1⟩
  have HOK := Lib.hid hok
  rw [hok] at RC
  have HR := Lib.hid (per_row hok)
  have hn64 : n ≤ 64 := by have := (okL_iff.1 hok).2; have := HL.out; omega
  clear hok
  go_enter Try.func28, Try.ntmps28
  go_upto_region 2 with (go_at_call 29; (with_reducible refine (RC.out _ (by repeat (first | exact Below.refl _ _ | (with_reducible assumption) | refine bw_alloc ?_ _ | refine bw_drew ?_))).mono ?_); rintro e w1 ⟨rfl, bx1⟩; have HB1 := Lib.hid bx1; clear bx1)
  go_upto_block 0 with fail
  go_cut [5] (fun u wx => ∃ (a' : Option Addr) (c' : Nat), u = .slice a' n c' ∧ Hid (UInts wx a' (l.map Dm.t)) ∧ Hid (Below w.heap.size w wx))
  case first =>
    go_wp2
    go_loopw [5, 6] (fun g u wr => ∃ (k : Nat) (a' : Option Addr) (c' : Nat), k ≤ n ∧ u = .int .i64 k ∧ g = .slice a' k c' ∧ Hid (OwnU wr 72 w1.heap.size (.slice a' k c') ((l.take k).map Dm.t)) ∧ Hid (Below w1.heap.size w1 wr)) (fun _ u _ => (n - intOf u).toNat)
    case atStart => exact ⟨0, none, 0, Nat.zero_le _, rfl, rfl, OwnU.nil _ _ _, Below.refl _ _⟩
    case round =>
      obtain ⟨k, a', c', hk, rfl, rfl, HO, HB⟩ := hrel
      by_cases hlt : k < n
      · obtain ⟨x, hx⟩ := nth_of HL.out hlt
        obtain ⟨g, o, rfl, ⟨c0, c1, c2⟩⟩ := (HV.out.below (below_up HB1.out HB.out)).at_ hx
        have hk1 : (k : Int) < (n : Int) := by omega
        have hk0 : (0 : Int) ≤ (k : Int) := by omega
        have hxt := HR.out x.t (List.mem_map.2 ⟨x, List.mem_of_getElem? hx, rfl⟩)
        have e1 : IntKind.u64.wrap x.t = x.t := IntWalk.u64_in _ (by omega)
        have HX : Hid ((l.take (k + 1)).map Dm.t = (l.take k).map Dm.t ++ [x.t]) := by show _ = _; rw [List.take_add_one, hx, List.map_append]; rfl
        have HLN : Hid (((l.take k).map Dm.t).length = k) := by show _ = _; rw [List.length_map, List.length_take]; have := HL.out; omega
        have HSM : Hid (((((l.take k).map Dm.t).length + 1 : Nat) : Int) ≤ 17592186044416) := by show _ ≤ _; rw [HLN.out]; omega
        have HNN : Hid (((l.take k).map Dm.t).length + 1 = k + 1) := by show _ = _; rw [HLN.out]
        have HSZ : Hid (w1.heap.size ≤ wr.heap.size) := HB.out.size
        generalize (l.take k).map Dm.t = Q at *
        clear hx hxt c0 c1
        go_wp2_with (at_builtin; refine wp_uints numU (m := 1) (l := [x.t]) rfl _ _ rfl rfl rfl (HO.out.below (by repeat (first | exact Below.refl _ _ | (with_reducible assumption) | refine bw_alloc ?_ _ | refine bw_drew ?_))) (Nat.le_trans HSZ.out ((by repeat (first | exact Below.refl _ _ | (with_reducible assumption) | refine bw_alloc ?_ _ | refine bw_drew ?_)) : Below wr.heap.size wr _).size) (uints_new wr x.t _) rfl (by have := HSM.out; omega) (fun z => by cases z) (k + 1) HNN.out ?_; intro a6 c6 w6 o6 n6 l6; rw [← HX.out] at o6; have HO6 := Lib.hid o6; have HB6 : Hid (Below w1.heap.size w1 w6) := (HB.out.trans (((by repeat (first | exact Below.refl _ _ | (with_reducible assumption) | refine bw_alloc ?_ _ | refine bw_drew ?_)) : Below wr.heap.size wr _).mono HSZ.out)).grown n6 (Nat.le_trans HSZ.out ((by repeat (first | exact Below.refl _ _ | (with_reducible assumption) | refine bw_alloc ?_ _ | refine bw_drew ?_)) : Below wr.heap.size wr _).size) (fun q hq => (OwnU.new (HO.out.below (by repeat (first | exact Below.refl _ _ | (with_reducible assumption) | refine bw_alloc ?_ _ | refine bw_drew ?_))) hq).1); clear o6 n6 l6)
        go_roundw
        case rel => exact ⟨k + 1, a6, c6, by omega, by go_num, rfl, HO6, HB6⟩
        case measure => simp [intOf]; omega
      · obtain rfl : k = n := by omega
        have HE : Hid (UInts wr a' (l.map Dm.t)) := by
          obtain ⟨a9, c9, e9, hu, _⟩ := HO.out.slice
          obtain ⟨rfl, _, rfl⟩ := Value.slice.inj e9
          have : (l.take k).map Dm.t = l.map Dm.t := by rw [List.take_of_length_le (by have := HL.out; omega)]
          rw [this] at hu; exact hu
        have HBB := Lib.hid (below_up HB1.out HB.out)
        clear HO HB
        go_wp2_with fail
        go_meet
        exact ⟨a', c', rfl, HE, HBB⟩
  case rest =>
    obtain ⟨a', c', rfl, HU, HB⟩ := hcut
    have LC : Hid (∀ v, Below wc.heap.size wc v → Calls Try.prog 49 #[.slice a' n c'] v fun e w' => e = .returned (.agg #[.int .u64 (perR l).1, .bool (perR l).2]) ∧ Below v.heap.size v w') := fun v hb => by
      have := rlcm_any (l.map Dm.t) (fun z hz => by have := HR.out z hz; exact ⟨by omega, by omega⟩) (by rw [List.length_map, HL.out]; omega) c' a' v (reads_of (HU.out.below hb))
      rw [List.length_map, HL.out] at this
      exact this
    have hp := per_pos HOK.out
    have HS1 := Lib.hid (fun h1 h2 => perS_is HOK.out h1 h2)
    have HS2 := Lib.hid (fun h => perS_not HOK.out h)
    generalize (perR l).1 = P at *
    generalize (perR l).2 = pb at *
    clear HR HU HOK
    go_upto_region 10 with (go_at_call 49; (with_reducible refine (LC.out _ (by repeat (first | exact Below.refl _ _ | (with_reducible assumption) | refine bw_alloc ?_ _ | refine bw_drew ?_))).mono ?_); rintro e w5 ⟨rfl, bx5⟩; have HB5 := Lib.hid (below_up HB.out bx5); clear bx5)
    obtain ⟨gx, hgx⟩ : ∃ gx, w5.heap.size = gx := ⟨_, rfl⟩
    have hq := gt_new w5 P pb
    rw [hgx] at hq ⊢
    refine gen_world (fun v => Gt v gx P pb ∧ Below w.heap.size w v) ⟨hq, below_up HB5.out (by repeat (first | exact Below.refl _ _ | (with_reducible assumption) | refine bw_alloc ?_ _ | refine bw_drew ?_))⟩ ?_
    intro V6 ⟨hx6, hb6⟩
    have HB6 := Lib.hid hb6
    have x0 : V6.cell? ⟨gx, 0, none⟩ = some (.int .u64 P) := by rw [blk_cell hx6]; rfl
    have x1 : V6.cell? ⟨gx, 1, none⟩ = some (.bool pb) := by rw [blk_cell hx6]; rfl
    clear hx6 hb6 hq hgx HB5 LC HB
    cases pb with
    | false =>
      have HE := Lib.hid (HS2.out (fun h => by cases h.1))
      clear hp HS1 HS2
      go_wp2_with fail
      go_ret2
      exact ⟨by rw [HE.out]; rfl, HB6.out⟩
    | true =>
      by_cases hq : P ≤ 1048576
      · have hq1 : ¬ 1048576 < P := by omega
        have HE := Lib.hid (HS1.out rfl hq)
        have e1 : IntKind.i64.wrap P = P := IntWalk.i64_in _ (by omega)
        clear hp HS1 HS2 hq
        go_wp2_with fail
        go_ret2
        exact ⟨by rw [HE.out]; rfl, HB6.out⟩
      · have hq1 : 1048576 < P := by omega
        have HE := Lib.hid (HS2.out (fun h => hq h.2))
        clear hp HS1 HS2 hq
        go_wp2_with fail
        go_ret2
        exact ⟨by rw [HE.out]; rfl, HB6.out⟩
end Go.Proofs.Ytljigfedmjlfgaa

/-
  The walk over the document's work of a period.
-/
namespace Go.Proofs.Ytljigfedmjlfgaa
open Go.RowKit Go.Maps

/-- The work of a period, the period, or why there is none. -/
def ldS (l : List Dm) : Int × Int × Int := if (perS l).2 = 0 then (if loadN l (perS l).1 l.length ≤ 4611686018427387904 then (loadN l (perS l).1 l.length, (perS l).1, 0) else (0, 0, 16)) else (0, 0, (perS l).2)
theorem ldS_bad {l : List Dm} (h : (perS l).2 ≠ 0) : ldS l = (0, 0, (perS l).2) := if_neg h
theorem ldS_is {l : List Dm} (h : (perS l).2 = 0) (h1 : loadN l (perS l).1 l.length ≤ 4611686018427387904) : ldS l = (loadN l (perS l).1 l.length, (perS l).1, 0) := by unfold ldS; rw [if_pos h, if_pos h1]
theorem ldS_over {l : List Dm} (h : (perS l).2 = 0) (h1 : 4611686018427387904 < loadN l (perS l).1 l.length) : ldS l = (0, 0, 16) := by unfold ldS; rw [if_pos h, if_neg (by omega)]
theorem perS_ok {l : List Dm} (h : (perS l).2 = 0) : okL l = true ∧ (perR l).2 = true ∧ (perS l).1 = (perR l).1 ∧ 0 < (perS l).1 ∧ (perS l).1 ≤ 1048576 ∧ ∀ x ∈ l, x.t ∣ (perS l).1 := by
  by_cases h1 : okL l = true
  · by_cases h2 : (perR l).2 = true ∧ (perR l).1 ≤ 1048576
    · have e := perS_is h1 h2.1 h2.2
      obtain ⟨p1, p2⟩ := (per_pos h1).2 h2.1
      rw [e]
      exact ⟨h1, h2.1, rfl, p1, h2.2, p2⟩
    · rw [perS_not h1 h2] at h; cases h
  · have : okL l = false := by cases e : okL l with | true => exact absurd e h1 | false => rfl
    rw [perS_bad this] at h; cases h
theorem load_mono {l : List Dm} (h : ∀ x ∈ l, x.ok) {p : Int} (hp : 0 ≤ p) : ∀ {j k : Nat}, j ≤ k → loadN l p j ≤ loadN l p k
  | j, k, hjk => by
    induction k with
    | zero => obtain rfl : j = 0 := by omega
              exact Int.le_refl _
    | succ k ih =>
      rcases Nat.lt_or_ge k j with q | q
      · obtain rfl : j = k + 1 := by omega
        exact Int.le_refl _
      · have := ih q
        cases hx : l[k]? with
        | none => rw [load_end hx]; exact this
        | some x =>
          have ho := h x (List.mem_of_getElem? hx)
          have h1 := ho.d1; have h2 := ho.d2
          have := Int.mul_nonneg ho.c0 (Int.ediv_nonneg hp (show 0 ≤ x.t by omega))
          rw [load_next hx]; omega
theorem load_part {x : Dm} (h : x.ok) {p : Int} (hp : 0 ≤ p) (hp1 : p ≤ 1048576) : 0 ≤ p / x.t ∧ p / x.t ≤ 1048576 ∧ 0 ≤ x.c * (p / x.t) ∧ x.c * (p / x.t) ≤ 1152921504606846976 := by
  have h1 := h.d1; have h2 := h.d2; have hc := h.c0; have hc1 := h.c1
  have q0 := Int.ediv_nonneg hp (show 0 ≤ x.t by omega)
  have q1 : p / x.t ≤ p := Int.ediv_le_self _ hp
  have m0 := Int.mul_nonneg hc q0
  have m1 := Int.mul_le_mul hc1 (show p / x.t ≤ 1048576 by omega) q0 (by omega)
  omega
abbrev WT : TypeId := 44
def Tw (w : World) (b : Nat) (x y z : Int) : Prop := w.heap[b]? = some (.cells #[.int .i64 x, .int .i64 y, .int .i64 z] WT (0, 0))
theorem Tw.set {w : World} {b : Nat} {x y z : Int} (h : Tw w b x y z) (x' y' z' : Int) : Tw (((w.setCell ⟨b, 0, none⟩ (.int .i64 x')).setCell ⟨b, 1, none⟩ (.int .i64 y')).setCell ⟨b, 2, none⟩ (.int .i64 z')) b x' y' z' := by
  unfold Tw at *
  have h1 := blk_set (o := 0) h (.int .i64 x')
  have h2 := blk_set (o := 1) h1 (.int .i64 y')
  exact (blk_set (o := 2) h2 (.int .i64 z')).trans rfl
structure LdAt (w : World) (V : World) : Prop where
  low : Below w.heap.size w V
  res : Tw V w.heap.size 0 0 0
theorem LdAt.below {w V V' : World} (h : LdAt w V) (hb : Below V.heap.size V V') : LdAt w V' := ⟨below_up h.low hb, kept_obj hb h.res⟩
theorem LdAt.done {w V : World} (h : LdAt w V) (x y z : Int) : Tw (((V.setCell ⟨w.heap.size, 0, none⟩ (.int .i64 x)).setCell ⟨w.heap.size, 1, none⟩ (.int .i64 y)).setCell ⟨w.heap.size, 2, none⟩ (.int .i64 z)) w.heap.size x y z ∧ Below w.heap.size w (((V.setCell ⟨w.heap.size, 0, none⟩ (.int .i64 x)).setCell ⟨w.heap.size, 1, none⟩ (.int .i64 y)).setCell ⟨w.heap.size, 2, none⟩ (.int .i64 z)) :=
  ⟨h.res.set x y z, ((h.low.setCell (p := ⟨w.heap.size, 0, none⟩) (Nat.le_refl _) _).setCell (p := ⟨w.heap.size, 1, none⟩) (Nat.le_refl _) _).setCell (p := ⟨w.heap.size, 2, none⟩) (Nat.le_refl _) _⟩

set_option maxRecDepth 100000 in
set_option maxHeartbeats 8000000 in
theorem rload_any (l : List Dm) (n c : Nat) (hl : l.length = n) (hn : (n : Int) ≤ 9223372036854775807) (a : Option Addr) (w : World) (hv : GView w a l) :
    Calls Try.prog 15 #[.slice a n c] w fun e w' => e = .returned (.agg #[.int .i64 (ldS l).1, .int .i64 (ldS l).2.1, .int .i64 (ldS l).2.2]) ∧ Below w.heap.size w w' := by
  have HV := Lib.hid hv
  have HL := Lib.hid hl
  have PC := Lib.hid (fun v (hb : Below w.heap.size w v) => rperiod_any l n c hl hn a v (hv.below hb))
  clear hv hl
  have HOK := Lib.hid (perS_ok (l := l))
  have HS1 := Lib.hid (ldS_bad (l := l))
  have HS2 := Lib.hid (ldS_is (l := l))
  have HS3 := Lib.hid (ldS_over (l := l))
  obtain ⟨p, hp⟩ : ∃ p, (perS l).1 = p := ⟨_, rfl⟩
  obtain ⟨er, her⟩ : ∃ er, (perS l).2 = er := ⟨_, rfl⟩
  rw [hp, her] at PC HOK HS2 HS3
  rw [her] at HS1
  clear hp her
  go_enter Try.func15, Try.ntmps15
  go_upto_region 1 with fail
  refine gen_world (LdAt w) ⟨(by repeat (first | exact Below.refl _ _ | (with_reducible assumption) | refine bw_alloc ?_ _ | refine bw_drew ?_)), heap_alloc_new w _⟩ ?_
  intro V0 hv0
  have HV0 := Lib.hid hv0
  clear hv0
  go_upto_region 2 with (go_at_call 28; (with_reducible refine (PC.out _ HV0.out.low).mono ?_); rintro e w1 ⟨rfl, bx1⟩; have HV1 := Lib.hid (HV0.out.below bx1); clear bx1)
  clear HV0 PC
  by_cases he : er = 0
  rotate_left
  · have d1 : (er == 0) = false := by rw [beq_eq_false_iff_ne]; exact he
    have d2 : (er != 0) = true := by rw [bne, d1]; rfl
    have HE := Lib.hid (HS1.out he)
    have hr := HV1.out.res
    have f0 := blk_free hr 0
    have f1 := blk_free hr 1
    have f2 := blk_free hr 2
    have r0 : w1.cell? ⟨w.heap.size, 0, none⟩ = some (.int .i64 0) := by rw [blk_cell hr]; rfl
    have r1 : w1.cell? ⟨w.heap.size, 1, none⟩ = some (.int .i64 0) := by rw [blk_cell hr]; rfl
    have r2 : w1.cell? ⟨w.heap.size, 2, none⟩ = some (.int .i64 0) := by rw [blk_cell hr]; rfl
    have HD := Lib.hid (HV1.out.done 0 0 er)
    clear he hr HOK HS1 HS2 HS3
    go_wp2_with fail
    obtain ⟨hd, hlow⟩ := HD.out
    unfold Tw at hd
    have q0 := blk_cell (o := 0) hd
    have q1 := blk_cell (o := 1) hd
    have q2 := blk_cell (o := 2) hd
    refine bodyPost_ret (v := .agg #[.int .i64 0, .int .i64 0, .int .i64 er]) ?_ rfl ⟨by rw [HE.out], hlow⟩
    simp [results, Try.results15, go_sem, q0, q1, q2]
  subst he
  have hok := (HOK.out rfl).1
  have hp0 := (HOK.out rfl).2.2.2.1
  have hp1 := (HOK.out rfl).2.2.2.2.1
  have HOL := Lib.hid ((okL_iff.1 hok).1)
  have HS2' := Lib.hid (HS2.out rfl)
  have HS3' := Lib.hid (HS3.out rfl)
  clear HS1 HS2 HS3 hok HOK
  go_upto_block 0 with fail
  go_cut [5] (fun u wx => ∃ s : Int, u = .int .i64 s ∧ Hid (s = loadN l p l.length ∧ s ≤ 4611686018427387904) ∧ Hid (LdAt w wx))
  case first =>
    go_wp2
    go_loopw [5, 6] (fun g u wr => ∃ k : Nat, k ≤ n ∧ u = .int .i64 k ∧ g = .int .i64 (loadN l p k) ∧ Hid (loadN l p k ≤ 4611686018427387904) ∧ Hid (LdAt w wr)) (fun _ u _ => (n - intOf u).toNat)
    case atStart => exact ⟨0, Nat.zero_le _, rfl, rfl, by show (0 : Int) ≤ _; omega, HV1⟩
    case round =>
      obtain ⟨k, hk, rfl, rfl, HS, HP⟩ := hrel
      clear HV1
      by_cases hlt : k < n
      · obtain ⟨x, hx⟩ := nth_of HL.out hlt
        have hxo := HOL.out x (List.mem_of_getElem? hx)
        obtain ⟨g, o, rfl, ⟨c0, c1, c2⟩⟩ := (HV.out.below HP.out.low).at_ hx
        have hk1 : (k : Int) < (n : Int) := by omega
        have hk0 : (0 : Int) ≤ (k : Int) := by omega
        have HN := Lib.hid (load_next (p := p) hx)
        have hs0 : 0 ≤ loadN l p k := load_mono HOL.out (by omega) (Nat.zero_le k)
        have HTOP : Hid (loadN l p (k + 1) ≤ loadN l p l.length) := load_mono HOL.out (by omega) (by have := HL.out; omega)
        obtain ⟨m0, m1, m2, m3⟩ := load_part hxo (show 0 ≤ p by omega) hp1
        have hs9 := HS.out
        have hxt : ¬ x.t = 0 := by have := hxo.d1; have := hxo.d2; omega
        have z1 : (x.t == 0) = false := by rw [beq_eq_false_iff_ne]; exact hxt
        have e0 : p.tdiv x.t = p / x.t := Int.tdiv_eq_ediv_of_nonneg (by omega)
        obtain ⟨Q, hQ⟩ : ∃ Q, p / x.t = Q := ⟨_, rfl⟩
        rw [hQ] at m0 m1 m2 m3 HN e0
        have e1 : IntKind.i64.wrap (p.tdiv x.t) = Q := by rw [e0]; exact IntWalk.i64_in _ (by omega)
        have e1' : IntKind.i64.wrap (p / x.t) = Q := by rw [hQ]; exact IntWalk.i64_in _ (by omega)
        obtain ⟨M, hM⟩ : ∃ M, x.c * Q = M := ⟨_, rfl⟩
        have e2 : IntKind.i64.wrap (x.c * Q) = M := by rw [hM]; rw [hM] at m2 m3; exact IntWalk.i64_in _ (by omega)
        rw [hM] at m2 m3 HN
        obtain ⟨sm, hsm⟩ : ∃ sm, loadN l p k = sm := ⟨_, rfl⟩
        rw [hsm] at hs0 HN hs9
        rw [hsm]
        obtain ⟨A1, hA1⟩ : ∃ A1, sm + M = A1 := ⟨_, rfl⟩
        rw [hA1] at HN
        have e3 : IntKind.i64.wrap (sm + M) = A1 := by rw [hA1, ← hA1]; exact IntWalk.i64_in _ (by omega)
        clear hx hxo hs0 m0 m1 m2 m3 hQ hM hsm hA1 hs9 e0 HS
        go_upto_region 8 with fail
        go_quiet (fail)
        go_upto_region 9 with fail
        refine gen_world (LdAt w) (HP.out.below (below_same (Below.refl _ _) rfl rfl rfl rfl)) ?_
        intro V5 hv5
        have HP5 := Lib.hid hv5
        clear hv5 HP c0 c1 c2 e1 e1' e2 e3
        by_cases q : 4611686018427387904 < A1
        · have hq : 4611686018427387904 < loadN l p l.length := by have := HTOP.out; rw [HN.out] at this; omega
          have HE := Lib.hid (HS3'.out hq)
          have hr := HP5.out.res
          have f0 := blk_free hr 0
          have f1 := blk_free hr 1
          have f2 := blk_free hr 2
          have r0 : V5.cell? ⟨w.heap.size, 0, none⟩ = some (.int .i64 0) := by rw [blk_cell hr]; rfl
          have r1 : V5.cell? ⟨w.heap.size, 1, none⟩ = some (.int .i64 0) := by rw [blk_cell hr]; rfl
          have r2 : V5.cell? ⟨w.heap.size, 2, none⟩ = some (.int .i64 0) := by rw [blk_cell hr]; rfl
          have HD := Lib.hid (HP5.out.done 0 0 16)
          clear hr hq HN HTOP HS2' HS3'
          go_wp2_with fail
          obtain ⟨hd, hlow⟩ := HD.out
          unfold Tw at hd
          have q0 := blk_cell (o := 0) hd
          have q1 := blk_cell (o := 1) hd
          have q2 := blk_cell (o := 2) hd
          refine bodyPost_ret (v := .agg #[.int .i64 0, .int .i64 0, .int .i64 16]) ?_ rfl ⟨by rw [HE.out], hlow⟩
          simp [results, Try.results15, go_sem, q0, q1, q2]
        · have HNN : Hid (A1 = loadN l p (k + 1) ∧ A1 ≤ 4611686018427387904) := ⟨HN.out.symm, by omega⟩
          clear HN HTOP HS2' HS3'
          go_wp2_with fail
          go_roundw
          case rel => exact ⟨k + 1, by omega, by go_num, by rw [HNN.out.1], Lib.hid (by rw [← HNN.out.1]; exact HNN.out.2), HP5⟩
          case measure => simp [intOf]; omega
      · obtain rfl : k = n := by omega
        have HE : Hid (loadN l p k = loadN l p l.length ∧ loadN l p k ≤ 4611686018427387904) := ⟨by rw [HL.out], HS.out⟩
        generalize loadN l p k = s at *
        clear HS
        go_wp2_with fail
        go_meet
        exact ⟨s, rfl, HE, HP⟩
  case rest =>
    obtain ⟨s, rfl, HS, HP⟩ := hcut
    have HE : Hid (ldS l = (s, p, 0)) := by have h := HS.out; show _ = _; rw [h.1] at *; exact HS2'.out h.2
    have hr := HP.out.res
    have f0 := blk_free hr 0
    have f1 := blk_free hr 1
    have f2 := blk_free hr 2
    have r0 : wc.cell? ⟨w.heap.size, 0, none⟩ = some (.int .i64 0) := by rw [blk_cell hr]; rfl
    have r1 : wc.cell? ⟨w.heap.size, 1, none⟩ = some (.int .i64 0) := by rw [blk_cell hr]; rfl
    have r2 : wc.cell? ⟨w.heap.size, 2, none⟩ = some (.int .i64 0) := by rw [blk_cell hr]; rfl
    have HD := Lib.hid (HP.out.done s p 0)
    clear hr HS HS2' HS3'
    go_wp2_with fail
    obtain ⟨hd, hlow⟩ := HD.out
    unfold Tw at hd
    have q0 := blk_cell (o := 0) hd
    have q1 := blk_cell (o := 1) hd
    have q2 := blk_cell (o := 2) hd
    refine bodyPost_ret (v := .agg #[.int .i64 s, .int .i64 p, .int .i64 0]) ?_ rfl ⟨by rw [HE.out], hlow⟩
    simp [results, Try.results15, go_sem, q0, q1, q2]
end Go.Proofs.Ytljigfedmjlfgaa

/-
  What is held, plainly; whether work is done in time, where it is too much first, how much is left.
-/
namespace Go.Proofs.Ytljigfedmjlfgaa

structure Bk where
  d : Int
  b : Int
/-- What is held at a time, of the first k. -/
def heldN (L : List Bk) (t : Int) : Nat → Int
  | 0 => 0
  | k + 1 => match L[k]? with
    | some x => if t < x.d ∧ heldN L t k < x.b then x.b else heldN L t k
    | none => heldN L t k
def heldA (L : List Bk) (t : Int) : Int := heldN L t L.length
theorem held_next {L : List Bk} {t : Int} {k : Nat} {x : Bk} (h : L[k]? = some x) : heldN L t (k + 1) = if t < x.d ∧ heldN L t k < x.b then x.b else heldN L t k := by rw [heldN, h]
theorem held_end {L : List Bk} {t : Int} {k : Nat} (h : L[k]? = none) : heldN L t (k + 1) = heldN L t k := by rw [heldN, h]
theorem heldN_is (L : List Bk) (t : Int) : ∀ k, 0 ≤ heldN L t k ∧ (∀ (j : Nat) (x : Bk), j < k → L[j]? = some x → t < x.d → x.b ≤ heldN L t k) ∧ (heldN L t k = 0 ∨ ∃ (j : Nat) (x : Bk), j < k ∧ L[j]? = some x ∧ t < x.d ∧ x.b = heldN L t k)
  | 0 => ⟨Int.le_refl _, fun j x h => absurd h (Nat.not_lt_zero _), .inl rfl⟩
  | k + 1 => by
    obtain ⟨i0, i1, i2⟩ := heldN_is L t k
    cases hx : L[k]? with
    | none =>
      rw [held_end hx]
      refine ⟨i0, fun j x hj hjx ht => i1 j x ?_ hjx ht, ?_⟩
      · rcases Nat.lt_or_ge j k with q | q
        · exact q
        · obtain rfl : j = k := by omega
          rw [hx] at hjx; cases hjx
      · rcases i2 with q | ⟨j, x, a, b⟩
        · exact .inl q
        · exact .inr ⟨j, x, by omega, b⟩
    | some x =>
      rw [held_next hx]
      by_cases q : t < x.d ∧ heldN L t k < x.b
      · rw [if_pos q]
        refine ⟨by omega, fun j y hj hjy ht => ?_, .inr ⟨k, x, by omega, hx, q.1, rfl⟩⟩
        rcases Nat.lt_or_ge j k with z | z
        · have := i1 j y z hjy ht; omega
        · obtain rfl : j = k := by omega
          rw [hx] at hjy; cases hjy; omega
      · rw [if_neg q]
        refine ⟨i0, fun j y hj hjy ht => ?_, ?_⟩
        · rcases Nat.lt_or_ge j k with z | z
          · exact i1 j y z hjy ht
          · obtain rfl : j = k := by omega
            rw [hx] at hjy; cases hjy
            rcases Int.lt_or_le (heldN L t j) x.b with z | z
            · exact absurd ⟨ht, z⟩ q
            · exact z
        · rcases i2 with z | ⟨j, y, a, b⟩
          · exact .inl z
          · exact .inr ⟨j, y, by omega, b⟩
theorem held_nonneg (L : List Bk) (t : Int) : 0 ≤ heldA L t := (heldN_is L t _).1
theorem held_ge {L : List Bk} {t : Int} {x : Bk} (hx : x ∈ L) (ht : t < x.d) : x.b ≤ heldA L t := by
  obtain ⟨j, hj⟩ := List.mem_iff_getElem?.1 hx
  exact (heldN_is L t _).2.1 j x (List.getElem?_eq_some_iff.1 hj).1 hj ht
theorem held_in (L : List Bk) (t : Int) : heldA L t = 0 ∨ ∃ x ∈ L, t < x.d ∧ x.b = heldA L t := by
  rcases (heldN_is L t L.length).2.2 with h | ⟨j, x, _, hx, h1, h2⟩
  · exact .inl h
  · exact .inr ⟨x, List.mem_of_getElem? hx, h1, h2⟩
theorem held_eq {L : List Bk} {t v : Int} (h0 : 0 ≤ v) (h1 : ∀ x ∈ L, t < x.d → x.b ≤ v) (h2 : v = 0 ∨ ∃ x ∈ L, t < x.d ∧ x.b = v) : heldA L t = v := by
  have a : heldA L t ≤ v := by
    rcases held_in L t with h | ⟨x, hx, ht, e⟩
    · omega
    · rw [← e]; exact h1 x hx ht
  have b : v ≤ heldA L t := by
    rcases h2 with h | ⟨x, hx, ht, e⟩
    · rw [h]; exact held_nonneg L t
    · rw [← e]; exact held_ge hx ht
  omega
theorem held_anti (L : List Bk) {s t : Int} (h : s ≤ t) : heldA L t ≤ heldA L s := by
  rcases held_in L t with e | ⟨x, hx, ht, e⟩
  · rw [e]; exact held_nonneg L s
  · rw [← e]; exact held_ge hx (by omega)
theorem held_zero {L : List Bk} {t : Int} (h : ∀ x ∈ L, x.d ≤ t) : heldA L t = 0 :=
  held_eq (Int.le_refl _) (fun x hx ht => absurd ht (by have := h x hx; omega)) (.inl rfl)
theorem held_more (L M : List Bk) (t : Int) : heldA L t ≤ heldA (L ++ M) t := by
  rcases held_in L t with e | ⟨x, hx, ht, e⟩
  · rw [e]; exact held_nonneg _ t
  · rw [← e]; exact held_ge (List.mem_append_left _ hx) ht
/-- The greatest D. -/
def topA : List Bk → Int
  | [] => 0
  | x :: L => if topA L < x.d then x.d else topA L
theorem top_ge : ∀ {L : List Bk} {x : Bk}, x ∈ L → x.d ≤ topA L
  | y :: L, x, hx => by
    rw [topA]
    rcases List.mem_cons.1 hx with rfl | h
    · split <;> omega
    · have := top_ge h
      split <;> omega
theorem top_in : ∀ (L : List Bk), topA L = 0 ∨ ∃ x ∈ L, x.d = topA L
  | [] => .inl rfl
  | y :: L => by
    rw [topA]
    split
    · exact .inr ⟨y, List.mem_cons_self, rfl⟩
    · rcases top_in L with h | ⟨x, hx, e⟩
      · exact .inl h
      · exact .inr ⟨x, List.mem_cons_of_mem _ hx, e⟩
theorem top_eq {L : List Bk} {v : Int} (h0 : 0 ≤ v) (h1 : ∀ x ∈ L, x.d ≤ v) (h2 : v = 0 ∨ ∃ x ∈ L, x.d = v) : topA L = v := by
  have a : topA L ≤ v := by
    rcases top_in L with h | ⟨x, hx, e⟩
    · omega
    · rw [← e]; exact h1 x hx
  have b : v ≤ topA L := by
    rcases h2 with h | ⟨x, hx, e⟩
    · rcases top_in L with z | ⟨x, hx, e⟩
      · omega
      · cases L with
        | nil => cases hx
        | cons y L =>
          rw [h]
          rw [topA]
          have : (0 : Int) ≤ topA L := by
            clear h1 e hx a h h0
            induction L with
            | nil => exact Int.le_refl _
            | cons z L ih => rw [topA]; split <;> omega
          split <;> omega
    · rw [← e]; exact top_ge hx
  omega
theorem per_nonneg (l : List Dm) : 0 ≤ (perS l).1 := by
  unfold perS
  split
  · rename_i h
    split
    · exact (per_pos h).1
    · exact Int.le_refl _
  · exact Int.le_refl _
/-- The end. -/
def endA (l : List Dm) (L : List Bk) : Int := if (perS l).1 < topA L then topA L else (perS l).1
theorem end_per (l : List Dm) (L : List Bk) : (perS l).1 ≤ endA l L := by unfold endA; split <;> omega
theorem end_top {l : List Dm} {L : List Bk} {x : Bk} (hx : x ∈ L) : x.d ≤ endA l L := by have := top_ge hx; unfold endA; split <;> omega
theorem end_in (l : List Dm) (L : List Bk) : endA l L = (perS l).1 ∨ ∃ x ∈ L, x.d = endA l L := by
  unfold endA
  split
  · rename_i h
    rcases top_in L with e | e
    · refine .inl ?_
      rw [e] at h ⊢
      exfalso
      have : 0 ≤ (perS l).1 := per_nonneg l
      omega
    · exact .inr e
  · exact .inl rfl
/-- What is left at a time. -/
def leftA (l : List Dm) (L : List Bk) (y : Int) : Int := y - dueA l y - heldA L y
/-- There it is too much. -/
def BadAt (l : List Dm) (L : List Bk) (y : Int) : Prop := Dl l y ∧ y ≤ endA l L ∧ leftA l L y < 0
theorem least_of {S : Int → Prop} (h0 : ∀ y, S y → 0 ≤ y) (h : ∃ y, S y) : ∃ y, S y ∧ ∀ z, S z → y ≤ z := by
  have key : ∀ (n : Nat) (y : Int), y.toNat = n → S y → ∃ y, S y ∧ ∀ z, S z → y ≤ z := by
    intro n
    induction n using Nat.strongRecOn with
    | _ n ih =>
      intro y hy hs
      by_cases q : ∃ z, S z ∧ z < y
      · obtain ⟨z, hz, hlt⟩ := q
        have := h0 z hz
        exact ih z.toNat (by omega) z rfl hz
      · exact ⟨y, hs, fun z hz => by
          rcases Int.lt_or_le z y with a | a
          · exact absurd ⟨z, hz, a⟩ q
          · exact a⟩
  obtain ⟨y, hy⟩ := h
  exact key _ y rfl hy
def MissAt (l : List Dm) (L : List Bk) (y : Int) : Prop := BadAt l L y ∧ ∀ z, BadAt l L z → y ≤ z
open Classical in
/-- The first time at which it is too much. -/
noncomputable def msS (l : List Dm) (L : List Bk) : Option Int := if h : ∃ y, MissAt l L y then some h.choose else none
theorem ms_some {l : List Dm} {L : List Bk} {y : Int} (h : MissAt l L y) : msS l L = some y := by
  unfold msS
  rw [dif_pos ⟨y, h⟩]
  congr 1
  have q := (show ∃ y, MissAt l L y from ⟨y, h⟩).choose_spec
  have a := q.2 y h.1
  have b := h.2 _ q.1
  omega
theorem ms_none {l : List Dm} {L : List Bk} (h : ∀ y, ¬ BadAt l L y) : msS l L = none := by
  unfold msS
  rw [dif_neg (fun ⟨y, hy⟩ => h y hy.1)]
theorem ms_at {l : List Dm} {L : List Bk} {y : Int} (h : msS l L = some y) : MissAt l L y := by
  unfold msS at h
  split at h
  · rename_i q
    cases h
    exact q.choose_spec
  · cases h
theorem ms_not {l : List Dm} (hok : ∀ x ∈ l, x.ok) {L : List Bk} (h : msS l L = none) (y : Int) : ¬ BadAt l L y := by
  intro hb
  obtain ⟨z, hz⟩ := least_of (S := BadAt l L) (fun y hy => by have := dl_pos' hok hy.1; omega) ⟨y, hb⟩
  rw [ms_some hz] at h
  cases h
/-- It fits. -/
def FitsA (l : List Dm) (L : List Bk) : Prop := loadN l (perS l).1 l.length ≤ (perS l).1 ∧ ∀ y, ¬ BadAt l L y
open Classical in
noncomputable def tsS (l : List Dm) (L : List Bk) : Int := if FitsA l L then 0 else 17
theorem ts_yes {l : List Dm} {L : List Bk} (h : FitsA l L) : tsS l L = 0 := if_pos h
theorem ts_no {l : List Dm} {L : List Bk} (h : ¬ FitsA l L) : tsS l L = 17 := if_neg h
theorem ts_iff {l : List Dm} {L : List Bk} : tsS l L = 0 ↔ FitsA l L := by
  refine ⟨fun h => ?_, ts_yes⟩
  by_cases q : FitsA l L
  · exact q
  · rw [ts_no q] at h; cases h
theorem ts_or (l : List Dm) (L : List Bk) : (tsS l L = 0 ∧ FitsA l L) ∨ (tsS l L = 17 ∧ ¬ FitsA l L) := by
  by_cases q : FitsA l L
  · exact .inl ⟨ts_yes q, q⟩
  · exact .inr ⟨ts_no q, q⟩
def RoomAt (l : List Dm) (L : List Bk) (n : Int) : Prop := FitsA l L ∧ (∃ y, Dl l y ∧ y ≤ endA l L ∧ leftA l L y = n) ∧ ∀ y, Dl l y → y ≤ endA l L → n ≤ leftA l L y
open Classical in
/-- How much is left. -/
noncomputable def rmS (l : List Dm) (L : List Bk) : Option Int := if h : ∃ n, RoomAt l L n then some h.choose else none
theorem rm_some {l : List Dm} {L : List Bk} {n : Int} (h : RoomAt l L n) : rmS l L = some n := by
  unfold rmS
  rw [dif_pos ⟨n, h⟩]
  congr 1
  obtain ⟨_, ⟨y, y1, y2, y3⟩, q3⟩ := (show ∃ n, RoomAt l L n from ⟨n, h⟩).choose_spec
  obtain ⟨_, ⟨z, z1, z2, z3⟩, r3⟩ := h
  have a := q3 z z1 z2
  have b := r3 y y1 y2
  omega
theorem rm_at {l : List Dm} {L : List Bk} {n : Int} (h : rmS l L = some n) : RoomAt l L n := by
  unfold rmS at h
  split at h
  · rename_i q
    cases h
    exact q.choose_spec
  · cases h
theorem rm_none {l : List Dm} {L : List Bk} (h : ¬ FitsA l L ∨ ∀ y, Dl l y → ¬ y ≤ endA l L) : rmS l L = none := by
  unfold rmS
  rw [dif_neg]
  rintro ⟨n, h1, ⟨y, y1, y2, _⟩, _⟩
  rcases h with h | h
  · exact h h1
  · exact h y y1 y2
theorem fits_left {l : List Dm} {L : List Bk} (h : FitsA l L) {y : Int} (h1 : Dl l y) (h2 : y ≤ endA l L) : 0 ≤ leftA l L y := by
  rcases Int.lt_or_le (leftA l L y) 0 with q | q
  · exact absurd ⟨h1, h2, q⟩ (h.2 y)
  · exact q
theorem rm_not {l : List Dm} {L : List Bk} (h : rmS l L = none) : ¬ FitsA l L ∨ ∀ y, Dl l y → ¬ y ≤ endA l L := by
  by_cases hf : FitsA l L
  · refine .inr fun y hy hle => ?_
    obtain ⟨n, ⟨z, z1, z2, z3⟩, hn⟩ := least_of (S := fun n => ∃ y, Dl l y ∧ y ≤ endA l L ∧ leftA l L y = n) (fun n ⟨y, a, b, c⟩ => by rw [← c]; exact fits_left hf a b) ⟨_, y, hy, hle, rfl⟩
    have : RoomAt l L n := ⟨hf, ⟨z, z1, z2, z3⟩, fun y a b => hn _ ⟨y, a, b, rfl⟩⟩
    rw [rm_some this] at h
    cases h
  · exact .inl hf
end Go.Proofs.Ytljigfedmjlfgaa
