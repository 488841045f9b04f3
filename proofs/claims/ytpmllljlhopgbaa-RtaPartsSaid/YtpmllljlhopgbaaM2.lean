/- Texts of this claim, put together: GDems, GP1, UDef, Shelf, Arith, DivNum, Div, UP0, GU. -/
import Derived.Test.YtpmllljlhopgbaaProg
import Derived.Test.YtpmllljlhopgbaaRows
import Derived.Test.YtpmllljlhopgbaaM1
import Derived.Shelf.Small.Bits
import Derived.Shelf.Strconv.Itoa0
import Derived.Shelf.Bits.Mul64
import Derived.WalkKit
import Derived.WalkSpells
import Derived.WalkLawsBesides
import Derived.Laws.Externs
import Derived.Shelf.Spec.BitsCarry
import Derived.Lib.Hide
import Derived.Deep.QuietTactic
import Derived.BigQuiet
import Derived.Lib.BitFns
import Derived.Lib.ItoaNum
import Derived.Deep.CutBlock
import Derived.Deep.CutRange
import Derived.Deep.DeepCutAuto
import Derived.Deep.LoopGhost
import Derived.Laws.MakeOwn
set_option linter.unusedVariables false
set_option linter.unusedSimpArgs false

/-
  A row of demands as callers have it.
-/
namespace Go.Proofs.Ytpmllljlhopgbaa
open Go.RowKit Go.Maps

/-- A row of demands as callers have it. -/
structure Dems (W : World) (a : Option Addr) (n c : Nat) (l : List Dm) : Prop where
  len : l.length = n
  view : GView W a l
  le : n ≤ c
  small : (c : Int) ≤ 9223372036854775807
  wf : ∀ x ∈ l, I64 x.c ∧ I64 x.d ∧ I64 x.t
theorem Dems.below {w w' : World} {a : Option Addr} {n c : Nat} {l : List Dm} (h : Dems w a n c l) (hb : Below w.heap.size w w') : Dems w' a n c l := ⟨h.len, h.view.below hb, h.le, h.small, h.wf⟩
theorem Dems.n9 {w : World} {a : Option Addr} {n c : Nat} {l : List Dm} (h : Dems w a n c l) : (n : Int) ≤ 9223372036854775807 := by have := h.le; have := h.small; omega
theorem Dems.good {w : World} {a : Option Addr} {n c : Nat} {l : List Dm} (h1 : GView w a l) (h2 : l.length = n) (h3 : n ≤ c) (h4 : (c : Int) ≤ 9223372036854775807) (h5 : AllGood l) : Dems w a n c l :=
  ⟨h2, h1, h3, h4, fun x hx => by
    have h := h5 x hx
    have := h.per; have := h.d1; have := h.d2; have := h.c0; have := h.c1
    unfold I64; omega⟩
end Go.Proofs.Ytpmllljlhopgbaa

/-
  The walks over the program's check of demands, of times, over how many jobs are due, and over the next deadline of one.
-/
namespace Go.Proofs.Ytpmllljlhopgbaa
open Go.RowKit Go.Maps

set_option maxRecDepth 100000 in
set_option maxHeartbeats 4000000 in
/-- Whether one may not be. -/
theorem pcheck1_any (x : Dm) (w : World) :
    Calls Try.prog 21 #[.agg #[.int .i64 x.c, .int .i64 x.d, .int .i64 x.t]] w fun e w' => e = .returned (.bool (!(okD x))) ∧ Below w.heap.size w w' := by
  have key : ∀ b, okD x = b → Calls Try.prog 21 #[.agg #[.int .i64 x.c, .int .i64 x.d, .int .i64 x.t]] w fun e w' => e = .returned (.bool (!b)) ∧ Below w.heap.size w w' := by
    intro b hb
    by_cases q1 : x.c < 0
    · obtain rfl : b = false := by rw [← hb]; cases e : okD x with | false => rfl | true => exact absurd (okD_iff.1 e).c0 (by omega)
      clear hb
      go_enter Try.func21, Try.ntmps21
      go_wp2
      go_ret
      exact ⟨rfl, (by repeat (first | exact Below.refl _ _ | (with_reducible assumption) | refine bw_alloc ?_ _ | refine bw_drew ?_))⟩
    by_cases q2 : 1099511627776 < x.c
    · obtain rfl : b = false := by rw [← hb]; cases e : okD x with | false => rfl | true => exact absurd (okD_iff.1 e).c1 (by omega)
      clear hb
      go_enter Try.func21, Try.ntmps21
      go_wp2
      go_ret
      exact ⟨rfl, (by repeat (first | exact Below.refl _ _ | (with_reducible assumption) | refine bw_alloc ?_ _ | refine bw_drew ?_))⟩
    by_cases q3 : x.d < 1
    · obtain rfl : b = false := by rw [← hb]; cases e : okD x with | false => rfl | true => exact absurd (okD_iff.1 e).d1 (by omega)
      clear hb
      go_enter Try.func21, Try.ntmps21
      go_wp2
      go_ret
      exact ⟨rfl, (by repeat (first | exact Below.refl _ _ | (with_reducible assumption) | refine bw_alloc ?_ _ | refine bw_drew ?_))⟩
    by_cases q4 : x.t < x.d
    · obtain rfl : b = false := by rw [← hb]; cases e : okD x with | false => rfl | true => exact absurd (okD_iff.1 e).d2 (by omega)
      clear hb
      go_enter Try.func21, Try.ntmps21
      go_wp2
      go_ret
      exact ⟨rfl, (by repeat (first | exact Below.refl _ _ | (with_reducible assumption) | refine bw_alloc ?_ _ | refine bw_drew ?_))⟩
    by_cases q5 : 1073741824 < x.t
    · obtain rfl : b = false := by rw [← hb]; cases e : okD x with | false => rfl | true => exact absurd (okD_iff.1 e).t2 (by omega)
      clear hb
      go_enter Try.func21, Try.ntmps21
      go_wp2
      go_ret
      exact ⟨rfl, (by repeat (first | exact Below.refl _ _ | (with_reducible assumption) | refine bw_alloc ?_ _ | refine bw_drew ?_))⟩
    obtain rfl : b = true := by rw [← hb]; exact okD_iff.2 ⟨by omega, by omega, by omega, by omega, by omega⟩
    clear hb
    go_enter Try.func21, Try.ntmps21
    go_wp2
    go_ret
    exact ⟨rfl, (by repeat (first | exact Below.refl _ _ | (with_reducible assumption) | refine bw_alloc ?_ _ | refine bw_drew ?_))⟩
  exact key _ rfl

/-- What tells the first one that may not be. -/
def IdxBack (l : List Dm) (w : World) (e : Ending) (w' : World) : Prop := (∃ i : Int, e = .returned (.int .i64 i) ∧ (0 ≤ i ↔ l.all okD = false)) ∧ Below w.heap.size w w'
set_option maxRecDepth 100000 in
set_option maxHeartbeats 4000000 in
theorem pindex_any (l : List Dm) (n c : Nat) (hl : l.length = n) (hn : (n : Int) ≤ 9223372036854775807) (a : Option Addr) (w : World) (hv : GView w a l) :
    Calls Try.prog 35 #[.slice a n c, .func (.func 21) #[] #[]] w (IdxBack l w) := by
  have HV := Lib.hid hv
  have HL := Lib.hid hl
  clear hv hl
  go_enter Try.func35, Try.ntmps35
  go_wp2
  go_loopw [8] (fun u wr => ∃ k : Nat, k ≤ n ∧ u = .int .i64 k ∧ Hid ((l.take k).all okD = true) ∧ Hid (Below w.heap.size w wr)) (fun u _ => (n - intOf u).toNat)
  case atStart => exact ⟨0, by omega, rfl, rfl, Below.refl _ _⟩
  case round =>
    obtain ⟨k, hk, rfl, HS, HP⟩ := hrel
    by_cases hlt : k < n
    · obtain ⟨x, hx⟩ := nth_of HL.out hlt
      obtain ⟨g, o, rfl, ⟨c0, c1, c2⟩⟩ := (HV.out.below HP.out).at_ hx
      have hk1 : (k : Int) < (n : Int) := by omega
      have hk0 : (0 : Int) ≤ (k : Int) := by omega
      have HX : Hid (x ∈ l) := List.mem_of_getElem? hx
      have HT : Hid (okD x = true → (l.take (k + 1)).all okD = true) := okL_take HS.out hx
      have CC := Lib.hid (fun v => pcheck1_any x v)
      obtain ⟨b, hb⟩ : ∃ b, okD x = b := ⟨_, rfl⟩
      rw [hb] at CC HT
      have HB := Lib.hid hb
      clear hx HS hb
      cases b with
      | false =>
        have HF : Hid (l.all okD = false) := by
          cases e : l.all okD with
          | false => rfl
          | true => have := List.all_eq_true.1 e x HX.out; rw [HB.out] at this; cases this
        go_wp2_with (go_at_call 21; (with_reducible refine (CC.out _).mono ?_); rintro e wj ⟨rfl, bx1⟩)
        go_ret
        exact ⟨⟨_, rfl, fun _ => HF.out, fun _ => hk0⟩, below_up HP.out bx1⟩
      | true =>
        have HS2 := Lib.hid (HT.out rfl)
        clear HT
        go_wp2_with (go_at_call 21; (with_reducible refine (CC.out _).mono ?_); rintro e wj ⟨rfl, bx1⟩)
        go_roundw
        case rel => exact ⟨k + 1, by omega, by go_num, HS2, Lib.hid (below_up HP.out bx1)⟩
        case measure => simp [intOf]; omega
    · obtain rfl : k = n := by omega
      have HF : Hid (l.all okD = true) := by
        have := HS.out
        rw [← HL.out, List.take_of_length_le (Nat.le_refl _)] at this
        exact this
      clear HS
      go_wp2
      go_ret
      exact ⟨⟨_, rfl, fun h => absurd h (by decide), fun h => by rw [HF.out] at h; cases h⟩, HP.out⟩

set_option maxRecDepth 100000 in
set_option maxHeartbeats 4000000 in
theorem pcontains_any (l : List Dm) (n c : Nat) (hl : l.length = n) (hn : (n : Int) ≤ 9223372036854775807) (a : Option Addr) (w : World) (hv : GView w a l) :
    Calls Try.prog 20 #[.slice a n c, .func (.func 21) #[] #[]] w fun e w' => e = .returned (.bool (!(l.all okD))) ∧ Below w.heap.size w w' := by
  have HC := Lib.hid (pindex_any l n c hl hn a w hv)
  obtain ⟨b, hb⟩ : ∃ b, l.all okD = b := ⟨_, rfl⟩
  have HB := Lib.hid hb
  rw [hb]
  clear hb hv hl
  go_enter Try.func20, Try.ntmps20
  cases b with
  | false =>
    go_wp2_with (go_at_call 35; (with_reducible refine (HC.out).mono ?_); rintro e wj ⟨⟨i, rfl, hi⟩, bx1⟩; have hi0 : decide (0 ≤ i) = true := decide_eq_true (hi.2 HB.out); clear hi)
    go_ret
    exact ⟨by first | rfl | simp [hi0, go_sem], bx1⟩
  | true =>
    go_wp2_with (go_at_call 35; (with_reducible refine (HC.out).mono ?_); rintro e wj ⟨⟨i, rfl, hi⟩, bx1⟩; have hi0 : decide (0 ≤ i) = false := decide_eq_false (fun h => by (have := hi.1 h; rw [HB.out] at this; cases this)); clear hi)
    go_ret
    exact ⟨by first | rfl | simp [hi0, go_sem], bx1⟩

set_option maxRecDepth 100000 in
set_option maxHeartbeats 4000000 in
theorem pchk_any (l : List Dm) (n c : Nat) (hl : l.length = n) (hn : (n : Int) ≤ 9223372036854775807) (a : Option Addr) (w : World) (hv : GView w a l) :
    Calls Try.prog 13 #[.slice a n c] w fun e w' => e = .returned (.bool (okL l)) ∧ Below w.heap.size w w' := by
  have HC := Lib.hid (pcontains_any l n c hl hn a w hv)
  have HE : Hid (okL l = (l.all okD && decide (n ≤ 64))) := by rw [← hl]; rfl
  obtain ⟨b, hb⟩ : ∃ b, l.all okD = b := ⟨_, rfl⟩
  rw [hb] at HE HC
  clear hb hv hl
  by_cases q : n ≤ 64
  · have q1 : (n : Int) ≤ 64 := by omega
    rw [decide_eq_true q, Bool.and_true] at HE
    clear q
    cases b with
    | false =>
      go_enter Try.func13, Try.ntmps13
      go_wp2_with (go_at_call 20; (with_reducible refine (HC.out).mono ?_); rintro e wj ⟨rfl, bx1⟩)
      go_ret
      exact ⟨by rw [HE.out]; rfl, bx1⟩
    | true =>
      go_enter Try.func13, Try.ntmps13
      go_wp2_with (go_at_call 20; (with_reducible refine (HC.out).mono ?_); rintro e wj ⟨rfl, bx1⟩)
      go_ret
      exact ⟨by rw [HE.out]; rfl, bx1⟩
  · have q1 : ¬ (n : Int) ≤ 64 := by omega
    rw [decide_eq_false q, Bool.and_false] at HE
    clear q
    go_enter Try.func13, Try.ntmps13
    go_wp2
    go_ret
    exact ⟨by rw [HE.out]; rfl, Below.refl _ _⟩
end Go.Proofs.Ytpmllljlhopgbaa

/-
  Work that may come, plainly; the least busy time; what may be held.
-/
namespace Go.Proofs.Ytpmllljlhopgbaa

/-- How many of one may be released in so many ticks. -/
def ceilD (x : Dm) (X : Int) : Int := (X + x.t - 1) / x.t
theorem ceil_iff {x : Dm} (h : 0 < x.t) {X : Int} {i : Int} : i < ceilD x X ↔ i * x.t < X := by
  unfold ceilD
  have e := Int.mul_ediv_add_emod (X + x.t - 1) x.t
  have e1 := Int.emod_nonneg (X + x.t - 1) (show x.t ≠ 0 by omega)
  have e2 := Int.emod_lt_of_pos (X + x.t - 1) h
  generalize (X + x.t - 1) / x.t = q at *
  rw [Int.mul_comm] at e
  constructor
  · intro hi
    have := Int.mul_le_mul_of_nonneg_right (show i ≤ q - 1 by omega) (show 0 ≤ x.t by omega)
    rw [Int.sub_mul, Int.one_mul] at this
    omega
  · intro hi
    rcases Int.lt_or_le i q with z | z
    · exact z
    · have := Int.mul_le_mul_of_nonneg_right z (show 0 ≤ x.t by omega)
      omega
theorem ceil_nonneg {x : Dm} (h : 0 < x.t) {X : Int} (hX : 0 ≤ X) : 0 ≤ ceilD x X := Int.ediv_nonneg (by omega) (by omega)
theorem ceil_le {x : Dm} (h : 0 < x.t) {X : Int} (hX : 0 ≤ X) : ceilD x X ≤ X := by
  have := Int.mul_le_mul_of_nonneg_left (show 1 ≤ x.t by omega) hX
  have := (ceil_iff h (X := X) (i := X))
  rcases Int.lt_or_le X (ceilD x X) with q | q
  · have := this.1 q; omega
  · exact q
def workN (l : List Dm) (X : Int) : Nat → Int
  | 0 => 0
  | k + 1 => match l[k]? with
    | some x => workN l X k + x.c * ceilD x X
    | none => workN l X k
def workA (l : List Dm) (X : Int) : Int := workN l X l.length
theorem work_next {l : List Dm} {X : Int} {k : Nat} {x : Dm} (h : l[k]? = some x) : workN l X (k + 1) = workN l X k + x.c * ceilD x X := by rw [workN, h]
theorem work_end {l : List Dm} {X : Int} {k : Nat} (h : l[k]? = none) : workN l X (k + 1) = workN l X k := by rw [workN, h]
theorem work_mono {l : List Dm} (h : ∀ x ∈ l, x.ok) {X : Int} (hX : 0 ≤ X) : ∀ {j k : Nat}, j ≤ k → workN l X j ≤ workN l X k
  | j, k, hjk => by
    induction k with
    | zero => obtain rfl : j = 0 := by omega
              exact Int.le_refl _
    | succ k ih =>
      rcases Nat.lt_or_ge k j with q | q
      · obtain rfl : j = k + 1 := by omega
        exact Int.le_refl _
      · have := ih q
        cases hx : l[k]? with
        | none => rw [work_end hx]; exact this
        | some x =>
          have ho := h x (List.mem_of_getElem? hx)
          have := Int.mul_nonneg ho.c0 (ceil_nonneg (x := x) (by have := ho.d1; have := ho.d2; omega) hX)
          rw [work_next hx]; omega
theorem work_append {l m : List Dm} {X : Int} : ∀ k, workN (l ++ m) X (l.length + k) = workN l X l.length + workN m X k
  | 0 => by
    have key : ∀ k, k ≤ l.length → workN (l ++ m) X k = workN l X k := fun k hk => by
      induction k with
      | zero => rfl
      | succ k ih =>
        have e : (l ++ m)[k]? = l[k]? := List.getElem?_append_left (by omega)
        rw [workN, workN, e, ih (by omega)]
    rw [Nat.add_zero, key _ (Nat.le_refl _)]; show _ = _ + (0 : Int); omega
  | k + 1 => by
    have e : (l ++ m)[l.length + k]? = m[k]? := by rw [List.getElem?_append_right (by omega)]; congr 1; omega
    rw [← Nat.add_assoc, workN, e, workN, work_append k]
    cases m[k]? with
    | none => rfl
    | some x => dsimp only; omega
theorem work_two (l m : List Dm) (X : Int) : workA (l ++ m) X = workA l X + workA m X := by
  unfold workA; rw [List.length_append]; exact work_append _
theorem work_nonneg {l : List Dm} (h : ∀ x ∈ l, x.ok) {X : Int} (hX : 0 ≤ X) : 0 ≤ workA l X := work_mono h hX (Nat.zero_le _)
theorem work_less {M : List Dm} (h : AllGood M) {X : Int} (hX : 0 ≤ X) : ∀ k, workN M X k ≤ (k : Int) * (24 * X)
  | 0 => by show (0 : Int) ≤ _; omega
  | k + 1 => by
    have ih := work_less h hX k
    cases hx : M[k]? with
    | none => rw [work_end hx, Int.natCast_add, Int.add_mul]; omega
    | some x =>
      have hg := h x (List.mem_of_getElem? hx)
      have h1 := hg.per; have h2 := hg.d2; have h3 := hg.c1; have h4 := hg.d1; have h5 := hg.c0
      have q1 := ceil_le (x := x) (by omega) hX
      have q0 := ceil_nonneg (x := x) (by omega) hX
      have := Int.mul_le_mul (show x.c ≤ 24 by omega) q1 q0 (by omega)
      rw [work_next hx, Int.natCast_add, Int.add_mul]; omega
theorem work_small {M : List Dm} (h : AllGood M) (hl : M.length ≤ 6) {X : Int} (hX : 0 ≤ X) (hX1 : X ≤ 1000) : 0 ≤ workA M X ∧ workA M X ≤ 144000 := by
  have h1 := work_less h hX M.length
  have h2 := Int.mul_le_mul (show (M.length : Int) ≤ 6 by omega) (show 24 * X ≤ 24000 by omega) (by omega) (by omega)
  exact ⟨work_nonneg (fun x hx => (h x hx).ok) hX, by unfold workA; omega⟩
/-- All is done by then. -/
def DoneAt (l : List Dm) (h : Int) (X : Int) : Prop := h + workA l X ≤ X
/-- The busy time. -/
def BusyAt (l : List Dm) (h most x : Int) : Prop := 1 ≤ x ∧ x ≤ most ∧ DoneAt l h x ∧ ∀ y, 1 ≤ y → y < x → ¬ DoneAt l h y
theorem busy_one {l : List Dm} {h most x y : Int} (hx : BusyAt l h most x) (hy : BusyAt l h most y) : x = y := by
  rcases Int.lt_or_le x y with q | q
  · exact absurd hx.2.2.1 (hy.2.2.2 x hx.1 q)
  · rcases Int.lt_or_le y x with z | z
    · exact absurd hy.2.2.1 (hx.2.2.2 y hy.1 z)
    · omega
open Classical in
noncomputable def bsS (l : List Dm) (h most : Int) : Option Int := if q : ∃ x, BusyAt l h most x then some q.choose else none
theorem bs_some {l : List Dm} {h most x : Int} (hx : BusyAt l h most x) : bsS l h most = some x := by
  unfold bsS
  rw [dif_pos ⟨x, hx⟩]
  congr 1
  exact busy_one (show ∃ x, BusyAt l h most x from ⟨x, hx⟩).choose_spec hx
theorem bs_at {l : List Dm} {h most x : Int} (e : bsS l h most = some x) : BusyAt l h most x := by
  unfold bsS at e
  split at e
  · rename_i q
    cases e
    exact q.choose_spec
  · cases e
theorem bs_none {l : List Dm} {h most : Int} (hn : ∀ y, 1 ≤ y → y ≤ most → ¬ DoneAt l h y) : bsS l h most = none := by
  unfold bsS
  rw [dif_neg]
  rintro ⟨x, h1, h2, h3, _⟩
  exact hn x h1 h2 h3
theorem least_done {l : List Dm} {h : Int} : ∀ (n : Nat) {y : Int}, 1 ≤ y → y.toNat = n → DoneAt l h y → ∃ x, 1 ≤ x ∧ x ≤ y ∧ DoneAt l h x ∧ ∀ z, 1 ≤ z → z < x → ¬ DoneAt l h z := by
  intro n
  induction n using Nat.strongRecOn with
  | _ n ih =>
    intro y hy hn hd
    by_cases q : ∃ z, 1 ≤ z ∧ z < y ∧ DoneAt l h z
    · obtain ⟨z, z1, z2, z3⟩ := q
      obtain ⟨x, a, b, c⟩ := ih z.toNat (by omega) z1 rfl z3
      exact ⟨x, a, by omega, c⟩
    · exact ⟨y, hy, Int.le_refl _, hd, fun z z1 z2 z3 => q ⟨z, z1, z2, z3⟩⟩
theorem bs_of {l : List Dm} {h most y : Int} (h1 : 1 ≤ y) (h2 : y ≤ most) (hd : DoneAt l h y) : ∃ x, bsS l h most = some x ∧ x ≤ y := by
  obtain ⟨x, a, b, c, d⟩ := least_done _ h1 rfl hd
  exact ⟨x, bs_some ⟨a, by omega, c, d⟩, b⟩
theorem bs_not {l : List Dm} {h most : Int} (e : bsS l h most = none) {y : Int} (h1 : 1 ≤ y) (h2 : y ≤ most) : ¬ DoneAt l h y := fun hd => by
  obtain ⟨x, q, _⟩ := bs_of h1 h2 hd
  rw [e] at q
  cases q
/-- What may be held at most. -/
def BearAt (l : List Dm) (most n : Int) : Prop := 0 ≤ n ∧ (∃ x, 1 ≤ x ∧ x ≤ most ∧ DoneAt l n x) ∧ ∀ x, 1 ≤ x → x ≤ most → ¬ DoneAt l (n + 1) x
theorem done_less {l : List Dm} {h k X : Int} (hk : k ≤ h) (hd : DoneAt l h X) : DoneAt l k X := by unfold DoneAt at *; omega
theorem bear_one {l : List Dm} {most n m : Int} (hn : BearAt l most n) (hm : BearAt l most m) : n = m := by
  have key : ∀ {n m : Int}, BearAt l most n → BearAt l most m → ¬ n < m := fun {n m} hn hm h => by
    obtain ⟨x, a, b, c⟩ := hm.2.1
    exact hn.2.2 x a b (done_less (by omega) c)
  have := key hn hm; have := key hm hn
  omega
open Classical in
noncomputable def brS (l : List Dm) (most : Int) : Option Int := if q : ∃ n, BearAt l most n then some q.choose else none
theorem br_some {l : List Dm} {most n : Int} (h : BearAt l most n) : brS l most = some n := by
  unfold brS
  rw [dif_pos ⟨n, h⟩]
  congr 1
  exact bear_one (show ∃ n, BearAt l most n from ⟨n, h⟩).choose_spec h
theorem br_at {l : List Dm} {most n : Int} (e : brS l most = some n) : BearAt l most n := by
  unfold brS at e
  split at e
  · rename_i q
    cases e
    exact q.choose_spec
  · cases e
theorem br_none {l : List Dm} {most : Int} (h : ∀ x, 1 ≤ x → x ≤ most → ¬ DoneAt l 0 x) : brS l most = none := by
  unfold brS
  rw [dif_neg]
  rintro ⟨n, h1, ⟨x, a, b, c⟩, _⟩
  exact h x a b (done_less h1 c)
theorem br_not {l : List Dm} (hok : ∀ x ∈ l, x.ok) {most : Int} (e : brS l most = none) (x : Int) (h1 : 1 ≤ x) (h2 : x ≤ most) : ¬ DoneAt l 0 x := by
  intro hd
  -- the greatest one: none above 'most' is
  have key : ∀ (k : Nat) (n : Int), 0 ≤ n → (∃ x, 1 ≤ x ∧ x ≤ most ∧ DoneAt l n x) → (most - n).toNat = k → ∃ n, BearAt l most n := by
    intro k
    induction k using Nat.strongRecOn with
    | _ k ih =>
      intro n hn hx hk
      by_cases q : ∃ x, 1 ≤ x ∧ x ≤ most ∧ DoneAt l (n + 1) x
      · obtain ⟨y, a, b, c⟩ := q
        have := work_nonneg hok (X := y) (by omega)
        unfold DoneAt at c
        exact ih (most - (n + 1)).toNat (by omega) (n + 1) (by omega) ⟨y, a, b, c⟩ rfl
      · exact ⟨n, hn, hx, fun x a b c => q ⟨x, a, b, c⟩⟩
  obtain ⟨n, hn⟩ := key _ 0 (Int.le_refl _) ⟨x, h1, h2, hd⟩ rfl
  rw [br_some hn] at e
  cases e
theorem bear_top {l : List Dm} (hok : ∀ x ∈ l, x.ok) {most n : Int} (h : BearAt l most n) : n ≤ most := by
  obtain ⟨x, a, b, c⟩ := h.2.1
  have := work_nonneg hok (X := x) (by omega)
  unfold DoneAt at c
  omega
/-- What follows of more that is held, more work, more time. -/
theorem bs_held {l : List Dm} {h k most : Int} (hk : k ≤ h) {y : Int} (e : bsS l h most = some y) : ∃ x, bsS l k most = some x ∧ x ≤ y := by
  obtain ⟨a, b, c, _⟩ := bs_at e
  exact bs_of a b (done_less hk c)
theorem bs_work {l m : List Dm} (hok : ∀ x ∈ m, x.ok) {h most : Int} {y : Int} (e : bsS (l ++ m) h most = some y) : ∃ x, bsS l h most = some x ∧ x ≤ y := by
  obtain ⟨a, b, c, _⟩ := bs_at e
  refine bs_of a b ?_
  have := work_nonneg hok (X := y) (by omega)
  unfold DoneAt at c ⊢
  rw [work_two] at c
  omega
theorem bs_work2 {l m : List Dm} (hok : ∀ x ∈ l, x.ok) {h most : Int} {y : Int} (e : bsS (l ++ m) h most = some y) : ∃ x, bsS m h most = some x ∧ x ≤ y := by
  obtain ⟨a, b, c, _⟩ := bs_at e
  refine bs_of a b ?_
  have := work_nonneg hok (X := y) (by omega)
  unfold DoneAt at c ⊢
  rw [work_two] at c
  omega
theorem bs_time {l : List Dm} {h m1 m2 : Int} (hm : m1 ≤ m2) {x : Int} (e : bsS l h m1 = some x) : bsS l h m2 = some x := by
  obtain ⟨a, b, c, d⟩ := bs_at e
  exact bs_some ⟨a, by omega, c, d⟩
end Go.Proofs.Ytpmllljlhopgbaa

/-
  DERIVED: THE SHELF's CONTRACTS AT THIS DUMP, IN PLAIN WORDS (tools/lay-plain.mjs out of 'TryShelf.lean', which tools/lay-shelf.mjs wrote): THE SAME DECLARATIONS UNDER THE SAME NAMES: 'import', 'namespace', 'open', 'def', 'theorem' AND NOTHING ELSE: no command of the shelf's: FOR A HAND-IN. Each laying: the table of numbers ('.._ren') and one theorem, a field a fact of the dump's own or the kernel's comparison; each contract: ONE APPLICATION.
-/
namespace Go.Proofs
open Go.Shelf
def Try.lays128_ren : Go.Shelf.Ren := ⟨fun | 128 => 60 | n => n, fun | 51 => 91 | 3 => 3 | 4 => 4 | 46 => 76 | 5 => 5 | 9 => 9 | n => n, fun | n => n⟩
theorem Try.lays128 : Go.Proofs.Lays.n128 Try.prog Try.lays128_ren := {
  mixed := by kernel_rfl
  f128 := Try.func60.trans (congrArg some (by kernel_rfl))
  t3 := Try.underlying3
  a3 := Try.isAgg3
  z3 := Try.sizeOf3
  v3 := Try.zeroValue3
  t4 := Try.underlying4
  a4 := Try.isAgg4
  z4 := Try.sizeOf4
  v4 := Try.zeroValue4
  t5 := Try.underlying5
  a5 := Try.isAgg5
  z5 := Try.sizeOf5
  v5 := Try.zeroValue5
  t9 := Try.underlying9
  a9 := Try.isAgg9
  z9 := Try.sizeOf9
  v9 := Try.zeroValue9
  t46 := Try.underlying76
  a46 := Try.isAgg76
  z46 := Try.sizeOf76
  v46 := Try.zeroValue76
  t51 := Try.underlying91
  a51 := Try.isAgg91
  z51 := Try.sizeOf91
  v51 := Try.zeroValue91 }
/-- bits.Len32: "Len32 returns the minimum number of bits required to represent x; the result is 0 for x == 0.": IT RETURNS 'Lib.bitLen x'; the world is as it was. ('h0', 'h1': x is a uint32.) (LAID: no walk: one application.) -/
theorem Try.bits_Len32 (x : Int) (w : World) (h0 : 0 ≤ x) (h1 : x ≤ 4294967295) :
    Calls Try.prog 60 #[.int .u32 x] w fun e w' => e = .returned (.int .i64 (Lib.bitLen x.toNat)) ∧ w' = w := Any.bits_Len32 Try.lays128 x w h0 h1
def Try.lays125_ren : Go.Shelf.Ren := ⟨fun | 125 => 47 | 128 => 60 | 129 => 61 | n => n, fun | 46 => 76 | 3 => 3 | 51 => 91 | 53 => 43 | 4 => 4 | 5 => 5 | 9 => 9 | n => n, fun | n => n⟩
theorem Try.lays125 : Go.Proofs.Lays.n125 Try.prog Try.lays125_ren := {
  mixed := by kernel_rfl
  f125 := Try.func47.trans (congrArg some (by kernel_rfl))
  f128 := Try.func60.trans (congrArg some (by kernel_rfl))
  f129 := Try.func61.trans (congrArg some (by kernel_rfl))
  t3 := Try.underlying3
  a3 := Try.isAgg3
  z3 := Try.sizeOf3
  v3 := Try.zeroValue3
  t4 := Try.underlying4
  a4 := Try.isAgg4
  z4 := Try.sizeOf4
  v4 := Try.zeroValue4
  t5 := Try.underlying5
  a5 := Try.isAgg5
  z5 := Try.sizeOf5
  v5 := Try.zeroValue5
  t9 := Try.underlying9
  a9 := Try.isAgg9
  z9 := Try.sizeOf9
  v9 := Try.zeroValue9
  t46 := Try.underlying76
  a46 := Try.isAgg76
  z46 := Try.sizeOf76
  v46 := Try.zeroValue76
  t51 := Try.underlying91
  a51 := Try.isAgg91
  z51 := Try.sizeOf91
  v51 := Try.zeroValue91
  t53 := Try.underlying43
  a53 := Try.isAgg43
  z53 := Try.sizeOf43
  v53 := Try.zeroValue43 }
/-- bits.Len: "Len returns the minimum number of bits required to represent x; the result is 0 for x == 0.": IT RETURNS 'Lib.bitLen x'; the world is as it was. (A uint has 64 bits in the model.) ITS CALLEE bits.Len64 IS MET BY ITS OWN CONTRACT OFF THE SHELF (lay that first). (LAID: no walk: one application.) -/
theorem Try.bits_Len (x : Int) (w : World) (h0 : 0 ≤ x) (h1 : x ≤ 18446744073709551615) :
    Calls Try.prog 47 #[.int .u64 x] w fun e w' => e = .returned (.int .i64 (Lib.bitLen x.toNat)) ∧ w' = w := Any.bits_Len Try.lays125 x w h0 h1
def Try.lays134_ren : Go.Shelf.Ren := ⟨fun | 134 => 62 | 129 => 61 | n => n, fun | 53 => 43 | 3 => 3 | 4 => 4 | 46 => 76 | 5 => 5 | 9 => 9 | n => n, fun | n => n⟩
theorem Try.lays134 : Go.Proofs.Lays.n134 Try.prog Try.lays134_ren := {
  mixed := by kernel_rfl
  f129 := Try.func61.trans (congrArg some (by kernel_rfl))
  f134 := Try.func62.trans (congrArg some (by kernel_rfl))
  t3 := Try.underlying3
  a3 := Try.isAgg3
  z3 := Try.sizeOf3
  v3 := Try.zeroValue3
  t4 := Try.underlying4
  a4 := Try.isAgg4
  z4 := Try.sizeOf4
  v4 := Try.zeroValue4
  t5 := Try.underlying5
  a5 := Try.isAgg5
  z5 := Try.sizeOf5
  v5 := Try.zeroValue5
  t9 := Try.underlying9
  a9 := Try.isAgg9
  z9 := Try.sizeOf9
  v9 := Try.zeroValue9
  t46 := Try.underlying76
  a46 := Try.isAgg76
  z46 := Try.sizeOf76
  v46 := Try.zeroValue76
  t53 := Try.underlying43
  a53 := Try.isAgg43
  z53 := Try.sizeOf43
  v53 := Try.zeroValue43 }
/-- bits.LeadingZeros64: "LeadingZeros64 returns the number of leading zero bits in x; the result is 64 for x == 0.": IT RETURNS '64 - Lib.bitLen x'; the world is as it was. ITS CALLEE bits.Len64 IS MET BY ITS OWN CONTRACT OFF THE SHELF (lay that first): entered in place it sends the kernel out of memory. (LAID: no walk: one application.) -/
theorem Try.bits_LeadingZeros64 (x : Int) (w : World) (h0 : 0 ≤ x) (h1 : x ≤ 18446744073709551615) :
    Calls Try.prog 62 #[.int .u64 x] w fun e w' => e = .returned (.int .i64 (64 - (Lib.bitLen x.toNat : Int))) ∧ w' = w := Any.bits_LeadingZeros64 Try.lays134 x w h0 h1
def Try.lays129_ren : Go.Shelf.Ren := ⟨fun | 129 => 61 | n => n, fun | 53 => 43 | 3 => 3 | 4 => 4 | 46 => 76 | 5 => 5 | 9 => 9 | n => n, fun | n => n⟩
theorem Try.lays129 : Go.Proofs.Lays.n129 Try.prog Try.lays129_ren := {
  mixed := by kernel_rfl
  f129 := Try.func61.trans (congrArg some (by kernel_rfl))
  t3 := Try.underlying3
  a3 := Try.isAgg3
  z3 := Try.sizeOf3
  v3 := Try.zeroValue3
  t4 := Try.underlying4
  a4 := Try.isAgg4
  z4 := Try.sizeOf4
  v4 := Try.zeroValue4
  t5 := Try.underlying5
  a5 := Try.isAgg5
  z5 := Try.sizeOf5
  v5 := Try.zeroValue5
  t9 := Try.underlying9
  a9 := Try.isAgg9
  z9 := Try.sizeOf9
  v9 := Try.zeroValue9
  t46 := Try.underlying76
  a46 := Try.isAgg76
  z46 := Try.sizeOf76
  v46 := Try.zeroValue76
  t53 := Try.underlying43
  a53 := Try.isAgg43
  z53 := Try.sizeOf43
  v53 := Try.zeroValue43 }
/-- bits.Len64: "Len64 returns the minimum number of bits required to represent x; the result is 0 for x == 0.": IT RETURNS 'Lib.bitLen x'; the world is as it was. ('h0', 'h1': x is a uint64.) (LAID: no walk: one application.) -/
theorem Try.bits_Len64 (x : Int) (w : World) (h0 : 0 ≤ x) (h1 : x ≤ 18446744073709551615) :
    Calls Try.prog 61 #[.int .u64 x] w fun e w' => e = .returned (.int .i64 (Lib.bitLen x.toNat)) ∧ w' = w := Any.bits_Len64 Try.lays129 x w h0 h1
def Try.lays264_ren : Go.Shelf.Ren := ⟨fun | 264 => 31 | n => n, fun | 53 => 43 | 46 => 76 | n => n, fun | n => n⟩
theorem Try.lays264 : Go.Proofs.Lays.n264 Try.prog Try.lays264_ren := {
  mixed := by kernel_rfl
  f264 := Try.func31.trans (congrArg some (by kernel_rfl))
  t46 := Try.underlying76
  a46 := Try.isAgg76
  z46 := Try.sizeOf76
  v46 := Try.zeroValue76
  t53 := Try.underlying43
  a53 := Try.isAgg43
  z53 := Try.sizeOf43
  v53 := Try.zeroValue43 }
open Go.RowKit Go.Lib in
theorem Try.bits_Mul64 (x y : Nat) (hx : x < 18446744073709551616) (hy : y < 18446744073709551616) (w : World) :
    Calls Try.prog 31 #[.int .u64 x, .int .u64 y] w fun e w' => e = .returned (.tuple #[.int .u64 ((x * y / 18446744073709551616 : Nat) : Int), .int .u64 ((x * y % 18446744073709551616 : Nat) : Int)]) ∧ w' = w := Any.bits_Mul64 Try.lays264 x y hx hy w
end Go.Proofs

/-
  The walks over the package of sums.
-/
namespace Go.Proofs.Ytpmllljlhopgbaa
open Go.RowKit

theorem run_add0 (x y : Int) (hx : U64 x) (hy : U64 y) (w : World) :
    (callFunc 34 #[.int .u64 x, .int .u64 y, .int .u64 0]).run Try.prog w =
    .ok (.value (.tuple #[.int .u64 ((x + y) % 18446744073709551616), .int .u64 ((x + y) / 18446744073709551616)])) w := by
  rw [run_callFunc_extern Try.func34 (by kernel_rfl) (by kernel_rfl) (by kernel_rfl) (e := add64Entry) (by kernel_rfl),
    run_add64 x y 0 hx.1 hy.1 (by omega) (by omega), Int.add_zero]
  rfl

theorem run_sub0 (x y : Int) (hx : U64 x) (hy : U64 y) (w : World) :
    (callFunc 49 #[.int .u64 x, .int .u64 y, .int .u64 0]).run Try.prog w =
    .ok (.value (.tuple #[.int .u64 ((x - y) % 18446744073709551616), .int .u64 (if x < y then 1 else 0)])) w := by
  obtain ⟨x, rfl⟩ := Int.eq_ofNat_of_zero_le hx.1
  obtain ⟨y, rfl⟩ := Int.eq_ofNat_of_zero_le hy.1
  have := hx.2; have := hy.2
  have e1 : (((x + 18446744073709551616 - y - 0) % 18446744073709551616 : Nat) : Int) = ((x : Int) - y) % 18446744073709551616 := by omega
  have e2 : ((if x < y + 0 then 1 else 0 : Nat) : Int) = if (x : Int) < y then 1 else 0 := by split <;> split <;> omega
  show (callFunc _ #[.int .u64 x, .int .u64 y, .int .u64 ((0 : Nat) : Int)]).run _ _ = _
  rw [run_callFunc_extern Try.func49 (by kernel_rfl) (by kernel_rfl) (by kernel_rfl) (e := sub64Entry) (by kernel_rfl), ← e1, ← e2]
  rw [run_sub64 (P := Try.prog) (w := w) x y 0 (by omega)]
  rfl

theorem exact_ok (a : Int) (w : World) : Calls Try.prog 32 #[.int .u64 a, .int .u64 0] w fun e w' => e = .returned (.tuple #[.int .u64 a, .bool true]) ∧ w = w' := by
  go_enter Try.func32, Try.ntmps32
  go_wp2
  go_ret2
  exact ⟨rfl, rfl⟩

theorem exact_no (a b : Int) (hb : (b != 0) = true) (w : World) : Calls Try.prog 32 #[.int .u64 a, .int .u64 b] w fun e w' => e = .returned (.tuple #[.int .u64 0, .bool false]) ∧ w = w' := by
  go_enter Try.func32, Try.ntmps32
  go_wp2
  go_ret2
  exact ⟨rfl, rfl⟩

set_option maxHeartbeats 400000 in
theorem add_ok (a b : Int) (ha : U64 a) (hb : U64 b) (h : a + b < 18446744073709551616) (w : World) :
    Calls Try.prog 19 #[.int .u64 a, .int .u64 b] w fun e w' => e = .returned (.tuple #[.int .u64 (a + b), .bool true]) ∧ w = w' := by
  have h0 := ha.1; have h1 := hb.1
  have e1 : (a + b) % 18446744073709551616 = a + b := by omega
  have e2 : (a + b) / 18446744073709551616 = 0 := by omega
  have R := run_add0 a b ha hb
  rw [e1, e2] at R
  clear e1 e2 h h0 h1 ha hb
  go_enter Try.func19, Try.ntmps19
  go_wp2_with (go_at_call 32; refine (exact_ok _ _).mono ?_; rintro e w' ⟨rfl, rfl⟩)
  go_ret2
  exact ⟨rfl, rfl⟩

set_option maxHeartbeats 400000 in
theorem add_no (a b : Int) (ha : U64 a) (hb : U64 b) (h : ¬ a + b < 18446744073709551616) (w : World) :
    Calls Try.prog 19 #[.int .u64 a, .int .u64 b] w fun e w' => e = .returned (.tuple #[.int .u64 0, .bool false]) ∧ w = w' := by
  have h0 := ha.2; have h1 := hb.2
  have e2 : (a + b) / 18446744073709551616 = 1 := by omega
  have R := run_add0 a b ha hb
  rw [e2] at R
  generalize (a + b) % 18446744073709551616 = z at R
  clear e2 h h0 h1 ha hb
  go_enter Try.func19, Try.ntmps19
  go_wp2_with (go_at_call 32; refine (exact_no _ _ (by decide) _).mono ?_; rintro e w' ⟨rfl, rfl⟩)
  go_ret2
  exact ⟨rfl, rfl⟩

theorem add_any (a b : Int) (ha : U64 a) (hb : U64 b) (w : World) :
    Calls Try.prog 19 #[.int .u64 a, .int .u64 b] w fun e w' => e = .returned (.tuple #[.int .u64 (addN a b), .bool (addB a b)]) ∧ w = w' := by
  by_cases h : a + b < 18446744073709551616
  · simpa only [addN, addB, h, if_true, decide_true] using add_ok a b ha hb h w
  · simpa only [addN, addB, h, if_false, decide_false] using add_no a b ha hb h w

set_option maxHeartbeats 400000 in
theorem sub_any (a b : Int) (ha : U64 a) (hb : U64 b) (w : World) :
    Calls Try.prog 41 #[.int .u64 a, .int .u64 b] w fun e w' => e = .returned (.tuple #[.int .u64 (subN a b), .bool (subB a b)]) ∧ w = w' := by
  have h0 := ha.1; have h1 := hb.1; have h2 := ha.2; have h3 := hb.2
  have R := run_sub0 a b ha hb
  by_cases h : b ≤ a
  · have e1 : (a - b) % 18446744073709551616 = a - b := by omega
    have e2 : ¬ a < b := by omega
    simp only [subN, subB, h, if_true, decide_true]
    rw [e1, if_neg e2] at R
    generalize a - b = z at R ⊢
    clear e1 e2 h h0 h1 h2 h3 ha hb
    go_enter Try.func41, Try.ntmps41
    go_wp2_with (go_at_call 32; refine (exact_ok _ _).mono ?_; rintro e w' ⟨rfl, rfl⟩)
    go_ret2
    exact ⟨rfl, rfl⟩
  · have e2 : a < b := by omega
    simp only [subN, subB, h, if_false, decide_false]
    rw [if_pos e2] at R
    generalize (a - b) % 18446744073709551616 = z at R
    clear e2 h h0 h1 h2 h3 ha hb
    go_enter Try.func41, Try.ntmps41
    go_wp2_with (go_at_call 32; refine (exact_no _ _ (by decide) _).mono ?_; rintro e w' ⟨rfl, rfl⟩)
    go_ret2
    exact ⟨rfl, rfl⟩

theorem mul64_any (a b : Int) (ha : U64 a) (hb : U64 b) (w : World) :
    Calls Try.prog 31 #[.int .u64 a, .int .u64 b] w fun e w' => e = .returned (.tuple #[.int .u64 (a * b / 18446744073709551616), .int .u64 (a * b % 18446744073709551616)]) ∧ w = w' := by
  obtain ⟨a, rfl⟩ := Int.eq_ofNat_of_zero_le ha.1
  obtain ⟨b, rfl⟩ := Int.eq_ofNat_of_zero_le hb.1
  have := ha.2; have := hb.2
  refine (Try.bits_Mul64 a b (by omega) (by omega) w).mono ?_
  rintro e w' ⟨rfl, rfl⟩
  exact ⟨by simp, rfl⟩

set_option maxHeartbeats 400000 in
theorem mul_any (a b : Int) (ha : U64 a) (hb : U64 b) (w : World) :
    Calls Try.prog 17 #[.int .u64 a, .int .u64 b] w fun e w' => e = .returned (.tuple #[.int .u64 (mulN a b), .bool (mulB a b)]) ∧ w = w' := by
  have C := mul64_any a b ha hb
  have hn := Int.mul_nonneg ha.1 hb.1
  by_cases h : a * b < 18446744073709551616
  · have e1 : a * b % 18446744073709551616 = a * b := by omega
    have e2 : a * b / 18446744073709551616 = 0 := by omega
    simp only [mulN, mulB, h, if_true, decide_true]
    rw [e1, e2] at C
    generalize a * b = z at C ⊢
    clear e1 e2 h hn ha hb
    have H := Lib.hid C; clear C
    go_enter Try.func17, Try.ntmps17
    go_wp2_with (first | (go_at_call 31; refine (H.out _).mono ?_; rintro e w' ⟨rfl, rfl⟩) | (go_at_call 32; refine (exact_ok _ _).mono ?_; rintro e w' ⟨rfl, rfl⟩))
    go_ret2
    exact ⟨rfl, rfl⟩
  · have e2 : (a * b / 18446744073709551616 != 0) = true := by rw [bne_iff_ne]; omega
    simp only [mulN, mulB, h, if_false, decide_false]
    generalize a * b % 18446744073709551616 = z at C
    generalize a * b / 18446744073709551616 = y at C e2
    clear h hn ha hb
    have H := Lib.hid C; clear C
    go_enter Try.func17, Try.ntmps17
    go_wp2_with (first | (go_at_call 31; refine (H.out _).mono ?_; rintro e w' ⟨rfl, rfl⟩) | (go_at_call 32; refine (exact_no _ _ e2 _).mono ?_; rintro e w' ⟨rfl, rfl⟩))
    go_ret2
    exact ⟨rfl, rfl⟩

set_option maxHeartbeats 400000 in
theorem ceil_zero (a : Int) (w : World) :
    Calls Try.prog 33 #[.int .u64 a, .int .u64 0] w fun e w' => e = .returned (.tuple #[.int .u64 0, .bool false]) ∧ w = w' := by
  go_enter Try.func33, Try.ntmps33
  go_wp2
  go_ret2
  exact ⟨rfl, rfl⟩

set_option maxHeartbeats 400000 in
theorem ceil_pos (a b : Int) (h0 : 0 ≤ a) (h1 : a ≤ 18446744073709551615) (h2 : 0 < b) (h3 : b ≤ 18446744073709551615) (w : World) :
    Calls Try.prog 33 #[.int .u64 a, .int .u64 b] w fun e w' => e = .returned (.tuple #[.int .u64 (ceilN a b), .bool true]) ∧ w = w' := by
  have hb : (b == 0) = false := by rw [beq_eq_false_iff_ne]; omega
  have hz : ¬ b = 0 := by omega
  go_enter Try.func33, Try.ntmps33
  go_wp2
  · rename_i hm
    have hm' : a % b ≠ 0 := by simpa using hm
    have := div_succ_le h0 h2 hm'
    have := Int.ediv_nonneg h0 (Int.le_of_lt h2)
    go_ret2
    refine ⟨?_, rfl⟩
    rw [IntWalk.u64_in _ (by omega), ceilN, if_neg hz, if_neg hm']
    rfl
  · rename_i hm
    have hm' : a % b = 0 := by simpa using hm
    go_ret2
    refine ⟨?_, rfl⟩
    rw [ceilN, if_neg hz, if_pos hm']
    rfl

theorem ceil_any (a b : Int) (ha : U64 a) (hb : U64 b) (w : World) :
    Calls Try.prog 33 #[.int .u64 a, .int .u64 b] w fun e w' => e = .returned (.tuple #[.int .u64 (ceilN a b), .bool (ceilB b)]) ∧ w = w' := by
  have := ha.1; have := ha.2; have := hb.1; have := hb.2
  by_cases h : b = 0
  · subst h; simpa [ceilN, ceilB] using ceil_zero a w
  · have e : ceilB b = true := by simp [ceilB, h]
    rw [e]; exact ceil_pos a b (by omega) (by omega) (by omega) (by omega) w

end Go.Proofs.Ytpmllljlhopgbaa

/-
  The plain numbers under the division of two words by one: digits of 32 bits. No program in this text.
-/
namespace Go.Proofs.Ytpmllljlhopgbaa
open Go.RowKit

theorem digit_of {T Y q : Int} (hY : 0 < Y) (h1 : q * Y ≤ T) (h2 : T < (q + 1) * Y) : T / Y = q := by
  have a := (Int.le_ediv_iff_mul_le hY).2 h1
  have b := (Int.ediv_lt_iff_lt_mul hY).2 h2
  omega

theorem digit_gap (q r U V1 V0 u1 : Int) (h : q * V1 + r = U) : (U * 4294967296 + u1) - q * (V1 * 4294967296 + V0) = r * 4294967296 + u1 - q * V0 := by
  rw [Int.mul_add, ← Int.mul_assoc]; omega

/-- What holds at the head of each of both loops. -/
structure Digit (U V1 V0 u1 q r : Int) : Prop where
  sum : q * V1 + r = U
  hi : U * 4294967296 + u1 < (q + 1) * (V1 * 4294967296 + V0)

theorem Digit.start {U V1 V0 u1 : Int} (hV : 0 < V1) (hV0 : 0 ≤ V0) (hU : 0 ≤ U) (h1 : 0 ≤ u1) (h2 : u1 ≤ 4294967295) : Digit U V1 V0 u1 (U / V1) (U - U / V1 * V1) := by
  refine ⟨by omega, ?_⟩
  have a := Int.lt_ediv_add_one_mul_self U hV
  have b : 0 ≤ U / V1 := Int.ediv_nonneg hU (by omega)
  have c : 0 ≤ (U / V1 + 1) * V0 := Int.mul_nonneg (by omega) hV0
  rw [Int.mul_add, ← Int.mul_assoc]
  omega

/-- The digit is too great: the next one is looked at. -/
theorem Digit.next {U V1 V0 u1 q r : Int} (h : Digit U V1 V0 u1 q r) (hU : U < V1 * 4294967296 + V0) (hU0 : 0 ≤ U) (h1 : 0 ≤ u1) (h2 : u1 ≤ 4294967295) (_hV : 0 < V1) (_hV0 : 0 ≤ V0)
    (hq : 0 ≤ q) (hc : 4294967296 ≤ q ∨ r * 4294967296 + u1 < q * V0) : Digit U V1 V0 u1 (q - 1) (r + V1) ∧ 1 ≤ q := by
  have hT : U * 4294967296 + u1 < q * (V1 * 4294967296 + V0) := by
    rcases hc with hc | hc
    · have := Int.mul_le_mul_of_nonneg_right hc (show 0 ≤ V1 * 4294967296 + V0 by omega)
      omega
    · have := digit_gap q r U V1 V0 u1 h.sum
      omega
  refine ⟨⟨?_, ?_⟩, ?_⟩
  · rw [Int.sub_mul, Int.one_mul]; have := h.sum; omega
  · rw [Int.sub_add_cancel]; exact hT
  · rcases (show q < 1 ∨ 1 ≤ q by omega) with g | g
    · have : q = 0 := by omega
      subst this
      rw [Int.zero_mul] at hT; omega
    · exact g

/-- It is not too great: it is the digit. -/
theorem Digit.done {U V1 V0 u1 q r : Int} (h : Digit U V1 V0 u1 q r) (hV : 0 < V1) (hV0 : 0 ≤ V0) (hc : q * V0 ≤ r * 4294967296 + u1) :
    (U * 4294967296 + u1) / (V1 * 4294967296 + V0) = q := by
  have := digit_gap q r U V1 V0 u1 h.sum
  exact digit_of (by omega) (by omega) h.hi

/-- The rest is so great that the digit can't be too great. -/
theorem Digit.leave {U V1 V0 u1 q r : Int} (h : Digit U V1 V0 u1 q r) (hU : U < V1 * 4294967296 + V0) (h1 : 0 ≤ u1) (hV : 0 < V1) (hV0 : 0 ≤ V0) (hV0' : V0 ≤ 4294967295) (hr : 4294967296 ≤ r) :
    (U * 4294967296 + u1) / (V1 * 4294967296 + V0) = q := by
  refine h.done hV hV0 ?_
  have hs := h.sum
  have hq : q ≤ 4294967295 := by
    rcases (show q < 4294967296 ∨ 4294967296 ≤ q by omega) with g | g
    · omega
    · have := Int.mul_le_mul_of_nonneg_right g (show 0 ≤ V1 by omega)
      omega
  have := Int.mul_le_mul_of_nonneg_right hq hV0
  omega

theorem digit_bounds {U V1 V0 u1 : Int} (hU : U < V1 * 4294967296 + V0) (hU0 : 0 ≤ U) (h1 : 0 ≤ u1) (h2 : u1 ≤ 4294967295) :
    0 ≤ (U * 4294967296 + u1) / (V1 * 4294967296 + V0) ∧ (U * 4294967296 + u1) / (V1 * 4294967296 + V0) ≤ 4294967295 ∧
    0 ≤ (U * 4294967296 + u1) - (U * 4294967296 + u1) / (V1 * 4294967296 + V0) * (V1 * 4294967296 + V0) ∧
    (U * 4294967296 + u1) - (U * 4294967296 + u1) / (V1 * 4294967296 + V0) * (V1 * 4294967296 + V0) < V1 * 4294967296 + V0 := by
  have hY : 0 < V1 * 4294967296 + V0 := by omega
  generalize V1 * 4294967296 + V0 = Y at *
  have a := Int.mul_ediv_add_emod (U * 4294967296 + u1) Y
  have b := Int.emod_nonneg (U * 4294967296 + u1) (b := Y) (by omega)
  have c := Int.emod_lt_of_pos (U * 4294967296 + u1) hY
  rw [Int.mul_comm] at a
  refine ⟨Int.ediv_nonneg (by omega) (by omega), ?_, by omega, by omega⟩
  have : (U * 4294967296 + u1) / Y < 4294967296 := (Int.ediv_lt_iff_lt_mul hY).2 (by omega)
  omega

/-- Both digits together, and the rest, shifted back. -/
theorem digits_all {N y P U Z u1 u0 Y D1 R1 D0 R0 : Int} (hP : 0 < P) (hy : 0 < y) (hY : Y = y * P) (hN : N * P = U * 18446744073709551616 + Z) (hZ : Z = u1 * 4294967296 + u0)
    (e1 : U * 4294967296 + u1 = D1 * Y + R1) (e0 : R1 * 4294967296 + u0 = D0 * Y + R0) (hr0 : 0 ≤ R0) (hr1 : R0 < Y) :
    N / y = D1 * 4294967296 + D0 ∧ N % y = R0 / P := by
  have h : N * P = (D1 * 4294967296 + D0) * Y + R0 := by
    rw [Int.add_mul, Int.mul_right_comm]
    generalize D1 * Y = x at *
    generalize D0 * Y = z at *
    omega
  generalize hQ : D1 * 4294967296 + D0 = Q at h ⊢
  rw [hY, ← Int.mul_assoc] at h
  have hR : R0 = (N - Q * y) * P := by rw [Int.sub_mul]; omega
  have hd : R0 / P = N - Q * y := by rw [hR]; exact Int.mul_ediv_cancel _ (by omega)
  have k0 : 0 ≤ N - Q * y := by rw [← hd]; exact Int.ediv_nonneg hr0 (by omega)
  have k1 : N - Q * y < y := by
    rw [hR, hY] at hr1
    exact Int.lt_of_mul_lt_mul_right hr1 (by omega)
  have hq : N / y = Q := digit_of hy (by omega) (by rw [Int.add_mul, Int.one_mul]; omega)
  refine ⟨hq, ?_⟩
  rw [hd, Int.emod_def, hq, Int.mul_comm]

theorem bitLen_two (x : Nat) : x ≠ 0 → x < 2 ^ 64 → 2 ^ Lib.bitLen x ≤ 2 * x ∧ x < 2 ^ Lib.bitLen x := by
  induction x using Nat.strongRecOn with
  | _ x ih =>
    intro h0 h
    rw [Lib.bitLen_half x h0 h]
    by_cases hx : x / 2 = 0
    · have : x = 1 := by omega
      subst this
      rw [hx]
      have : Lib.bitLen 0 = 0 := Lib.bitLenAux_zero 64
      rw [this]; omega
    · have := ih (x / 2) (by omega) hx (by omega)
      rw [Nat.pow_add]; omega

/-- What the division's text works with, when the divisor was shifted to its greatest. -/
structure Norm (hi lo y : Nat) (s : Nat) (Y V1 V0 U Z u1 u0 : Int) : Prop where
  hs : s ≤ 63
  len : 64 - (Lib.bitLen y : Int) = s
  e1 : IntKind.u64.wrap ((y : Int) * 2 ^ s) = Y
  e2 : Y / 4294967296 = V1
  e3 : bits .and .u64 Y 4294967295 = V0
  e4 : bits .or .u64 (IntKind.u64.wrap ((hi : Int) * 2 ^ s)) ((lo : Int) / 2 ^ (64 - s)) = U
  e5 : IntKind.u64.wrap ((lo : Int) * 2 ^ s) = Z
  e6 : Z / 4294967296 = u1
  e7 : bits .and .u64 Z 4294967295 = u0
  hY : Y = y * 2 ^ s
  hYV : Y = V1 * 4294967296 + V0
  hZ : Z = u1 * 4294967296 + u0
  hN : ((hi : Int) * 18446744073709551616 + lo) * 2 ^ s = U * 18446744073709551616 + Z
  hU0 : 0 ≤ U
  hU : U < Y
  v1 : 2147483648 ≤ V1
  v2 : V1 ≤ 4294967295
  v3 : 0 ≤ V0
  v4 : V0 ≤ 4294967295
  u1a : 0 ≤ u1
  u1b : u1 ≤ 4294967295
  u0a : 0 ≤ u0
  u0b : u0 ≤ 4294967295

theorem norm_of (hi lo y : Nat) (h : hi < y) (hy : y < 18446744073709551616) (hl : lo < 18446744073709551616) : ∃ s Y V1 V0 U Z u1 u0, Norm hi lo y s Y V1 V0 U Z u1 u0 := by
  have hb := bitLen_two y (by omega) (by omega)
  have hb64 : Lib.bitLen y ≤ 64 := Lib.bitLen_le y 64 (by omega) (by omega)
  have hb1 : 1 ≤ Lib.bitLen y := by
    rcases Nat.eq_zero_or_pos (Lib.bitLen y) with e | e
    · rw [e] at hb; omega
    · exact e
  obtain ⟨s, hs⟩ : ∃ s, Lib.bitLen y + s = 64 := ⟨64 - Lib.bitLen y, by omega⟩
  have hp : 2 ^ Lib.bitLen y * 2 ^ s = 18446744073709551616 := by rw [← Nat.pow_add, hs]
  have hps : 0 < 2 ^ s := Nat.two_pow_pos s
  have hpb : 2 ^ (64 - s) = 2 ^ Lib.bitLen y := by congr 1; omega
  have hY1 : y * 2 ^ s < 18446744073709551616 := by rw [← hp]; exact Nat.mul_lt_mul_of_pos_right hb.2 hps
  have hY2 : 18446744073709551616 ≤ 2 * (y * 2 ^ s) := by rw [← hp, ← Nat.mul_assoc]; exact Nat.mul_le_mul_right _ hb.1
  have hq : lo / 2 ^ Lib.bitLen y < 2 ^ s := by
    rw [Nat.div_lt_iff_lt_mul (Nat.two_pow_pos _), Nat.mul_comm, hp]; exact hl
  have hhi : hi * 2 ^ s + 2 ^ s ≤ y * 2 ^ s := by
    have : (hi + 1) * 2 ^ s ≤ y * 2 ^ s := Nat.mul_le_mul_right _ h
    rw [Nat.add_mul, Nat.one_mul] at this; exact this
  have hlo : lo * 2 ^ s / 18446744073709551616 = lo / 2 ^ Lib.bitLen y := by
    rw [← hp]; exact Nat.mul_div_mul_right _ _ hps
  have cast2 : ∀ k : Nat, ((2 : Int) ^ k) = ((2 ^ k : Nat) : Int) := fun k => by simp
  have hand : ∀ m : Nat, m < 18446744073709551616 → bits .and .u64 (m : Int) 4294967295 = ((m % 4294967296 : Nat) : Int) := by
    intro m hm
    have := bits_and_u64_nat m 4294967295 hm (by omega)
    rw [show m &&& 4294967295 = m % 4294967296 from Nat.and_two_pow_sub_one_eq_mod m 32] at this
    exact this
  have hor : bits .or .u64 ((hi * 2 ^ s : Nat) : Int) ((lo / 2 ^ Lib.bitLen y : Nat) : Int) = ((hi * 2 ^ s + lo / 2 ^ Lib.bitLen y : Nat) : Int) := by
    rw [bits_or_u64_nat _ _ (by omega) (by omega), nat_join s _ _ (Nat.mul_mod_left _ _) hq]
  refine ⟨s, ((y * 2 ^ s : Nat) : Int), ((y * 2 ^ s / 4294967296 : Nat) : Int), ((y * 2 ^ s % 4294967296 : Nat) : Int), ((hi * 2 ^ s + lo / 2 ^ Lib.bitLen y : Nat) : Int), ((lo * 2 ^ s % 18446744073709551616 : Nat) : Int),
    ((lo * 2 ^ s % 18446744073709551616 / 4294967296 : Nat) : Int), ((lo * 2 ^ s % 18446744073709551616 % 4294967296 : Nat) : Int), ?_⟩
  generalize hA : y * 2 ^ s = A at *
  generalize hB : hi * 2 ^ s = B at *
  generalize hC : lo * 2 ^ s = C at *
  generalize hD : lo / 2 ^ Lib.bitLen y = D at *
  have cA : (y : Int) * 2 ^ s = A := by rw [cast2, ← hA]; simp
  have cB : (hi : Int) * 2 ^ s = B := by rw [cast2, ← hB]; simp
  have cC : (lo : Int) * 2 ^ s = C := by rw [cast2, ← hC]; simp
  have cD : (lo : Int) / 2 ^ (64 - s) = D := by rw [cast2, hpb, ← hD]; simp
  generalize 2 ^ s = P at *
  generalize 2 ^ Lib.bitLen y = Q at *
  refine { hs := by omega, len := by omega, e1 := ?_, e2 := by omega, e3 := hand A (by omega), e4 := ?_, e5 := ?_, e6 := by omega, e7 := hand _ (by omega), hY := ?_, hYV := by omega, hZ := by omega, hN := ?_, hU0 := by omega, hU := by omega, v1 := by omega, v2 := by omega, v3 := by omega, v4 := by omega, u1a := by omega, u1b := by omega, u0a := by omega, u0b := by omega }
  · rw [cA]; exact IntWalk.u64_in _ (by omega)
  · rw [cB, cD, IntWalk.u64_in _ (by omega)]; exact hor
  · rw [cC, IntKind.wrap_u64]; omega
  · exact cA.symm
  · rw [Int.add_mul, Int.mul_right_comm, cB, cC]; omega

end Go.Proofs.Ytpmllljlhopgbaa

/-
  The walk over the division of two words by one.
-/
namespace Go.Proofs.Ytpmllljlhopgbaa
open Go.RowKit

set_option maxHeartbeats 400000 in
theorem div_small (lo y : Int) (h0 : 0 ≤ lo) (h1 : lo ≤ 18446744073709551615) (g0 : 0 < y) (g1 : y ≤ 18446744073709551615) (w : World) :
    Calls Try.prog 48 #[.int .u64 0, .int .u64 lo, .int .u64 y] w fun e w' => e = .returned (.tuple #[.int .u64 (lo / y), .int .u64 (lo % y)]) ∧ Below w.heap.size w w' := by
  have hy : (y == 0) = false := by rw [beq_eq_false_iff_ne]; omega
  have hz : ¬ y ≤ 0 := by omega
  go_enter Try.func48, Try.ntmps48
  go_wp2_with (fail)
  go_quiet (fail)
  go_wp2_with (fail)
  go_ret2
  exact ⟨rfl, below_drewN (Below.refl _ _) _⟩

set_option maxRecDepth 100000 in
set_option maxHeartbeats 4000000 in
theorem div_walk (hi lo y : Nat) (s : Nat) (Y V1 V0 U Z u1 u0 Q P R D1 A1 A2 A3 U1 Q2 P2 R2 D0 B1 B2 B3 R0 : Int) (N : Norm hi lo y s Y V1 V0 U Z u1 u0) (hh0 : 0 < hi) (hhy : hi < y) (hyb : y < 18446744073709551616) (w : World)
    (x1 : IntKind.u64.wrap (U.tdiv V1) = Q) (x2 : IntKind.u64.wrap (Q * V1) = P) (x3 : IntKind.u64.wrap (U - P) = R)
    (qa : 0 ≤ Q) (qb : Q ≤ 8589934592) (ra : 0 ≤ R) (rb : R ≤ 4294967295) (q3 : Hid (Digit U V1 V0 u1 Q R))
    (UV : Hid (U < V1 * 4294967296 + V0)) (hD1 : Hid ((U * 4294967296 + u1) / (V1 * 4294967296 + V0) = D1)) (da : 0 ≤ D1) (db : D1 ≤ 4294967295)
    (y1 : IntKind.u64.wrap (U * 4294967296) = A1) (y2 : IntKind.u64.wrap (A1 + u1) = A2) (y3 : IntKind.u64.wrap (D1 * Y) = A3) (y4 : IntKind.u64.wrap (A2 - A3) = U1) (U10 : 0 ≤ U1)
    (y5 : IntKind.u64.wrap (U1.tdiv V1) = Q2) (y6 : IntKind.u64.wrap (Q2 * V1) = P2) (y7 : IntKind.u64.wrap (U1 - P2) = R2)
    (ta : 0 ≤ Q2) (tb : Q2 ≤ 8589934592) (sa : 0 ≤ R2) (sb : R2 ≤ 4294967295) (t3 : Hid (Digit U1 V1 V0 u0 Q2 R2))
    (U1V : Hid (U1 < V1 * 4294967296 + V0)) (hD0 : Hid ((U1 * 4294967296 + u0) / (V1 * 4294967296 + V0) = D0)) (ea : 0 ≤ D0) (eb : D0 ≤ 4294967295)
    (z1 : IntKind.u64.wrap (U1 * 4294967296) = B1) (z2 : IntKind.u64.wrap (B1 + u0) = B2) (z3 : IntKind.u64.wrap (D0 * Y) = B3) (z4 : IntKind.u64.wrap (B2 - B3) = R0) :
    Calls Try.prog 48 #[.int .u64 hi, .int .u64 lo, .int .u64 y] w fun e w' => e = .returned (.tuple #[.int .u64 (D1 * 4294967296 + D0), .int .u64 (R0 / 2 ^ s)]) ∧ w = w' := by
  obtain ⟨hs, len, e1, e2, e3, e4, e5, e6, e7, hY, hYV, hZ, hN, U0, hU, v1, v2, v3, v4, u1a, u1b, u0a, u0b⟩ := N
  have hy : ((y : Int) == 0) = false := by rw [beq_eq_false_iff_ne]; omega
  have hv : (V1 == 0) = false := by rw [beq_eq_false_iff_ne]; omega
  have hh : ((hi : Int) == 0) = false := by rw [beq_eq_false_iff_ne]; omega
  have hz : ¬ (y : Int) ≤ hi := by omega
  have C := Try.bits_LeadingZeros64 y w (by omega) (by omega)
  rw [Int.toNat_natCast, len] at C
  have HC := Lib.hid C; clear C len
  clear hY hZ hN hYV hU hhy hyb hh0
  go_enter Try.func48, Try.ntmps48
  go_upto_block 0 with (go_at_call 62; refine HC.out.mono ?_; rintro e w' ⟨rfl, rfl⟩)
  clear e1 e2 e3 e4 e5 e6 e7 hy hh hz x1 x2 x3 HC
  go_cut [15, 16] (fun q r wc' => q = .int .u64 D1 ∧ (∃ x, r = .int .u64 x) ∧ wc' = w')
  case first =>
    clear y1 y2 y3 y4 y5 y6 y7 z1 z2 z3 z4
    go_wp2_with (fail)
    go_loop [15, 16] (fun sq sr => ∃ q r : Int, 0 ≤ q ∧ q ≤ 8589934592 ∧ 0 ≤ r ∧ r ≤ 4294967295 ∧ Hid (Digit U V1 V0 u1 q r) ∧ sq = .int .u64 q ∧ sr = .int .u64 r) (fun sq _ => (intOf sq).toNat)
    case atStart => exact ⟨_, _, qa, qb, ra, rb, q3, rfl, rfl⟩
    case round =>
      obtain ⟨q, r, ha, hb, hc, hd, hdig, rfl, rfl⟩ := hrel
      obtain ⟨p, hp⟩ : ∃ p, q * V0 = p := ⟨_, rfl⟩
      have hp0 : 0 ≤ p := by rw [← hp]; exact Int.mul_nonneg ha v3
      by_cases c1 : 4294967296 ≤ q
      · obtain ⟨hn, h1q⟩ := hdig.out.next UV.out U0 u1a u1b (by omega) v3 ha (.inl c1)
        have Hn := Lib.hid hn; clear hn hp hp0
        by_cases c3 : 4294967296 ≤ r + V1
        · have hD := Hn.out.leave UV.out u1a (by omega) v3 v4 c3
          rw [hD1.out] at hD
          have HD := Lib.hid hD; clear hD
          go_wp2_with (fail)
          go_meet
          case rel => exact ⟨by rw [HD.out], ⟨_, rfl⟩, rfl⟩
        · go_wp2_with (fail)
          go_round
          case rel => exact ⟨q - 1, r + V1, by omega, by omega, by omega, by omega, Hn, rfl, rfl⟩
          case measure => simp [intOf]; omega
      · have hp1 : p ≤ 18446744065119617025 := by
          have h1 := Int.mul_le_mul (show q ≤ 4294967295 by omega) v4 v3 (by omega)
          omega
        by_cases c2 : r * 4294967296 + u1 < p
        · obtain ⟨hn, h1q⟩ := hdig.out.next UV.out U0 u1a u1b (by omega) v3 ha (.inr (by rw [hp]; exact c2))
          have Hn := Lib.hid hn; clear hn
          have c2' : 4294967296 * r + u1 < p := by omega
          by_cases c3 : 4294967296 ≤ r + V1
          · have hD := Hn.out.leave UV.out u1a (by omega) v3 v4 c3
            rw [hD1.out] at hD
            have HD := Lib.hid hD; clear hD
            go_wp2_with (fail)
            go_meet
            case rel => exact ⟨by rw [HD.out], ⟨_, rfl⟩, rfl⟩
          · go_wp2_with (fail)
            go_round
            case rel => exact ⟨q - 1, r + V1, by omega, by omega, by omega, by omega, Hn, rfl, rfl⟩
            case measure => simp [intOf]; omega
        · have hD := hdig.out.done (by omega) v3 (by rw [hp]; omega)
          rw [hD1.out] at hD
          have HD := Lib.hid hD; clear hD
          have c2' : p ≤ 4294967296 * r + u1 := by omega
          go_wp2_with (fail)
          go_meet
          case rel => exact ⟨by rw [HD.out], ⟨_, rfl⟩, rfl⟩
  case rest =>
    obtain ⟨rfl, ⟨x, rfl⟩, rfl⟩ := hcut
    go_upto_block 2 with (fail)
    clear y1 y2 y3 y4 y5 y6 y7 hv
    go_cut [18, 16] (fun q r wc' => q = .int .u64 D0 ∧ (∃ x, r = .int .u64 x) ∧ wc' = wc)
    case first =>
      clear z1 z2 z3 z4
      go_wp2_with (fail)
      go_loop [18, 16] (fun sq sr => ∃ q r : Int, 0 ≤ q ∧ q ≤ 8589934592 ∧ 0 ≤ r ∧ r ≤ 4294967295 ∧ Hid (Digit U1 V1 V0 u0 q r) ∧ sq = .int .u64 q ∧ sr = .int .u64 r) (fun sq _ => (intOf sq).toNat)
      case atStart => exact ⟨_, _, ta, tb, sa, sb, t3, rfl, rfl⟩
      case round =>
        obtain ⟨q, r, ha, hb, hc, hd, hdig, rfl, rfl⟩ := hrel
        obtain ⟨p, hp⟩ : ∃ p, q * V0 = p := ⟨_, rfl⟩
        have hp0 : 0 ≤ p := by rw [← hp]; exact Int.mul_nonneg ha v3
        by_cases c1 : 4294967296 ≤ q
        · obtain ⟨hn, h1q⟩ := hdig.out.next U1V.out U10 u0a u0b (by omega) v3 ha (.inl c1)
          have Hn := Lib.hid hn; clear hn hp hp0
          by_cases c3 : 4294967296 ≤ r + V1
          · have hD := Hn.out.leave U1V.out u0a (by omega) v3 v4 c3
            rw [hD0.out] at hD
            have HD := Lib.hid hD; clear hD
            go_wp2_with (fail)
            go_meet
            case rel => exact ⟨by rw [HD.out], ⟨_, rfl⟩, rfl⟩
          · go_wp2_with (fail)
            go_round
            case rel => exact ⟨q - 1, r + V1, by omega, by omega, by omega, by omega, Hn, rfl, rfl⟩
            case measure => simp [intOf]; omega
        · have hp1 : p ≤ 18446744065119617025 := by
            have h1 := Int.mul_le_mul (show q ≤ 4294967295 by omega) v4 v3 (by omega)
            omega
          by_cases c2 : r * 4294967296 + u0 < p
          · obtain ⟨hn, h1q⟩ := hdig.out.next U1V.out U10 u0a u0b (by omega) v3 ha (.inr (by rw [hp]; exact c2))
            have Hn := Lib.hid hn; clear hn
            have c2' : 4294967296 * r + u0 < p := by omega
            by_cases c3 : 4294967296 ≤ r + V1
            · have hD := Hn.out.leave U1V.out u0a (by omega) v3 v4 c3
              rw [hD0.out] at hD
              have HD := Lib.hid hD; clear hD
              go_wp2_with (fail)
              go_meet
              case rel => exact ⟨by rw [HD.out], ⟨_, rfl⟩, rfl⟩
            · go_wp2_with (fail)
              go_round
              case rel => exact ⟨q - 1, r + V1, by omega, by omega, by omega, by omega, Hn, rfl, rfl⟩
              case measure => simp [intOf]; omega
          · have hD := hdig.out.done (by omega) v3 (by rw [hp]; omega)
            rw [hD0.out] at hD
            have HD := Lib.hid hD; clear hD
            have c2' : p ≤ 4294967296 * r + u0 := by omega
            go_wp2_with (fail)
            go_meet
            case rel => exact ⟨by rw [HD.out], ⟨_, rfl⟩, rfl⟩
    case rest =>
      obtain ⟨rfl, ⟨x, rfl⟩, rfl⟩ := hcut
      go_wp2_with (fail)
      go_ret2
      exact ⟨rfl, rfl⟩


theorem div_any (hi lo y : Int) (a0 : 0 ≤ hi) (a1 : hi < y) (b0 : 0 ≤ lo) (b1 : lo < 18446744073709551616) (c1 : y < 18446744073709551616) (w : World) :
    Calls Try.prog 48 #[.int .u64 hi, .int .u64 lo, .int .u64 y] w fun e w' => e = .returned (.tuple #[.int .u64 ((hi * 18446744073709551616 + lo) / y), .int .u64 ((hi * 18446744073709551616 + lo) % y)]) ∧ Below w.heap.size w w' := by
  by_cases hz : hi = 0
  · subst hz
    simpa using div_small lo y b0 (by omega) (by omega) (by omega) w
  obtain ⟨hi, rfl⟩ := Int.eq_ofNat_of_zero_le a0
  obtain ⟨lo, rfl⟩ := Int.eq_ofNat_of_zero_le b0
  obtain ⟨y, rfl⟩ := Int.eq_ofNat_of_zero_le (show 0 ≤ y by omega)
  obtain ⟨s, Y, V1, V0, U, Z, u1, u0, N⟩ := norm_of hi lo y (by omega) (by omega) (by omega)
  have hU : U < V1 * 4294967296 + V0 := by have := N.hYV; have := N.hU; omega
  have hU0 := N.hU0; have v1 := N.v1; have v2 := N.v2; have v3 := N.v3; have v4 := N.v4; have u1a := N.u1a; have u1b := N.u1b; have u0a := N.u0a; have u0b := N.u0b; have hYV := N.hYV
  have quot : ∀ U : Int, 0 ≤ U → U < V1 * 4294967296 + V0 → 0 ≤ U / V1 ∧ U / V1 ≤ 8589934592 ∧ 0 ≤ U - U / V1 * V1 ∧ U - U / V1 * V1 ≤ 4294967295 ∧ U / V1 * V1 ≤ U ∧ 0 ≤ U / V1 * V1 := by
    intro U k0 k1
    have a := Int.mul_ediv_add_emod U V1
    have b := Int.emod_nonneg U (b := V1) (by omega)
    have c := Int.emod_lt_of_pos U (show 0 < V1 by omega)
    have d : U / V1 ≤ 8589934592 := by
      have : U / V1 < 8589934593 := (Int.ediv_lt_iff_lt_mul (by omega)).2 (by omega)
      omega
    rw [Int.mul_comm] at a
    exact ⟨Int.ediv_nonneg k0 (by omega), d, by omega, by omega, by omega, Int.mul_nonneg (Int.ediv_nonneg k0 (by omega)) (by omega)⟩
  have g1 := digit_bounds hU hU0 u1a u1b
  obtain ⟨p1, p2, p3, p4, p5, p6⟩ := quot U hU0 hU
  have g3 := Digit.start (U := U) (V1 := V1) (V0 := V0) (u1 := u1) (by omega) v3 hU0 u1a u1b
  generalize hD1 : (U * 4294967296 + u1) / (V1 * 4294967296 + V0) = D1 at g1
  obtain ⟨i1, i2, i3, i4⟩ := g1
  rw [← hYV] at i3 i4
  generalize hU1 : U * 4294967296 + u1 - D1 * Y = U1 at i3 i4
  have hU1V : U1 < V1 * 4294967296 + V0 := by omega
  have g2 := digit_bounds hU1V i3 u0a u0b
  obtain ⟨r1, r2, r3, r4, r5, r6⟩ := quot U1 i3 hU1V
  have g4 := Digit.start (U := U1) (V1 := V1) (V0 := V0) (u1 := u0) (by omega) v3 i3 u0a u0b
  generalize hD0 : (U1 * 4294967296 + u0) / (V1 * 4294967296 + V0) = D0 at g2
  obtain ⟨j1, j2, j3, j4⟩ := g2
  rw [← hYV] at j3 j4
  generalize hR0 : U1 * 4294967296 + u0 - D0 * Y = R0 at j3 j4
  have hM : Y < 18446744073709551616 := by omega
  have W := IntKind.wrap_u64
  obtain ⟨f1, f2⟩ := digits_all (N := (hi : Int) * 18446744073709551616 + lo) (y := y) (P := 2 ^ s) (U := U) (Z := Z) (u1 := u1) (u0 := u0) (Y := Y) (D1 := D1) (R1 := U1) (D0 := D0) (R0 := R0) (by have := Nat.two_pow_pos s; rw [show ((2 : Int) ^ s) = ((2 ^ s : Nat) : Int) by simp]; omega) (by omega) N.hY N.hN N.hZ (by omega) (by omega) j3 j4
  rw [f1, f2]
  refine (div_walk hi lo y s Y V1 V0 U Z u1 u0 (U / V1) (U / V1 * V1) (U - U / V1 * V1) D1 _ _ _ U1 (U1 / V1) (U1 / V1 * V1) (U1 - U1 / V1 * V1) D0 _ _ _ R0 N (by omega) (by omega) (by omega) w
    ?_ ?_ ?_ p1 p2 p3 p4 g3 hU hD1 i1 i2 rfl rfl rfl ?_ i3 ?_ ?_ ?_ r1 r2 r3 r4 g4 hU1V hD0 j1 j2 rfl rfl rfl ?_).mono ?_
  · rw [IntWalk.u64_quo _ _ (by omega)]
  · exact IntWalk.u64_in _ (by omega)
  · exact IntWalk.u64_in _ (by omega)
  · rw [W, W, W, W]; omega
  · rw [IntWalk.u64_quo _ _ (by omega)]
  · exact IntWalk.u64_in _ (by omega)
  · exact IntWalk.u64_in _ (by omega)
  · rw [W, W, W, W]; omega
  · rintro e w' ⟨rfl, rfl⟩
    exact ⟨rfl, Below.refl _ _⟩

def mdN (a b c : Int) : Int := if a * b / 18446744073709551616 < c then a * b / c else 0
def mdR (a b c : Int) : Int := if a * b / 18446744073709551616 < c then a * b % c else 0
def mdB (a b c : Int) : Bool := decide (a * b / 18446744073709551616 < c)

set_option maxHeartbeats 400000 in
theorem muldiv_any (a b c : Int) (ha : U64 a) (hb : U64 b) (hc : U64 c) (w : World) :
    Calls Try.prog 40 #[.int .u64 a, .int .u64 b, .int .u64 c] w fun e w' => e = .returned (.tuple #[.int .u64 (mdN a b c), .int .u64 (mdR a b c), .bool (mdB a b c)]) ∧ Below w.heap.size w w' := by
  have M := mul64_any a b ha hb
  have hn := Int.mul_nonneg ha.1 hb.1
  unfold mdN mdR mdB
  have e1 : a * b = (a * b / 18446744073709551616) * 18446744073709551616 + a * b % 18446744073709551616 := by omega
  have e2 : 0 ≤ a * b / 18446744073709551616 := by omega
  have e3 : 0 ≤ a * b % 18446744073709551616 := by omega
  have e4 : a * b % 18446744073709551616 < 18446744073709551616 := by omega
  have hc2 := hc.2
  by_cases h : a * b / 18446744073709551616 < c
  · simp only [h, if_true, decide_true]
    have D := fun w => div_any (a * b / 18446744073709551616) (a * b % 18446744073709551616) c e2 h e3 e4 hc2 w
    rw [← e1] at D
    generalize a * b / 18446744073709551616 = x at M D h
    generalize a * b % 18446744073709551616 = z at M D
    generalize a * b / c = q at D ⊢
    generalize a * b % c = r at D ⊢
    have HM := Lib.hid M; clear M
    have HD := Lib.hid D; clear D
    have h' : ¬ c ≤ x := by omega
    clear e1 e2 e3 e4 hn ha hb hc h hc2
    go_enter Try.func40, Try.ntmps40
    go_wp2_with (first | (go_at_call 31; (with_reducible refine (HM.out _).mono ?_); rintro e w' ⟨rfl, rfl⟩) | (go_at_call 48; (with_reducible refine (HD.out _).mono ?_); rintro e w' ⟨rfl, hw⟩))
    go_ret3
    exact ⟨rfl, hw⟩
  · simp only [h, if_false, decide_false]
    generalize a * b / 18446744073709551616 = x at M h
    generalize a * b % 18446744073709551616 = z at M
    have HM := Lib.hid M; clear M
    have h' : c ≤ x := by omega
    clear e1 e2 e3 e4 hn ha hb hc h hc2
    go_enter Try.func40, Try.ntmps40
    go_wp2_with (go_at_call 31; (with_reducible refine (HM.out _).mono ?_); rintro e w' ⟨rfl, rfl⟩)
    go_ret3
    exact ⟨rfl, Below.refl _ _⟩

end Go.Proofs.Ytpmllljlhopgbaa

/-
  Plainly: shares of the time, how far a climb may go, and what it tells.
-/
namespace Go.Proofs.Ytpmllljlhopgbaa

/-- The share of one, in parts of the whole. -/
def flI (x : Dm) : Int := x.c * 1152921504606846976 / x.t
def flN (l : List Dm) : Nat → Int
  | 0 => 0
  | k + 1 => match l[k]? with
    | some x => flN l k + flI x
    | none => flN l k
theorem fl_next {l : List Dm} {k : Nat} {x : Dm} (h : l[k]? = some x) : flN l (k + 1) = flN l k + flI x := by rw [flN, h]
theorem fl_end {l : List Dm} {k : Nat} (h : l[k]? = none) : flN l (k + 1) = flN l k := by rw [flN, h]
theorem flI_nonneg {x : Dm} (h : x.ok) : 0 ≤ flI x := by
  have := h.c0; have := h.d1; have := h.d2
  exact Int.ediv_nonneg (Int.mul_nonneg h.c0 (by decide)) (by omega)
theorem fl_mono {l : List Dm} (h : ∀ x ∈ l, x.ok) : ∀ {j k : Nat}, j ≤ k → flN l j ≤ flN l k
  | j, k, hjk => by
    induction k with
    | zero => obtain rfl : j = 0 := by omega
              exact Int.le_refl _
    | succ k ih =>
      rcases Nat.lt_or_ge k j with q | q
      · obtain rfl : j = k + 1 := by omega
        exact Int.le_refl _
      · have := ih q
        cases hx : l[k]? with
        | none => rw [fl_end hx]; exact this
        | some x =>
          have := flI_nonneg (h x (List.mem_of_getElem? hx))
          rw [fl_next hx]; omega
theorem fl_nonneg {l : List Dm} (h : ∀ x ∈ l, x.ok) (k : Nat) : 0 ≤ flN l k := fl_mono h (Nat.zero_le k)
/-- No work is less than its share. -/
theorem fl_work1 {x : Dm} (h : x.ok) {y : Int} (hy : 0 ≤ y) : y * flI x ≤ x.c * ceilD x y * 1152921504606846976 := by
  have ht : 0 < x.t := by have := h.d1; have := h.d2; omega
  have c0 := h.c0
  have f0 := flI_nonneg h
  have e1 : flI x * x.t ≤ x.c * 1152921504606846976 := Int.ediv_mul_le _ (by omega)
  have e2 : y ≤ ceilD x y * x.t := by
    rcases Int.lt_or_le (ceilD x y * x.t) y with q | q
    · have := (ceil_iff (x := x) ht (X := y) (i := ceilD x y)).2 q
      omega
    · exact q
  have n0 := ceil_nonneg (x := x) ht hy
  have m1 := Int.mul_le_mul_of_nonneg_right e2 f0
  have m2 := Int.mul_le_mul_of_nonneg_left e1 n0
  have r1 : ceilD x y * x.t * flI x = ceilD x y * (flI x * x.t) := by rw [Int.mul_assoc, Int.mul_comm x.t]
  have r2 : ceilD x y * (x.c * 1152921504606846976) = x.c * ceilD x y * 1152921504606846976 := by rw [← Int.mul_assoc, Int.mul_comm (ceilD x y) x.c]
  omega
theorem fl_work {l : List Dm} (h : ∀ x ∈ l, x.ok) {y : Int} (hy : 0 ≤ y) : ∀ k, y * flN l k ≤ workN l y k * 1152921504606846976
  | 0 => by show y * 0 ≤ 0 * 1152921504606846976; omega
  | k + 1 => by
    have ih := fl_work h hy k
    cases hx : l[k]? with
    | none => rw [fl_end hx, work_end hx]; exact ih
    | some x =>
      have := fl_work1 (h x (List.mem_of_getElem? hx)) hy
      rw [fl_next hx, work_next hx, Int.mul_add, Int.add_mul]
      omega
/-- Shares above the whole: there is no busy time. -/
theorem fl_over {l : List Dm} (h : ∀ x ∈ l, x.ok) {held y : Int} (hh : 0 ≤ held) (hy : 1 ≤ y) (ho : 1152921504606846976 < flN l l.length) : ¬ DoneAt l held y := by
  intro hd
  unfold DoneAt workA at hd
  have h1 := fl_work h (y := y) (by omega) l.length
  have h2 := Int.mul_le_mul_of_nonneg_left (show 1152921504606846976 + 1 ≤ flN l l.length by omega) (show 0 ≤ y by omega)
  have h3 := Int.mul_le_mul_of_nonneg_right (show workN l y l.length ≤ y by omega) (show 0 ≤ 1152921504606846976 by decide)
  rw [Int.mul_add] at h2
  omega
theorem fl_ct {x : Dm} (h : x.ok) (hf : flI x ≤ 1152921504606846976) : x.c ≤ x.t := by
  have ht : 0 < x.t := by have := h.d1; have := h.d2; omega
  have t2 := h.t2
  rcases Int.lt_or_le x.t x.c with q | q
  · exfalso
    have h1 : (x.t + 1) * 1152921504606846976 ≤ x.c * 1152921504606846976 := Int.mul_le_mul_of_nonneg_right (by omega) (by decide)
    have h2 : 1152921504606846976 + 1 ≤ flI x := by
      refine (Int.le_ediv_iff_mul_le ht).2 ?_
      have : (1152921504606846976 + 1) * x.t = x.t * 1152921504606846976 + x.t := by rw [Int.add_mul, Int.mul_comm, Int.one_mul]
      rw [Int.add_mul] at h1
      omega
    omega
  · exact q

/-- How far work goes at a share of the time. -/
def rchI (work share : Int) : Int := if work = 0 then 0 else if mdB work 1152921504606846976 share = true ∧ mdN work 1152921504606846976 share ≤ 2147483648 then mdN work 1152921504606846976 share else 2147483649
theorem rch_le {work share : Int} (h0 : 0 ≤ work) (h1 : 0 ≤ share) : 0 ≤ rchI work share ∧ rchI work share ≤ 2147483649 := by
  unfold rchI
  split
  · omega
  · split
    · rename_i h
      refine ⟨?_, by omega⟩
      unfold mdN
      split
      · exact Int.ediv_nonneg (Int.mul_nonneg h0 (by decide)) h1
      · omega
    · omega
/-- No busy time is passed. -/
theorem rch_under {work share y : Int} (h0 : 0 ≤ work) (h1 : 0 ≤ share) (hy : 0 ≤ y) (hy2 : y ≤ 2147483648) (h : work * 1152921504606846976 ≤ y * share) : rchI work share ≤ y := by
  unfold rchI
  split
  · exact hy
  · rename_i hw
    have hp : 0 < share := by
      rcases Int.lt_or_le 0 share with q | q
      · exact q
      · obtain rfl : share = 0 := by omega
        rw [Int.mul_zero] at h
        have := Int.mul_le_mul_of_nonneg_right (show 1 ≤ work by omega) (show 0 ≤ 1152921504606846976 by decide)
        omega
    have hq : work * 1152921504606846976 / share ≤ y := by
      have := Int.ediv_le_ediv hp h
      rwa [Int.mul_ediv_cancel _ (by omega)] at this
    have hm : work * 1152921504606846976 / 18446744073709551616 < share := by
      have h3 : y * share ≤ 2147483648 * share := Int.mul_le_mul_of_nonneg_right hy2 h1
      omega
    have hb : mdB work 1152921504606846976 share = true := decide_eq_true hm
    have hn : mdN work 1152921504606846976 share = work * 1152921504606846976 / share := if_pos hm
    rw [if_pos ⟨hb, by rw [hn]; omega⟩, hn]
    exact hq
theorem rch_whole {work x : Int} (h0 : 0 ≤ work) (hx : x ≤ 2147483648) (h : rchI work 1152921504606846976 ≤ x) : work ≤ x := by
  unfold rchI at h
  split at h
  · omega
  · split at h
    · rename_i hw hb
      have hm : work * 1152921504606846976 / 18446744073709551616 < 1152921504606846976 := of_decide_eq_true hb.1
      have hn : mdN work 1152921504606846976 1152921504606846976 = work := by
        unfold mdN
        rw [if_pos hm]
        exact Int.mul_ediv_cancel _ (by decide)
      omega
    · omega

theorem ceil_mono {x : Dm} (ht : 0 < x.t) {X Y : Int} (h : X ≤ Y) : ceilD x X ≤ ceilD x Y := Int.ediv_le_ediv ht (by omega)
/-- Between two steps of a climb: what is behind 'k' was counted. -/
structure ClimbAt (S : List Dm) (held x : Int) (k : Nat) (sum far : Int) : Prop where
  ge : x ≤ far
  le : far ≤ 2147483649
  s0 : 0 ≤ sum
  up : sum ≤ held + (workN S far S.length - workN S far k)
  lo : held + (workN S x S.length - workN S x k) ≤ sum
  pass : ∀ y, x ≤ y → y ≤ 2147483648 → DoneAt S held y → far ≤ y
theorem workN_mono {l : List Dm} (h : ∀ x ∈ l, x.ok) {X Y : Int} (hXY : X ≤ Y) : ∀ {j k : Nat}, j ≤ k → workN l X k - workN l X j ≤ workN l Y k - workN l Y j
  | j, k, hjk => by
    induction k with
    | zero => obtain rfl : j = 0 := by omega
              omega
    | succ k ih =>
      rcases Nat.lt_or_ge k j with q | q
      · obtain rfl : j = k + 1 := by omega
        omega
      · have := ih q
        cases hx : l[k]? with
        | none => rw [work_end hx, work_end hx]; exact this
        | some x =>
          have ho := h x (List.mem_of_getElem? hx)
          have := Int.mul_le_mul_of_nonneg_left (ceil_mono (x := x) (by have := ho.d1; have := ho.d2; omega) hXY) ho.c0
          rw [work_next hx, work_next hx]; omega
theorem pass_step {S : List Dm} (hok : ∀ x ∈ S, x.ok) {held x sum far : Int} {k : Nat} (hx : 1 ≤ x) (hf : x ≤ far) (hk : k ≤ S.length) (hs0 : 0 ≤ sum) (hup : sum ≤ held + (workN S far S.length - workN S far k)) (hW : flN S k ≤ 1152921504606846976)
    (hp : ∀ y, x ≤ y → y ≤ 2147483648 → DoneAt S held y → far ≤ y) {y : Int} (hy : x ≤ y) (hy2 : y ≤ 2147483648) (hd : DoneAt S held y) : rchI sum (1152921504606846976 - flN S k) ≤ y := by
  have hfy := hp y hy hy2 hd
  refine rch_under hs0 (by omega) (by omega) hy2 ?_
  have h1 := workN_mono hok hfy hk
  have h2 := fl_work hok (y := y) (by omega) k
  unfold DoneAt workA at hd
  have h3 : (sum + workN S y k) * 1152921504606846976 ≤ y * 1152921504606846976 := Int.mul_le_mul_of_nonneg_right (by omega) (by decide)
  rw [Int.add_mul] at h3
  rw [Int.mul_sub]
  omega
/-- At the start. -/
theorem ClimbAt.start {S : List Dm} (hok : ∀ x ∈ S, x.ok) {held x : Int} (h0 : 0 ≤ held) (hx : 1 ≤ x) (hx2 : x ≤ 2147483648) (hW : flN S S.length ≤ 1152921504606846976) : ClimbAt S held x S.length held (max x (rchI held (1152921504606846976 - flN S S.length))) := by
  have hr := rch_le h0 (show 0 ≤ 1152921504606846976 - flN S S.length by omega)
  refine ⟨by omega, by omega, h0, by omega, by omega, fun y hy hy2 hd => ?_⟩
  have := pass_step hok (sum := held) hx (Int.le_refl x) (Nat.le_refl _) h0 (by omega) hW (fun y h _ _ => h) hy hy2 hd
  omega
theorem ClimbAt.step {S : List Dm} (hok : ∀ x ∈ S, x.ok) {held x sum far : Int} {k : Nat} (h : ClimbAt S held x (k + 1) sum far) (hx : 1 ≤ x) {z : Dm} (hz : S[k]? = some z) (hW : flN S k ≤ 1152921504606846976) :
    ClimbAt S held x k (sum + z.c * ceilD z far) (max far (rchI (sum + z.c * ceilD z far) (1152921504606846976 - flN S k))) := by
  have hkl : k < S.length := (List.getElem?_eq_some_iff.1 hz).1
  have ho := hok z (List.mem_of_getElem? hz)
  have ht : 0 < z.t := by have := ho.d1; have := ho.d2; omega
  have hge := h.ge
  have c1 := Int.mul_nonneg ho.c0 (ceil_nonneg (x := z) ht (X := far) (by omega))
  have c2 := Int.mul_le_mul_of_nonneg_left (ceil_mono (x := z) ht hge) ho.c0
  have e1 := work_next (X := far) hz
  have e2 := work_next (X := x) hz
  have hs0 := h.s0; have hup := h.up; have hlo := h.lo; have hle := h.le
  have hs' : 0 ≤ sum + z.c * ceilD z far := by omega
  have hup' : sum + z.c * ceilD z far ≤ held + (workN S far S.length - workN S far k) := by omega
  have hr := rch_le hs' (show 0 ≤ 1152921504606846976 - flN S k by omega)
  obtain ⟨r, hrr⟩ : ∃ r, rchI (sum + z.c * ceilD z far) (1152921504606846976 - flN S k) = r := ⟨_, rfl⟩
  have hps : ∀ y, x ≤ y → y ≤ 2147483648 → DoneAt S held y → r ≤ y := fun y hy hy2 hd => by
    rw [← hrr]; exact pass_step hok hx hge (Nat.le_of_lt hkl) hs' hup' hW h.pass hy hy2 hd
  rw [hrr] at hr ⊢
  have hm := workN_mono hok (show far ≤ max far r by omega) (Nat.le_of_lt hkl)
  exact ⟨by omega, by omega, hs', by omega, by omega, fun y hy hy2 hd => by have := h.pass y hy hy2 hd; have := hps y hy hy2 hd; omega⟩
/-- What a climb tells. -/
structure Climbed (l : List Dm) (held x far : Int) : Prop where
  ge : x ≤ far
  le : far ≤ 2147483649
  done : far = x → DoneAt l held x
  pass : ∀ y, x ≤ y → y ≤ 2147483648 → DoneAt l held y → far ≤ y
theorem ClimbAt.out {S : List Dm} {held x sum far : Int} (h : ClimbAt S held x 0 sum far) (hx2 : x ≤ 2147483648) (hr : rchI sum 1152921504606846976 ≤ far) : Climbed S held x far :=
  ⟨h.ge, h.le, fun e => by
    subst e
    have := rch_whole h.s0 hx2 hr
    have hl := h.lo
    unfold DoneAt workA
    have : workN S far 0 = 0 := rfl
    omega, h.pass⟩

theorem work_one (x : Dm) (X : Int) : workA [x] X = x.c * ceilD x X := by
  show (0 : Int) + _ = _
  omega
theorem work_cons (x : Dm) (l : List Dm) (X : Int) : workA (x :: l) X = x.c * ceilD x X + workA l X := by
  rw [← work_one x X]; exact work_two [x] l X
theorem work_perm {l m : List Dm} (h : l.Perm m) (X : Int) : workA l X = workA m X := by
  induction h with
  | nil => rfl
  | cons x _ ih => rw [work_cons, work_cons, ih]
  | swap x y l => rw [work_cons, work_cons, work_cons, work_cons]; omega
  | trans _ _ h1 h2 => rw [h1, h2]
theorem done_perm {l m : List Dm} (h : l.Perm m) {held X : Int} : DoneAt l held X ↔ DoneAt m held X := by
  unfold DoneAt; rw [work_perm h]
theorem Climbed.perm {l m : List Dm} {held x far : Int} (h : Climbed l held x far) (hp : l.Perm m) : Climbed m held x far :=
  ⟨h.ge, h.le, fun e => (done_perm hp).1 (h.done e), fun y hy hy2 hd => h.pass y hy hy2 ((done_perm hp).2 hd)⟩
end Go.Proofs.Ytpmllljlhopgbaa

/-
  Rows of numbers without sign.
-/
namespace Go.Proofs.Ytpmllljlhopgbaa
open Go.RowKit Go.Maps

/-- A row of numbers that can be read. -/
def UInts (w : World) (a : Option Addr) (l : List Int) : Prop :=
  l = [] ∨ ∃ g o, a = some ⟨g, o, none⟩ ∧ ∀ (j : Nat) (u : Int), l[j]? = some u → w.cell? ⟨g, o + j, none⟩ = some (.int .u64 u)
theorem UInts.nil {w : World} {a : Option Addr} : UInts w a [] := .inl rfl
theorem UInts.at_ {w : World} {a : Option Addr} {l : List Int} (h : UInts w a l) {k : Nat} {x : Int} (hx : l[k]? = some x) : ∃ g o, a = some ⟨g, o, none⟩ ∧ w.cell? ⟨g, o + k, none⟩ = some (.int .u64 x) := by
  rcases h with rfl | ⟨g, o, rfl, hc⟩
  · simp at hx
  · exact ⟨g, o, rfl, hc _ _ hx⟩
theorem UInts.below {w w' : World} {a : Option Addr} {l : List Int} (h : UInts w a l) (hb : Below w.heap.size w w') : UInts w' a l := by
  rcases h with rfl | ⟨g, o, rfl, hc⟩
  · exact .inl rfl
  · exact .inr ⟨g, o, rfl, fun j u hj => kept_cell hb (hc j u hj)⟩
theorem UInts.take {w : World} {a : Option Addr} {l : List Int} (h : UInts w a l) (k : Nat) : UInts w a (l.take k) := by
  rcases h with rfl | ⟨g, o, rfl, hc⟩
  · left; simp
  · refine .inr ⟨g, o, rfl, fun j u hj => ?_⟩
    rw [List.getElem?_take] at hj
    split at hj
    · exact hc j u hj
    · cases hj
theorem UInts.nothing {w : World} {l : List Int} (h : UInts w none l) : l = [] := by
  rcases h with rfl | ⟨g, o, e, _⟩
  · rfl
  · cases e
theorem UInts.of_block {w : World} {g : Nat} {l : List Int} {cs : Array Value} {T : TypeId} {fr : Nat × Nat} (h : w.heap[g]? = some (.cells cs T fr)) (hl : ∀ (j : Nat) (u : Int), l[j]? = some u → cs[j]? = some (.int .u64 u)) : UInts w (some ⟨g, 0, none⟩) l :=
  .inr ⟨g, 0, rfl, fun j u hj => by rw [Nat.zero_add, blk_cell h]; exact hl j u hj⟩
def vu (l : List Int) : List Value := l.map (Value.int .u64)
theorem vu_one (l : List Int) : ∀ u ∈ vu l, u.oneCell' = true := by
  intro u hu
  obtain ⟨_, _, rfl⟩ := List.mem_map.1 hu
  rfl
theorem vu_at {l : List Int} {j : Nat} {u : Int} (h : l[j]? = some u) : (vu l)[j]? = some (.int .u64 u) := by simp [vu, h]
def OwnU (w : World) (e : TypeId) (B : Nat) (v : Value) (l : List Int) : Prop := w.ownsRow B e 1 v l.length (vu l)
theorem OwnU.nil (w : World) (e : TypeId) (B : Nat) : OwnU w e B (.slice none 0 0) [] := World.ownsRow_nil _ _ _ _
theorem OwnU.made (w : World) (e : TypeId) : OwnU (w.alloc (.cells #[] e)) e w.heap.size (.slice (some ⟨w.heap.size, 0, none⟩) 0 0) [] :=
  World.ownsRow_made (w := w) #[] 0 (Nat.le_refl _) (by decide) rfl
theorem OwnU.slice {w : World} {e : TypeId} {B : Nat} {v : Value} {l : List Int} (h : OwnU w e B v l) : ∃ a cap, v = .slice a l.length cap ∧ UInts w a l ∧ l.length ≤ cap ∧ (cap : Int) ≤ 9223372036854775807 := by
  rcases h.2 with ⟨rfl, h0⟩ | ⟨g, cap, cur, rfl, _, h3, h1, h2, h4, h5⟩
  · exact ⟨none, 0, by rw [h0], .inl (List.length_eq_zero_iff.1 h0), by omega, by omega⟩
  · refine ⟨_, cap, rfl, .inr ⟨g, 0, rfl, fun j u hj => ?_⟩, h1, by unfold maxLen at h2; omega⟩
    rw [Nat.zero_add, blk_cell h3]
    have := vu_at hj
    rw [← h5, List.getElem?_take] at this
    split at this
    · simpa using this
    · cases this
theorem OwnU.new {w : World} {e : TypeId} {B : Nat} {v : Value} {l : List Int} (h : OwnU w e B v l) {k : Nat} (hk : v.ownBlock = some k) : B ≤ k ∧ k < w.heap.size := World.ownsRow.lt h k hk
theorem OwnU.below {w w' : World} {e : TypeId} {B : Nat} {v : Value} {l : List Int} (h : OwnU w e B v l) (hb : Below w.heap.size w w') : OwnU w' e B v l := by
  rcases h with ⟨h0, h | ⟨g, cap, cur, rfl, hB, h3, r⟩⟩
  · exact ⟨h0, .inl h⟩
  · exact ⟨h0, .inr ⟨g, cap, cur, rfl, hB, kept_obj hb h3, r⟩⟩
theorem OwnU.low {w : World} {e : TypeId} {B B' : Nat} {v : Value} {l : List Int} (h : OwnU w e B v l) (hB : B' ≤ B) : OwnU w e B' v l := by
  rcases h with ⟨h0, h | ⟨g, cap, cur, rfl, hb, r⟩⟩
  · exact ⟨h0, .inl h⟩
  · exact ⟨h0, .inr ⟨g, cap, cur, rfl, by omega, r⟩⟩

/-- A slice type of numbers. -/
structure IsNumU (t e : TypeId) : Prop where
  und : Try.prog.underlying t = some (.slice e)
  info : ∃ i, Try.prog.info? e = some i ∧ i.zero = some (.int .u64 0) ∧ i.size = 1 ∧ i.bytes = 8
theorem numU_of {t e : TypeId} (h : Try.prog.underlying t = some (.slice e)) (h2 : (Try.prog.info? e).map (fun i => (i.zero, i.size, i.bytes)) = some (some (.int .u64 0), 1, 8)) : IsNumU t e := by
  obtain ⟨i, h1, h2⟩ := Option.map_eq_some_iff.1 h2
  simp only [Prod.mk.injEq] at h2
  exact ⟨h, i, h1, h2.1, h2.2.1, h2.2.2⟩
theorem append_uints {w : World} {t e : TypeId} (ht : IsNumU t e) {B m c : Nat} {v : Value} {q l : List Int} {ad : Option Addr} (h : OwnU w e B v q) (hB : B ≤ w.heap.size) (hv : UInts w ad l) (hl : l.length = m) (hs : (q.length + m : Int) ≤ 17592186044416) (hn : ad = none → m = 0) (ty : TypeId) :
    ∃ v' w', (Builtin.append_ #[t, t] ty #[v, .slice ad m c]).run Try.prog w = .ok v' w' ∧ OwnU w' e B v' (q ++ l) ∧ w.grownBy w' v.ownBlock ∧ ∀ k, v'.ownBlock = some k → v.ownBlock = some k ∨ w.heap.size ≤ k := by
  obtain ⟨i0, hi, hz0, hz1, hz2⟩ := ht.info
  cases ad with
  | none =>
    obtain rfl := hn rfl
    obtain rfl : l = [] := List.length_eq_zero_iff.1 hl
    refine ⟨v, w, ?_, by rw [List.append_nil]; exact h, ⟨rfl, rfl, rfl, Nat.le_refl _, fun _ _ _ => rfl⟩, fun k hk => .inl hk⟩
    rcases h.2 with ⟨rfl, h0⟩ | ⟨g, cap, cur, rfl, _, h3, h1, h2, h4, h5⟩
    · have hs := Src.ofNil (w := w) (size := i0.size) ht.und c
      simp [Builtin.append_, run_underlying ht.und, sizeOf, typeInfo, hi, hs.len, hs.cells]
    · have := run_append_room_src (P := Try.prog) (w := w) t t ty e i0 ht.und hi g 0 q.length cap (.slice none 0 c) 0 [] (Src.ofNil w ht.und c) (by omega) (fun j hj => absurd hj (Nat.not_lt_zero _)) (fun j hj => absurd hj (Nat.not_lt_zero _))
      simpa [World.setCells] using this
  | some x =>
    have hnews : ∀ j u, (vu l)[j]? = some u → w.cell? (x.add j) = some u := by
      intro j u hj
      rcases hv with rfl | ⟨g, o, e, hc⟩
      · simp [vu] at hj
      · cases e
        simp only [vu, List.getElem?_map, Option.map_eq_some_iff] at hj
        obtain ⟨y, hy, rfl⟩ := hj
        rw [addr_at]; exact hc j y hy
    obtain ⟨v', w', h1, h2, h3, _, h5⟩ := run_append_own_at (P := Try.prog) w B t ty e i0 _ 1 8 ht.und hi hz0 hz1 hz2 rfl (by decide) v q.length (vu q) h x m c (vu l) (by simp [vu, hl]) hnews (vu_one l) (by unfold maxLen; omega) (by omega) hB
    refine ⟨v', w', h1, ?_, h3, fun k hk => ?_⟩
    · unfold OwnU
      rw [List.length_append, hl]
      unfold vu at h2 ⊢
      rw [List.map_append]
      exact h2
    · rcases h5 with z | z
      · left; rw [← z]; exact hk
      · right; rw [z] at hk; cases hk; exact Nat.le_refl _

theorem step_uints {w : World} {t e : TypeId} (ht : IsNumU t e) {ops : Array Oper} {o : Oper} {a : Act} {K : Act → World → Prop} {Q : Exit → Act → World → Prop} {E : Prop} (hgd : o.guard = none) (s x : Operand)
    (ho : o.op = .call { callee := .builtin .append, args := #[s, x], argTypes := #[t, t] }) {B m c : Nat} {v : Value} {q l : List Int} {ad : Option Addr} (hs : a.eval s = v) (hx : a.eval x = .slice ad m c)
    (hown : OwnU w e B v q) (hB : B ≤ w.heap.size) (hv : UInts w ad l) (hl : l.length = m) (hsm : (q.length + m : Int) ≤ 17592186044416) (hn : ad = none → m = 0) (N : Nat) (hN : q.length + m = N)
    (h : ∀ a' cp' w', OwnU w' e B (.slice a' N cp') (q ++ l) → w.grownBy w' v.ownBlock → (∀ k, (Value.slice a' N cp').ownBlock = some k → v.ownBlock = some k ∨ w.heap.size ≤ k) → K (a.put o.dst (.slice a' N cp')) w') :
    if Region.wanted o (yielded ops a.tmps) = true then Oper.wp Try.prog o a w K Q else E := by
  have hw : Region.wanted o (yielded ops a.tmps) = true := by simp [Region.wanted, hgd]
  rw [if_pos hw]
  obtain ⟨v', w', hr, h2, h3, h4⟩ := append_uints ht (c := c) hown hB hv hl hsm hn o.type
  obtain ⟨a', cp', hv', _⟩ := h2.slice
  rw [List.length_append, hl, hN] at hv'
  subst hv'
  unfold Oper.wp execOp
  simp only [ho, resolve, invoke, builtin, Sem.run_bind, Sem.run_pure, Result.andThen_ok, List.map_toArray, List.map_cons, List.map_nil, hs, hx, hr]
  exact h a' cp' w' h2 h3 h4
theorem wp_uints {t e : TypeId} (ht : IsNumU t e) {ops : Array Oper} {rest : List Oper} {o : Oper} {a : Act} {Q : Exit → Act → World → Prop} {w : World} (hgd : o.guard = none) (s x : Operand)
    (ho : o.op = .call { callee := .builtin .append, args := #[s, x], argTypes := #[t, t] }) {B m c : Nat} {v : Value} {q l : List Int} {ad : Option Addr} (hs : a.eval s = v) (hx : a.eval x = .slice ad m c)
    (hown : OwnU w e B v q) (hB : B ≤ w.heap.size) (hv : UInts w ad l) (hl : l.length = m) (hsm : (q.length + m : Int) ≤ 17592186044416) (hn : ad = none → m = 0) (N : Nat) (hN : q.length + m = N)
    (h : ∀ a' cp' w', OwnU w' e B (.slice a' N cp') (q ++ l) → w.grownBy w' v.ownBlock → (∀ k, (Value.slice a' N cp').ownBlock = some k → v.ownBlock = some k ∨ w.heap.size ≤ k) → wpList Try.prog ops Q rest (a.put o.dst (.slice a' N cp')) w') : wpList Try.prog ops Q (o :: rest) a w :=
  wpList_step fun _ hK => step_uints ht hgd s x ho hs hx hown hB hv hl hsm hn N hN (fun a' cp' w' o' g' l' => hK _ _ (h a' cp' w' o' g' l'))
theorem uints_new (w : World) (x : Int) (T : TypeId) : UInts (w.alloc (.cells #[.int .u64 x] T)) (some ⟨w.heap.size, 0, none⟩) [x] :=
  .inr ⟨_, 0, rfl, fun j u hj => by
    match j, hj with
    | 0, hj => simp at hj; subst hj; rw [World.cell?_alloc_new]; rfl
    | j + 1, hj => simp at hj⟩

theorem numU : IsNumU 57 43 := numU_of Try.underlying57 (by kernel_rfl)
end Go.Proofs.Ytpmllljlhopgbaa
