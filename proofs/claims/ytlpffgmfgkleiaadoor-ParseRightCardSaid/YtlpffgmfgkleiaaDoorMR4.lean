/- Texts of this claim, put together: KChk, YDef, YMem, YAs, LSeq, LPcs, Shelf, LShelf2, LPair. -/
import Derived.Test.YtlpffgmfgkleiaaDoorProg
import Derived.Test.YtlpffgmfgkleiaaDoorMR3
import Derived.Recover
import Derived.Tactics2
import Derived.RangeFuncNested
import Derived.RangeFuncBound
import Derived.RangeFuncCalls
import Derived.RangeFuncLeaves
import Derived.RangeFuncBox
import Derived.Shelf.Strings.Builder1
import Derived.Shelf.Strings.Builder2
import Derived.Shelf.Strings.OnBuilder
import Derived.Shelf.Strings.BuilderF
import Derived.Shelf.Strings.BuilderK
import Derived.Shelf.Strconv.Itoa0
import Derived.Shelf.Strconv.Itoa1
import Derived.Shelf.LaysM
import Derived.Shelf.Strconv.Itoa2
import Derived.Shelf.Strconv.Itoa3
import Derived.Shelf.Strconv.Itoa4
import Derived.Shelf.Strings.Search1
import Derived.Shelf.Strings.Search2
import Derived.Shelf.Strings.Search3
import Derived.Shelf.Strings.Cut
import Derived.Shelf.Strings.Shaped
import Derived.Shelf.Unicode.DecodeSlow

/-
  What is wrong with a system by plain numbers: nothing; and with what becomes of it.
-/
namespace Go.Proofs.YtlpffgmfgkleiaaDoor
open Go.RowKit Go.Maps

theorem good_right {k : Nat} {s : Int} {x : TV} (h : Good k s x) (hk : k < 6) : rightOf x s = 0 := by
  have h1 := h.id; have h2 := h.c1; have h3 := h.cd; have h4 := h.dt; have h5 := h.t24; have h6 := h.p1; have h7 := h.p99
  have hl : x.ch.length ≤ 24 := by
    rcases h.ch with e | e
    · rw [e]; simp
    · have := fill_len _ _ (by omega) e; omega
  have a1 : ¬ idBad x := by unfold idBad; omega
  have a2 : ¬ cdBad x := by unfold cdBad; omega
  have a3 : ¬ chBad x := by
    unfold chBad
    rintro (q | ⟨q1, q2⟩)
    · omega
    · rcases h.ch with e | e
      · exact q1 e
      · rw [e] at q2; cases q2
  have a4 : ¬ usBad x s := by
    unfold usBad
    rintro (q | q)
    · have := h.us5; omega
    · obtain ⟨u, hu, hb⟩ := List.any_eq_true.1 q
      have := h.us u hu
      unfold badB at hb
      simp only [decide_eq_true_eq] at hb
      omega
  unfold rightOf
  rw [if_neg a1, if_neg a2, if_neg a3, if_neg a4]

/-- The tasks ahead pass. -/
theorem first_pass {s : Int} (M : List TV) : ∀ (L : List TV) (k : Nat) (seen : List Int), k + L.length ≤ 6 → (∀ (j : Nat) (x : TV), L[j]? = some x → Good ((k + j : Nat) : Int) s x) → (∀ q ∈ seen, ∃ j : Nat, j < k ∧ (q - j) % 10 = 0) →
    firstOf s k seen (L ++ M) = firstOf s ((k + L.length : Nat) : Int) ((L.map TV.p).reverse ++ seen) M
  | [], k, seen, _, _, _ => rfl
  | x :: L, k, seen, hl, hg, hs => by
    have hx := hg 0 x rfl
    simp only [Nat.add_zero] at hx
    simp only [List.length_cons] at hl
    have hr := good_right hx (by omega)
    have hid : ¬ x.id ≤ (k : Int) := by rw [hx.id]; omega
    have hp : ¬ x.p ∈ seen := by
      intro q
      obtain ⟨j, hj, h⟩ := hs _ q
      have := hx.pi
      omega
    have hs' : ∀ q ∈ x.p :: seen, ∃ j : Nat, j < k + 1 ∧ (q - j) % 10 = 0 := by
      intro q hq
      rcases List.mem_cons.1 hq with rfl | hq
      · exact ⟨k, by omega, hx.pi⟩
      · obtain ⟨j, hj, h⟩ := hs _ hq
        exact ⟨j, by omega, h⟩
    have h2 := first_pass M L (k + 1) (x.p :: seen) (by omega) (fun j y hy => by
      have := hg (j + 1) y (by simpa using hy)
      rwa [show k + (j + 1) = k + 1 + j by omega] at this) hs'
    rw [List.cons_append, firstOf, if_neg (fun z => z hr), if_neg hid, if_neg hp, hx.id, show ((k : Int) + 1) = ((k + 1 : Nat) : Int) by omega, h2]
    simp only [List.length_cons, List.map_cons, List.reverse_cons, List.append_assoc, List.singleton_append]
    rw [show k + 1 + L.length = k + (L.length + 1) by omega]
theorem made_pass {s r : Int} {L : List TV} (h : Made s r L) (M : List TV) : firstOf s 0 [] (L ++ M) = firstOf s (L.length : Int) ((L.map TV.p).reverse ++ []) M := by
  have := first_pass (s := s) M L 0 [] (by have := h.six; omega) (fun j x hx => by simpa using h.good j x hx) (fun q hq => by cases hq)
  simpa using this
theorem made_ok {s r : Int} {L : List TV} (h : Made s r L) : ¬ sysBad s r L := by
  have h1 := h.s1; have h2 := h.s8; have h3 := h.r0; have h4 := h.r3; have h5 := h.pos
  unfold sysBad; omega
theorem check_made {s r : Int} {L : List TV} (h : Made s r L) : checkOf s r L = 0 := by
  unfold checkOf
  rw [if_neg (made_ok h), if_neg (by have := h.six; omega)]
  have := made_pass h []
  rw [List.append_nil] at this
  rw [this, firstOf]
theorem check_more {s r : Int} {L : List TV} (h : Made s r L) (y : TV) (want : Int) (hy : firstOf s (L.length : Int) ((L.map TV.p).reverse ++ []) [y] = want) : checkOf s r (L ++ [y]) = want := by
  unfold checkOf
  rw [if_neg, if_neg (by rw [List.length_append]; have := h.six; simp; omega), made_pass h, hy]
  have := made_ok h
  unfold sysBad at this ⊢
  rw [List.length_append]; simp; omega
theorem check_twice {s r : Int} {L : List TV} (h : Made s r L) {y : TV} {k : Nat} (hy : L[k]? = some y) : checkOf s r (L ++ [y]) = 10 := by
  refine check_more h y 10 ?_
  have hkl : k < L.length := (List.getElem?_eq_some_iff.1 hy).1
  have hg := h.good k y hy
  rw [firstOf, if_neg (fun z => z (good_right hg (by have := h.six; omega))), if_pos (by rw [hg.id]; omega)]
theorem check_prio {s r : Int} {L : List TV} (h : Made s r L) {y : TV} {k : Nat} (hy : L[k]? = some y) : checkOf s r (L ++ [{ y with id := 90 }]) = 14 := by
  refine check_more h _ 14 ?_
  have hkl : k < L.length := (List.getElem?_eq_some_iff.1 hy).1
  have hg := h.good k y hy
  have hr := good_right hg (by have := h.six; omega)
  have hr2 : rightOf { y with id := 90 } s = 0 := by
    unfold rightOf at hr ⊢
    have b1 : ¬ idBad y := by unfold idBad; have := hg.id; have := hg.p1; have := hg.p99; have := h.six; omega
    have b2 : ¬ idBad { y with id := 90 } := by unfold idBad; have := hg.p1; have := hg.p99; have := h.six; simp only; omega
    rw [if_neg b1] at hr
    rw [if_neg b2]
    exact hr
  rw [firstOf, if_neg (fun z => z hr2), if_neg (by have := h.six; simp only; omega), if_pos]
  rw [List.append_nil, List.mem_reverse, List.mem_map]
  exact ⟨y, List.mem_of_getElem? hy, rfl⟩
theorem check_none (s r : Int) : checkOf s r [] = 1 := by
  unfold checkOf; rw [if_pos]; unfold sysBad; right; rfl
theorem check_late {s r : Int} {L : List TV} (h : Made s r L) {y : TV} {k : Nat} (hy : L[k]? = some y) : checkOf s r (L.set k { y with d := y.t + 1 }) = 10 := by
  have hkl : k < L.length := (List.getElem?_eq_some_iff.1 hy).1
  have hg := h.good k y hy
  have h6 := h.six
  unfold checkOf
  rw [if_neg, if_neg (by rw [List.length_set]; omega)]
  · have e : L.set k { y with d := y.t + 1 } = L.take k ++ ({ y with d := y.t + 1 } :: L.drop (k + 1)) := by
      rw [List.set_eq_take_append_cons_drop, if_pos hkl]
    rw [e]
    have := first_pass (s := s) ({ y with d := y.t + 1 } :: L.drop (k + 1)) (L.take k) 0 [] (by rw [List.length_take]; omega) (fun j x hx => by
      rw [List.getElem?_take] at hx
      split at hx
      · simpa using h.good j x hx
      · cases hx) (fun q hq => by cases hq)
    simp only [Int.ofNat_zero, Int.natCast_zero] at this
    rw [this, firstOf]
    have hr : rightOf { y with d := y.t + 1 } s = 10 := by
      unfold rightOf
      have b1 : ¬ idBad { y with d := y.t + 1 } := by unfold idBad; have := hg.id; have := hg.p1; have := hg.p99; simp only; omega
      have b2 : cdBad { y with d := y.t + 1 } := by unfold cdBad; simp only; omega
      rw [if_neg b1, if_pos b2]
    rw [hr]; rfl
  · have := made_ok h
    unfold sysBad at this ⊢
    rw [List.length_set]; exact this
theorem made_less {s r : Int} {L : List TV} (h : Made s r L) (hl : 1 < L.length) : Made s r (L.take (L.length - 1)) :=
  ⟨h.s1, h.s8, h.r0, h.r3, by rw [List.length_take]; omega, by have := h.six; rw [List.length_take]; omega, fun k x hx => by
    rw [List.getElem?_take] at hx
    split at hx
    · exact h.good k x hx
    · cases hx⟩
theorem late_not {s r : Int} {L : List TV} (h : Made s r L) {y : TV} {k : Nat} (hy : L[k]? = some y) : ¬ (L.set k { y with d := y.t + 1 }).map TV.tk = L.map TV.tk := by
  have hkl : k < L.length := (List.getElem?_eq_some_iff.1 hy).1
  refine row_not (k := k) (x := { y with d := y.t + 1 }) (y := y) (by simp [hkl]) hy ?_
  intro z
  have := ((tk_eq _ _).1 z).2.2.1
  have h2 := (h.good k y hy).dt
  have h3 : y.t + 1 = y.d := this
  omega
theorem made_wf {s r : Int} {L : List TV} (h : Made s r L) : ∀ x ∈ L, I64 x.p ∧ I64 x.id := by
  intro x hx
  obtain ⟨k, hk⟩ := List.mem_iff_getElem?.1 hx
  have hg := h.good k x hk
  have hkl : k < L.length := (List.getElem?_eq_some_iff.1 hk).1
  have := h.six; have := hg.id; have := hg.p1; have := hg.p99
  unfold I64
  omega
end Go.Proofs.YtlpffgmfgkleiaaDoor

/-
  What a row of words, and a text, say: in plain words.
-/
namespace Go.Proofs.YtlpffgmfgkleiaaDoor
open Go.RowKit Go.Maps

/-! ### a row of words -/
/-- The word at a place. -/
def wordAt (W : List WV) (i : Nat) : Option ByteArray := (W[i]?).map WV.tx
def endOf (x : WV) : Int := wrap64 (x.at_ + (x.tx.size : Int))
/-- Where the word ahead of a place ends. -/
def endAt (W : List WV) : Nat → Int
  | 0 => 0
  | k + 1 => match W[k]? with
    | some x => endOf x
    | none => 0
/-- Where a place is wrong. -/
def placeAt (W : List WV) (i : Nat) : Int := match W[i]? with
  | some x => x.at_
  | none => endAt W W.length
theorem wordAt_some {W : List WV} {i : Nat} {x : WV} (h : W[i]? = some x) : wordAt W i = some x.tx := by unfold wordAt; rw [h]; rfl
theorem wordAt_none {W : List WV} {i : Nat} (h : W.length ≤ i) : wordAt W i = none := by unfold wordAt; rw [List.getElem?_eq_none h]; rfl
theorem placeAt_some {W : List WV} {i : Nat} {x : WV} (h : W[i]? = some x) : placeAt W i = x.at_ := by unfold placeAt; rw [h]
theorem placeAt_none {W : List WV} {i : Nat} (h : W.length ≤ i) : placeAt W i = endAt W W.length := by unfold placeAt; rw [List.getElem?_eq_none h]
theorem endAt_succ {W : List WV} {i : Nat} {x : WV} (h : W[i]? = some x) : endAt W (i + 1) = endOf x := by rw [endAt, h]

/-! ### names and what stands behind them -/
def eqFrom (s : ByteArray) : Nat → Nat → Option Nat
  | 0, _ => none
  | k + 1, i => if byteAt s i = 61 then some i else eqFrom s k (i + 1)
/-- What stands ahead of the first '=', and behind it. -/
def pairOf (s : ByteArray) : Option (ByteArray × ByteArray) := (eqFrom s s.size 0).map fun i => (s.extract 0 i, s.extract (i + 1) s.size)
theorem eqFrom_none (s : ByteArray) : ∀ (k i : Nat), (∀ j, i ≤ j → j < i + k → byteAt s j ≠ 61) → eqFrom s k i = none
  | 0, _, _ => rfl
  | k + 1, i, h => by
    rw [eqFrom, if_neg (h i (Nat.le_refl _) (by omega))]
    exact eqFrom_none s k (i + 1) (fun j h1 h2 => h j (by omega) (by omega))
theorem eqFrom_some (s : ByteArray) {p : Nat} (hp : byteAt s p = 61) : ∀ (k i : Nat), i ≤ p → p < i + k → (∀ j, i ≤ j → j < p → byteAt s j ≠ 61) → eqFrom s k i = some p
  | 0, i, h1, h2, _ => by omega
  | k + 1, i, h1, h2, h => by
    by_cases e : i = p
    · subst e; rw [eqFrom, if_pos hp]
    · rw [eqFrom, if_neg (h i (Nat.le_refl _) (by omega))]
      exact eqFrom_some s hp k (i + 1) (by omega) (by omega) (fun j q1 q2 => h j (by omega) q2)
theorem pairOf_is {s x y : ByteArray} {b : Bool} (h : PairIs s x y b) : (b = false ∧ x = ⟨#[]⟩ ∧ y = ⟨#[]⟩ ∧ pairOf s = none) ∨ (b = true ∧ pairOf s = some (x, y)) := by
  rcases h with ⟨hno, rfl, rfl, rfl⟩ | ⟨i, ⟨h1, h2, h3⟩, rfl, rfl, rfl⟩
  · refine .inl ⟨rfl, rfl, rfl, ?_⟩
    unfold pairOf
    rw [eqFrom_none s s.size 0 (fun j _ q => hno j (by omega))]
    rfl
  · refine .inr ⟨rfl, ?_⟩
    unfold pairOf
    rw [eqFrom_some s h2 s.size 0 (Nat.zero_le _) (by omega) (fun j _ q => h3 j q)]
    rfl
/-- What stands behind that name. -/
def namedV (s name : ByteArray) : Option ByteArray := match pairOf s with
  | some (x, y) => if x = name then some y else none
  | none => none
theorem namedV_size {s name v : ByteArray} (h : namedV s name = some v) : v.size ≤ s.size := by
  unfold namedV at h
  split at h
  · rename_i x y he
    split at h
    · cases h
      unfold pairOf at he
      cases hq : eqFrom s s.size 0 with
      | none => rw [hq] at he; cases he
      | some i =>
        rw [hq] at he
        simp only [Option.map_some, Option.some.injEq, Prod.mk.injEq] at he
        rw [← he.2, ByteArray.size_extract]; omega
    · cases h
  · cases h
theorem wordAt_size {W : List WV} {N : Nat} (h : ∀ x ∈ W, x.tx.size ≤ N) {i : Nat} {s : ByteArray} (hs : wordAt W i = some s) : s.size ≤ N := by
  unfold wordAt at hs
  obtain ⟨x, hx, rfl⟩ := Option.map_eq_some_iff.1 hs
  exact h x (List.mem_of_getElem? hx)
/-- What stands behind a name, at a place. -/
def valAt (W : List WV) (i : Nat) (name : ByteArray) : Option ByteArray := (wordAt W i).bind fun s => namedV s name
def numAt (W : List WV) (i : Nat) (name : ByteArray) (most : Int) : Option Nat := (valAt W i name).bind fun v => numOf v most
def numsAt (W : List WV) (i : Nat) (name : ByteArray) (most : Int) : Option (List Int) := (valAt W i name).bind fun v => numsOf v most
theorem numOf_le {s : ByteArray} {most : Int} {n : Nat} (h : numOf s most = some n) : (n : Int) ≤ most := by
  unfold numOf at h
  split at h
  · cases h
  · split at h
    · cases h
    · split at h
      · cases h
      · cases h; omega
theorem numOf_small {s : ByteArray} {most : Int} {n : Nat} (h : numOf s most = some n) : (n : Int) ≤ 9223372036854775807 := by
  unfold numOf at h
  split at h
  · cases h
  · split at h
    · cases h
    · rename_i m hm
      split at h
      · cases h
      · have hq := nrun_small s s.size m hm
        simp only [Option.some.injEq] at h
        omega

/-! ### a task's words -/
abbrev bTask : ByteArray := ⟨#[116, 97, 115, 107]⟩
abbrev bCache : ByteArray := ⟨#[99, 97, 99, 104, 101]⟩
abbrev bC : ByteArray := ⟨#[99]⟩
abbrev bD : ByteArray := ⟨#[100]⟩
abbrev bT : ByteArray := ⟨#[116]⟩
abbrev bP : ByteArray := ⟨#[112]⟩
abbrev bChunks : ByteArray := ⟨#[99, 104, 117, 110, 107, 115]⟩
abbrev bUse : ByteArray := ⟨#[117, 115, 101]⟩
def nameK : Nat → ByteArray
  | 0 => bC
  | 1 => bD
  | 2 => bT
  | _ => bP
def mostK (k : Nat) : Int := if k = 3 then 99 else 1073741824
def numK (W : List WV) (k : Nat) : Option Nat := numAt W (2 + k) (nameK k) (mostK k)
def idOf (W : List WV) : Option Nat := (wordAt W 1).bind fun s => numOf s 99
/-- The chunks and the used sets, with the place behind them. -/
def chAt (W : List WV) : Option (List Int) := numsAt W 6 bChunks 1073741824
def plus1 (W : List WV) : Nat := if (chAt W).isSome then 7 else 6
def usAt (W : List WV) : Option (List Int) := numsAt W (plus1 W) bUse 255
def plus2 (W : List WV) : Nat := if (usAt W).isSome then plus1 W + 1 else plus1 W
/-- The task that a row says, or the place at which it is wrong. -/
def lineOf (W : List WV) : Except Int Tk :=
  if wordAt W 0 ≠ some bTask then .error (placeAt W 0) else
  match idOf W with
  | none => .error (placeAt W 1)
  | some id =>
    match numK W 0 with
    | none => .error (placeAt W 2)
    | some c =>
      match numK W 1 with
      | none => .error (placeAt W 3)
      | some d =>
        match numK W 2 with
        | none => .error (placeAt W 4)
        | some t =>
          match numK W 3 with
          | none => .error (placeAt W 5)
          | some p =>
            if plus2 W < W.length then .error (placeAt W (plus2 W)) else
            .ok ⟨id, c, d, t, p, (chAt W).getD [], (usAt W).getD []⟩
theorem line_first {W : List WV} (h : wordAt W 0 ≠ some bTask) : lineOf W = .error (placeAt W 0) := by unfold lineOf; rw [if_pos h]
theorem line_id {W : List WV} (h : wordAt W 0 = some bTask) (h1 : idOf W = none) : lineOf W = .error (placeAt W 1) := by unfold lineOf; rw [if_neg (fun q => q h), h1]
theorem line_bad {W : List WV} {k : Nat} (h : wordAt W 0 = some bTask) {id : Nat} (h1 : idOf W = some id) (hk : k < 4) (hs : ∀ j, j < k → ∃ n, numK W j = some n) (hn : numK W k = none) : lineOf W = .error (placeAt W (2 + k)) := by
  unfold lineOf
  rw [if_neg (fun q => q h), h1]
  simp only []
  match k, hk with
  | 0, _ => rw [hn]
  | 1, _ =>
    obtain ⟨n0, e0⟩ := hs 0 (by omega)
    rw [e0, hn]
  | 2, _ =>
    obtain ⟨n0, e0⟩ := hs 0 (by omega)
    obtain ⟨n1, e1⟩ := hs 1 (by omega)
    rw [e0, e1, hn]
  | 3, _ =>
    obtain ⟨n0, e0⟩ := hs 0 (by omega)
    obtain ⟨n1, e1⟩ := hs 1 (by omega)
    obtain ⟨n2, e2⟩ := hs 2 (by omega)
    rw [e0, e1, e2, hn]
theorem line_over {W : List WV} (h : wordAt W 0 = some bTask) {id c d t p : Nat} (h1 : idOf W = some id) (hc : numK W 0 = some c) (hd : numK W 1 = some d) (ht : numK W 2 = some t) (hp : numK W 3 = some p) (ho : plus2 W < W.length) : lineOf W = .error (placeAt W (plus2 W)) := by
  unfold lineOf
  rw [if_neg (fun q => q h), h1, hc, hd, ht, hp]
  simp only []
  rw [if_pos ho]
theorem line_ok {W : List WV} (h : wordAt W 0 = some bTask) {id c d t p : Nat} (h1 : idOf W = some id) (hc : numK W 0 = some c) (hd : numK W 1 = some d) (ht : numK W 2 = some t) (hp : numK W 3 = some p) (ho : ¬ plus2 W < W.length) : lineOf W = .ok ⟨id, c, d, t, p, (chAt W).getD [], (usAt W).getD []⟩ := by
  unfold lineOf
  rw [if_neg (fun q => q h), h1, hc, hd, ht, hp]
  simp only []
  rw [if_neg ho]
theorem numAt_lt {W : List WV} {i : Nat} {name : ByteArray} {most : Int} {n : Nat} (h : numAt W i name most = some n) : i < W.length := by
  rcases Nat.lt_or_ge i W.length with q | q
  · exact q
  · unfold numAt valAt at h; rw [wordAt_none q] at h; cases h
theorem numsAt_lt {W : List WV} {i : Nat} {name : ByteArray} {most : Int} {n : List Int} (h : numsAt W i name most = some n) : i < W.length := by
  rcases Nat.lt_or_ge i W.length with q | q
  · exact q
  · unfold numsAt valAt at h; rw [wordAt_none q] at h; cases h
theorem plus1_le {W : List WV} (h : 6 ≤ W.length) : plus1 W ≤ W.length := by
  unfold plus1
  split
  · rename_i e
    obtain ⟨l, e⟩ := Option.isSome_iff_exists.1 e
    exact numsAt_lt e
  · exact h
theorem plus2_le {W : List WV} (h : 6 ≤ W.length) : plus2 W ≤ W.length := by
  unfold plus2
  split
  · rename_i e
    obtain ⟨l, e⟩ := Option.isSome_iff_exists.1 e
    exact numsAt_lt e
  · exact plus1_le h

/-! ### a cache's words -/
def setsOf (W : List WV) : Option Nat := (wordAt W 1).bind fun s => numOf s 256
def relOf (W : List WV) : Option Nat := (wordAt W 2).bind fun s => numOf s 1000
def cacheOf (W : List WV) : Except Int (Nat × Nat) :=
  if wordAt W 0 ≠ some bCache then .error (placeAt W 0) else
  match setsOf W with
  | none => .error (placeAt W 1)
  | some s =>
    match relOf W with
    | none => .error (placeAt W 2)
    | some r => if 3 < W.length then .error (placeAt W 3) else .ok (s, r)

/-! ### a text -/
def Tk.tv (t : Tk) : TV := ⟨t.id, t.c, t.d, t.t, t.p, none, t.ch, t.ch.length, none, t.us, t.us.length⟩
theorem first_tk (s : Int) : ∀ (L : List TV) (last : Int) (seen : List Int), firstOf s last seen L = firstOf s last seen ((L.map TV.tk).map Tk.tv)
  | [], _, _ => rfl
  | x :: L, last, seen => by
    rw [List.map_cons, List.map_cons, firstOf, firstOf, first_tk s L x.id (x.p :: seen)]
    rfl
/-- What is wrong with a system, by what its tasks are meant to be. -/
def checkT (s r : Int) (l : List Tk) : Int := checkOf s r (l.map Tk.tv)
theorem check_tk (s r : Int) (L : List TV) : checkOf s r L = checkT s r (L.map TV.tk) := by
  unfold checkT checkOf sysBad
  rw [← first_tk]
  simp only [List.length_map]
def tailOf (S R : Int) (acc : List Tk) : List (List WV) → Except (Int × Int) (List Tk)
  | [] => .ok acc
  | W :: rest => match lineOf W with
    | .error p => .error (p, 10)
    | .ok t => if checkT S R (acc ++ [t]) = 0 then tailOf S R (acc ++ [t]) rest else .error (placeAt W 0, checkT S R (acc ++ [t]))
/-- The system that a text says, or the place and the error of what is wrong. -/
def parseOf (s : ByteArray) : Except (Int × Int) (Nat × Nat × List Tk) := match linesOf s with
  | [] => .error (s.size, 10)
  | W :: rest => match cacheOf W with
    | .error p => .error (p, 10)
    | .ok (S, R) => match tailOf S R [] rest with
      | .error q => .error q
      | .ok [] => .error (s.size, 1)
      | .ok l => .ok (S, R, l)
end Go.Proofs.YtlpffgmfgkleiaaDoor

/-
  A row of words that is read, in memory; what closures that take a word do.
-/
namespace Go.Proofs.YtlpffgmfgkleiaaDoor
open Go.RowKit Go.Maps

abbrev RowT : TypeId := 95
abbrev SysT : TypeId := 32
/-- A block of one's own, and what it holds. -/
abbrev Box (w : World) (b : Nat) (T : TypeId) (cs : Array Value) : Prop := w.heap[b]? = some (.cells cs T (0, 0))
/-- Two blocks may have turned. -/
structure Two (R T : Nat) (w w' : World) : Prop where
  os : w'.os = w.os
  tape : w'.tape = w.tape
  output : w'.output = w.output
  size : w.heap.size ≤ w'.heap.size
  block : ∀ k, k < w.heap.size → k ≠ R → k ≠ T → w'.heap[k]? = w.heap[k]?
theorem Two.refl (R T : Nat) (w : World) : Two R T w w := ⟨rfl, rfl, rfl, Nat.le_refl _, fun _ _ _ _ => rfl⟩
theorem Two.trans {R T : Nat} {w w' w'' : World} (h : Two R T w w') (k : Two R T w' w'') : Two R T w w'' :=
  ⟨k.os.trans h.os, k.tape.trans h.tape, k.output.trans h.output, Nat.le_trans h.size k.size, fun b hb h1 h2 => (k.block b (Nat.lt_of_lt_of_le hb h.size) h1 h2).trans (h.block b hb h1 h2)⟩
theorem Two.of_below {R T : Nat} {w w' : World} (h : Below w.heap.size w w') : Two R T w w' := ⟨h.os, h.tape, h.output, h.size, fun k hk _ _ => h.block k hk⟩
theorem Two.then {R T : Nat} {w w' w'' : World} (h : Two R T w w') (k : Below w'.heap.size w' w'') : Two R T w w'' := h.trans (Two.of_below k)
theorem Two.setT {R T o : Nat} {w w' : World} (h : Two R T w w') (v : Value) : Two R T w (w'.setCell ⟨T, o, none⟩ v) :=
  ⟨h.os, h.tape, h.output, by simp [World.setCell]; exact h.size, fun k hk h1 h2 => (blk_far (a := ⟨T, o, none⟩) h2 v).trans (h.block k hk h1 h2)⟩
theorem Two.setR {R T o : Nat} {w w' : World} (h : Two R T w w') (v : Value) : Two R T w (w'.setCell ⟨R, o, none⟩ v) :=
  ⟨h.os, h.tape, h.output, by simp [World.setCell]; exact h.size, fun k hk h1 h2 => (blk_far (a := ⟨R, o, none⟩) h1 v).trans (h.block k hk h1 h2)⟩
theorem Two.below {R T N : Nat} {w w' : World} (h : Two R T w w') (hR : N ≤ R) (hT : N ≤ T) (hN : N ≤ w.heap.size) : Below N w w' :=
  ⟨h.os, h.tape, h.output, h.size, fun k hk => h.block k (by omega) (by omega) (by omega)⟩
theorem Two.weak {R T' : Nat} {w w' : World} (h : Two R R w w') : Two R T' w w' := ⟨h.os, h.tape, h.output, h.size, fun k hk h1 _ => h.block k hk h1 h1⟩
theorem Two.ofT {R T : Nat} {w w' : World} (h : Two T T w w') : Two R T w w' := ⟨h.os, h.tape, h.output, h.size, fun k hk _ h2 => h.block k hk h2 h2⟩
theorem Two.swap {R T : Nat} {w w' : World} (h : Two R T w w') : Two T R w w' := ⟨h.os, h.tape, h.output, h.size, fun k hk h1 h2 => h.block k hk h2 h1⟩
theorem Two.box {R T b : Nat} {w w' : World} {t : TypeId} {cs : Array Value} (h : Two R T w w') (hb : Box w b t cs) (h1 : b ≠ R) (h2 : b ≠ T) : Box w' b t cs := (h.block b (lt_of_block hb) h1 h2).trans hb
/-- A new block may turn besides: below it none. -/
theorem Two.drop {R T : Nat} {w w' : World} (h : Two R T w w') (hT : w.heap.size ≤ T) : Two R R w w' := ⟨h.os, h.tape, h.output, h.size, fun k hk h1 _ => h.block k hk h1 (by omega)⟩
/-- Rows of numbers stay. -/
theorem ints_two {R T : Nat} {w w' : World} {a : Option Addr} {l : List Int} {t1 t2 : TypeId} {c1 c2 : Array Value} (h : Two R T w w') (hR : Box w R t1 c1) (hT : Box w T t2 c2)
    (n1 : t1 ≠ 2 ∧ t1 ≠ 3) (n2 : t2 ≠ 2 ∧ t2 ≠ 3) (hi : IsI w a l) (hv : Ints w a l) : IsI w' a l ∧ Ints w' a l := by
  rcases hv with rfl | ⟨g, o, rfl, hc⟩
  · exact ⟨.inl rfl, .inl rfl⟩
  rcases hi with rfl | hi
  · exact ⟨.inl rfl, .inl rfl⟩
  obtain ⟨cs, t, fr, hb, ht⟩ := hi g o rfl
  have e1 : g ≠ R := by
    rintro rfl
    rw [hR] at hb
    simp only [Option.some.injEq, Obj.cells.injEq] at hb
    rcases ht with q | q
    · exact n1.1 (hb.2.1.trans q)
    · exact n1.2 (hb.2.1.trans q)
  have e2 : g ≠ T := by
    rintro rfl
    rw [hT] at hb
    simp only [Option.some.injEq, Obj.cells.injEq] at hb
    rcases ht with q | q
    · exact n2.1 (hb.2.1.trans q)
    · exact n2.2 (hb.2.1.trans q)
  have hk : w'.heap[g]? = w.heap[g]? := h.block g (lt_of_block hb) e1 e2
  refine ⟨.inr fun g' o' e => ?_, .inr ⟨g, o, rfl, fun j u hj => ?_⟩⟩
  · cases e
    exact ⟨cs, t, fr, hk.trans hb, ht⟩
  · have := hc j u hj
    rw [blk_cell hb] at this
    rw [blk_cell (hk.trans hb)]
    exact this

/-! ### what is left of a row -/
def WIn (w : World) (N : Nat) (a : Option Addr) (l : List WV) : Prop :=
  l = [] ∨ ∃ g o, a = some ⟨g, o, none⟩ ∧ g < N ∧ ∀ j u, (wflat l)[j]? = some u → w.cell? ⟨g, o + j, none⟩ = some u
theorem WIn.view {w : World} {N : Nat} {a : Option Addr} {l : List WV} (h : WIn w N a l) : WView w a l := by
  rcases h with h | ⟨g, o, h1, _, h3⟩
  · exact .inl h
  · exact .inr ⟨g, o, h1, h3⟩
theorem WIn.of {w : World} {a : Option Addr} {l : List WV} (h : WView w a l) : WIn w w.heap.size a l := by
  rcases h with h | ⟨g, o, h1, h3⟩
  · exact .inl h
  · cases l with
    | nil => exact .inl rfl
    | cons x l =>
      refine .inr ⟨g, o, h1, ?_, h3⟩
      exact block_of_cell (h3 0 (.int .i64 x.at_) rfl)
theorem WIn.below {w w' : World} {N : Nat} {a : Option Addr} {l : List WV} (h : WIn w N a l) (hb : Below N w w') : WIn w' N a l := by
  rcases h with h | ⟨g, o, h1, h2, h3⟩
  · exact .inl h
  · exact .inr ⟨g, o, h1, h2, fun j u hj => by rw [hb.cell (p := ⟨g, o + j, none⟩) h2]; exact h3 j u hj⟩
/-- A row that is read: what is left of it, where the last word that was read ends. -/
def Left (w : World) (R N : Nat) (e : Int) (l : List WV) : Prop :=
  ∃ (a : Option Addr) (c : Nat), Box w R RowT #[.slice a l.length c, .int .i64 e] ∧ WIn w N a l ∧ l.length ≤ c ∧ (c : Int) ≤ 9223372036854775807
theorem Left.box {w : World} {R N : Nat} {e : Int} {l : List WV} (h : Left w R N e l) : ∃ cs, Box w R RowT cs := let ⟨_, _, hb, _⟩ := h; ⟨_, hb⟩
theorem Left.below {w w' : World} {R N : Nat} {e : Int} {l : List WV} (h : Left w R N e l) (hb : Below w.heap.size w w') (hN : N ≤ w.heap.size) : Left w' R N e l := by
  obtain ⟨a, c, h1, h2, h3⟩ := h
  exact ⟨a, c, kept_obj hb h1, h2.below (hb.mono hN), h3⟩
theorem Left.two {w w' : World} {R T N : Nat} {e : Int} {l : List WV} (h : Left w R N e l) (hb : Two T T w w') (hN : N ≤ w.heap.size) (hT : N ≤ T) (hne : R ≠ T) : Left w' R N e l := by
  obtain ⟨a, c, h1, h2, h3⟩ := h
  exact ⟨a, c, hb.box h1 hne hne, h2.below (hb.below hT hT hN), h3⟩

/-! ### closures that take a word -/
theorem beq_bytes (s t : ByteArray) : (s.toList == t.toList) = decide (s = t) := by
  by_cases h : s = t
  · subst h; simp
  · rw [decide_eq_false h, beq_eq_false_iff_ne]
    intro e
    apply h
    rw [ByteArray.toList_eq, ByteArray.toList_eq] at e
    obtain ⟨a⟩ := s
    obtain ⟨b⟩ := t
    exact congrArg ByteArray.mk (Array.toList_inj.1 e)
/-- What calls a closure. -/
def Says (v : Value) (w : World) (T : Nat) (s : ByteArray) (ok : Bool) (C : World → Prop) : Prop :=
  ∃ (F : Nat) (caps : Array Value), v = .func (.func F) #[] caps ∧ (∀ args w, (callFunc F args).run Tryd.prog w = .ok (.enter F args) w) ∧
    Calls Tryd.prog F (#[.string s] ++ caps) w fun e w' => e = .returned (.bool ok) ∧ Two T T w w' ∧ C w'
/-- What a panic bears. -/
abbrev PV (p e : Int) : Value := .iface 92 (.agg #[.int .i64 p, .int .i64 e])
abbrev Panics (p e : Int) (x : Ending) : Prop := x = .panicked [{ v := PV p e, recovered := false }]

set_option maxRecDepth 100000 in
theorem text_any (t : ByteArray) (w : World) : Calls Tryd.prog 59 #[.string t] w fun e w' => ∃ b, e = .returned (.func (.func 79) #[] #[.pointer (some ⟨b, 0, none⟩)]) ∧ w'.cell? ⟨b, 0, none⟩ = some (.string t) ∧ Below w.heap.size w w' := by
  have hmf : ∀ (fn : Fn) (first cap : Array Value) (w : World), (Instr.makeFunc fn first cap).run Tryd.prog w = .ok (.func fn first cap) w := fun _ _ _ _ => rfl
  go_enter Tryd.func59, Tryd.ntmps59
  go_wp2
  go_ret
  exact ⟨w.heap.size, rfl, by rw [World.cell?_alloc_new]; rfl, bw_alloc (Below.refl _ _) _⟩
set_option maxRecDepth 100000 in
theorem text1_any (s t : ByteArray) (b : Nat) (w : World) (hb : w.cell? ⟨b, 0, none⟩ = some (.string t)) : Calls Tryd.prog 79 #[.string s, .pointer (some ⟨b, 0, none⟩)] w fun e w' => e = .returned (.bool (s.toList == t.toList)) ∧ w' = w := by
  go_enter Tryd.func79, Tryd.ntmps79
  go_wp2
  go_ret
  exact ⟨rfl, rfl⟩
set_option maxRecDepth 100000 in
theorem enters_text1 (args : Array Value) (w : World) : (callFunc 79 args).run Tryd.prog w = .ok (.enter 79 args) w := by
  go_simp

/-! ### numbers -/
/-- A closure that takes a number, or numbers. -/
def TakesAt (F : Nat) (v : Value) (w : World) (p : Addr) (most : Int) : Prop :=
  ∃ mb tb, v = .func (.func F) #[] #[.pointer (some ⟨mb, 0, none⟩), .pointer (some ⟨tb, 0, none⟩)] ∧ w.cell? ⟨mb, 0, none⟩ = some (.int .i64 most) ∧ w.cell? ⟨tb, 0, none⟩ = some (.pointer (some p))
theorem TakesAt.below {F : Nat} {v : Value} {w w' : World} {p : Addr} {most : Int} (h : TakesAt F v w p most) (hb : Below w.heap.size w w') : TakesAt F v w' p most := by
  obtain ⟨mb, tb, h1, h2, h3⟩ := h
  exact ⟨mb, tb, h1, kept_cell hb h2, kept_cell hb h3⟩

set_option maxRecDepth 100000 in
theorem numI_any (p : Addr) (most : Int) (w : World) : Calls Tryd.prog 60 #[.pointer (some p), .int .i64 most] w fun e w' => ∃ v, e = .returned v ∧ TakesAt 80 v w' p most ∧ Below w.heap.size w w' := by
  have hmf : ∀ (fn : Fn) (first cap : Array Value) (w : World), (Instr.makeFunc fn first cap).run Tryd.prog w = .ok (.func fn first cap) w := fun _ _ _ _ => rfl
  go_enter Tryd.func60, Tryd.ntmps60
  go_wp2
  go_ret
  exact ⟨_, rfl, ⟨w.heap.size + 1, w.heap.size, rfl, (new_second w _ _ _ 0).trans rfl, (new_first w _ _ _ 0).trans rfl⟩, bw_alloc (bw_alloc (Below.refl _ _) _) _⟩
set_option maxRecDepth 100000 in
theorem enters_numI1 (args : Array Value) (w : World) : (callFunc 80 args).run Tryd.prog w = .ok (.enter 80 args) w := by
  go_simp

set_option maxRecDepth 100000 in
theorem numQ_any (p : Addr) (most : Int) (w : World) : Calls Tryd.prog 61 #[.pointer (some p), .int .i64 most] w fun e w' => ∃ v, e = .returned v ∧ TakesAt 82 v w' p most ∧ Below w.heap.size w w' := by
  have hmf : ∀ (fn : Fn) (first cap : Array Value) (w : World), (Instr.makeFunc fn first cap).run Tryd.prog w = .ok (.func fn first cap) w := fun _ _ _ _ => rfl
  go_enter Tryd.func61, Tryd.ntmps61
  go_wp2
  go_ret
  exact ⟨_, rfl, ⟨w.heap.size + 1, w.heap.size, rfl, (new_second w _ _ _ 0).trans rfl, (new_first w _ _ _ 0).trans rfl⟩, bw_alloc (bw_alloc (Below.refl _ _) _) _⟩
set_option maxRecDepth 100000 in
theorem enters_numQ1 (args : Array Value) (w : World) : (callFunc 82 args).run Tryd.prog w = .ok (.enter 82 args) w := by
  go_simp

set_option maxRecDepth 100000 in
theorem numsI_any (p : Addr) (most : Int) (w : World) : Calls Tryd.prog 66 #[.pointer (some p), .int .i64 most] w fun e w' => ∃ v, e = .returned v ∧ TakesAt 88 v w' p most ∧ Below w.heap.size w w' := by
  have hmf : ∀ (fn : Fn) (first cap : Array Value) (w : World), (Instr.makeFunc fn first cap).run Tryd.prog w = .ok (.func fn first cap) w := fun _ _ _ _ => rfl
  go_enter Tryd.func66, Tryd.ntmps66
  go_wp2
  go_ret
  exact ⟨_, rfl, ⟨w.heap.size + 1, w.heap.size, rfl, (new_second w _ _ _ 0).trans rfl, (new_first w _ _ _ 0).trans rfl⟩, bw_alloc (bw_alloc (Below.refl _ _) _) _⟩
set_option maxRecDepth 100000 in
theorem enters_numsI1 (args : Array Value) (w : World) : (callFunc 88 args).run Tryd.prog w = .ok (.enter 88 args) w := by
  go_simp

set_option maxRecDepth 100000 in
theorem numsQ_any (p : Addr) (most : Int) (w : World) : Calls Tryd.prog 65 #[.pointer (some p), .int .i64 most] w fun e w' => ∃ v, e = .returned v ∧ TakesAt 85 v w' p most ∧ Below w.heap.size w w' := by
  have hmf : ∀ (fn : Fn) (first cap : Array Value) (w : World), (Instr.makeFunc fn first cap).run Tryd.prog w = .ok (.func fn first cap) w := fun _ _ _ _ => rfl
  go_enter Tryd.func65, Tryd.ntmps65
  go_wp2
  go_ret
  exact ⟨_, rfl, ⟨w.heap.size + 1, w.heap.size, rfl, (new_second w _ _ _ 0).trans rfl, (new_first w _ _ _ 0).trans rfl⟩, bw_alloc (bw_alloc (Below.refl _ _) _) _⟩
set_option maxRecDepth 100000 in
theorem enters_numsQ1 (args : Array Value) (w : World) : (callFunc 85 args).run Tryd.prog w = .ok (.enter 85 args) w := by
  go_simp
end Go.Proofs.YtlpffgmfgkleiaaDoor

/-
  Rows of numbers as those of another kind.
-/
namespace Go.Proofs.YtlpffgmfgkleiaaDoor
open Go.RowKit Go.Maps

theorem y_infoInt : (Tryd.prog.info? 3).map (fun i => (i.zero, i.size, i.bytes)) = some (some (.int .i64 0), 1, 8) := by kernel_rfl
theorem make_ints (c : Nat) (hc : c ≤ 2000000000) (w : World) : (Instr.makeSlice 50 (.int .i64 0) (.int .i64 (c : Int))).run Tryd.prog w = .ok (.slice (some ⟨w.heap.size, 0, none⟩) 0 c) (w.alloc (.cells (madeCells #[.int .i64 0] c) 3)) := by
  obtain ⟨i0, hi, hz0, hz1, hz2⟩ := info_parts y_infoInt
  have h := run_make w 50 3 i0 (.int .i64 0) Tryd.underlying50 hi hz0 .i64 .i64 0 c (by omega) (by omega) (by rw [hz2]; omega) (by omega)
  rw [hz1] at h
  simpa [Value.cells] using h
theorem own_room (w : World) (cap : Nat) (hc : cap ≤ 2000000000) (T : TypeId) : OwnI (w.alloc (.cells (madeCells #[.int .i64 0] cap) T)) T w.heap.size (.slice (some ⟨w.heap.size, 0, none⟩) 0 cap) [] :=
  World.ownsRow_made (e := T) (size := 1) (base := w.heap.size) (w := w) (madeCells #[.int .i64 0] cap) cap (by simp) (by unfold maxLen; omega) (by rw [size_madeCells]; omega)
/-- A row of one's own that comes back. -/
def AsBack (T : TypeId) (l : List Int) (n : Nat) (w : World) (e : Ending) (w' : World) : Prop :=
  ∃ a c, e = .returned (.slice a n c) ∧ OwnI w' T w.heap.size (.slice a n c) l ∧ Below w.heap.size w w'

set_option maxRecDepth 100000 in
set_option maxHeartbeats 2000000 in
theorem as_qq (a : Option Addr) (n cap : Nat) (l : List Int) (hl : l.length = n) (hn : n ≤ 1100000) (w : World) (h : Ints w a l) : Calls Tryd.prog 87 #[.slice a n cap] w (AsBack 2 l n w) := by
  have H := Lib.hid h
  have HL := Lib.hid hl
  have hmk := make_long n (by omega)
  clear h hl
  go_enter Tryd.func87, Tryd.ntmps87
  go_upto_region 2 with fail
  refine gen_world (fun v => Below w.heap.size w v ∧ OwnI v 2 w.heap.size (.slice (some ⟨w.heap.size, 0, none⟩) 0 n) []) ⟨bw_alloc (Below.refl _ _) _, own_room w n (by omega) _⟩ ?_
  intro W1 ⟨hb1, ho1⟩
  have HB1 := Lib.hid hb1
  have HO1 := Lib.hid ho1
  clear hb1 ho1 hmk
  go_wp2_with fail
  go_loopw [3, 11] (fun v u wr => ∃ (k : Nat) (a' : Option Addr) (cp' : Nat), k ≤ n ∧ u = .int .i64 k ∧ v = .slice a' k cp' ∧ Hid (Below w.heap.size w wr) ∧ Hid (OwnI wr 2 w.heap.size (.slice a' k cp') (l.take k))) (fun _ u _ => (n - intOf u).toNat)
  case atStart => exact ⟨0, _, _, by omega, rfl, rfl, HB1, HO1⟩
  case round =>
    obtain ⟨k, a', cp', hk, rfl, rfl, HB, HP⟩ := hrel
    by_cases hlt : k < n
    · obtain ⟨y, hy⟩ := nth_of HL.out hlt
      obtain ⟨g, o, rfl, z0⟩ := (H.out.below HB.out).at_ hy
      have hk1 : (k : Int) < (n : Int) := by omega
      have hk0 : (0 : Int) ≤ (k : Int) := by omega
      have HTL : Hid ((l.take k).length = k) := by show _ = _; rw [List.length_take, HL.out]; omega
      have HT2 : Hid (l.take k ++ [y] = l.take (k + 1)) := by show _ = _; rw [List.take_add_one, hy]; rfl
      have HSM : Hid ((((l.take k).length : Int) + ((1 : Nat) : Int)) ≤ 17592186044416) := by show _ ≤ _; rw [HTL.out]; omega
      have HNN : Hid ((l.take k).length + 1 = k + 1) := by show _ = _; rw [HTL.out]
      have HSZ : Hid (w.heap.size ≤ (wr.alloc (.cells #[.int .i64 y] 2)).heap.size) := by show _ ≤ _; rw [World.size_alloc]; have := HB.out.size; omega
      clear hy
      go_wp2_with (at_builtin; refine wp_ints (m := 1) (l := [y]) numL rfl _ _ rfl rfl rfl (HP.out.below (by repeat (first | exact Below.refl _ _ | (with_reducible assumption) | refine bw_alloc ?_ _ | refine bw_drew ?_))) HSZ.out (ints_new _ _ _) rfl HSM.out (fun z => by cases z) (k + 1) HNN.out ?_; intro a3 k3 w3 o3 g3 l3; have HO := Lib.hid (HT2.out ▸ o3); have HB2 := Lib.hid (growni_new (below_up HB.out (bw_alloc (Below.refl _ _) _)) (HP.out.below (bw_alloc (Below.refl _ _) _)) HSZ.out g3); clear o3 g3 l3)
      go_roundw
      case rel => exact ⟨k + 1, a3, k3, by omega, by go_num, rfl, HB2, HO⟩
      case measure => simp [intOf]; omega
    · obtain rfl : n = k := by omega
      have HT : Hid (l.take n = l) := by show _ = _; rw [← HL.out, List.take_length]
      go_wp2_with fail
      go_ret
      exact ⟨_, _, rfl, HT.out ▸ HP.out, HB.out⟩

set_option maxRecDepth 100000 in
set_option maxHeartbeats 2000000 in
theorem as_qi (a : Option Addr) (n cap : Nat) (l : List Int) (hl : l.length = n) (hn : n ≤ 1100000) (w : World) (h : Ints w a l) : Calls Tryd.prog 55 #[.slice a n cap] w (AsBack 2 l n w) := by
  have H := Lib.hid h
  have HL := Lib.hid hl
  have hmk := make_long n (by omega)
  clear h hl
  go_enter Tryd.func55, Tryd.ntmps55
  go_upto_region 2 with fail
  refine gen_world (fun v => Below w.heap.size w v ∧ OwnI v 2 w.heap.size (.slice (some ⟨w.heap.size, 0, none⟩) 0 n) []) ⟨bw_alloc (Below.refl _ _) _, own_room w n (by omega) _⟩ ?_
  intro W1 ⟨hb1, ho1⟩
  have HB1 := Lib.hid hb1
  have HO1 := Lib.hid ho1
  clear hb1 ho1 hmk
  go_wp2_with fail
  go_loopw [3, 11] (fun v u wr => ∃ (k : Nat) (a' : Option Addr) (cp' : Nat), k ≤ n ∧ u = .int .i64 k ∧ v = .slice a' k cp' ∧ Hid (Below w.heap.size w wr) ∧ Hid (OwnI wr 2 w.heap.size (.slice a' k cp') (l.take k))) (fun _ u _ => (n - intOf u).toNat)
  case atStart => exact ⟨0, _, _, by omega, rfl, rfl, HB1, HO1⟩
  case round =>
    obtain ⟨k, a', cp', hk, rfl, rfl, HB, HP⟩ := hrel
    by_cases hlt : k < n
    · obtain ⟨y, hy⟩ := nth_of HL.out hlt
      obtain ⟨g, o, rfl, z0⟩ := (H.out.below HB.out).at_ hy
      have hk1 : (k : Int) < (n : Int) := by omega
      have hk0 : (0 : Int) ≤ (k : Int) := by omega
      have HTL : Hid ((l.take k).length = k) := by show _ = _; rw [List.length_take, HL.out]; omega
      have HT2 : Hid (l.take k ++ [y] = l.take (k + 1)) := by show _ = _; rw [List.take_add_one, hy]; rfl
      have HSM : Hid ((((l.take k).length : Int) + ((1 : Nat) : Int)) ≤ 17592186044416) := by show _ ≤ _; rw [HTL.out]; omega
      have HNN : Hid ((l.take k).length + 1 = k + 1) := by show _ = _; rw [HTL.out]
      have HSZ : Hid (w.heap.size ≤ (wr.alloc (.cells #[.int .i64 y] 2)).heap.size) := by show _ ≤ _; rw [World.size_alloc]; have := HB.out.size; omega
      clear hy
      go_wp2_with (at_builtin; refine wp_ints (m := 1) (l := [y]) numL rfl _ _ rfl rfl rfl (HP.out.below (by repeat (first | exact Below.refl _ _ | (with_reducible assumption) | refine bw_alloc ?_ _ | refine bw_drew ?_))) HSZ.out (ints_new _ _ _) rfl HSM.out (fun z => by cases z) (k + 1) HNN.out ?_; intro a3 k3 w3 o3 g3 l3; have HO := Lib.hid (HT2.out ▸ o3); have HB2 := Lib.hid (growni_new (below_up HB.out (bw_alloc (Below.refl _ _) _)) (HP.out.below (bw_alloc (Below.refl _ _) _)) HSZ.out g3); clear o3 g3 l3)
      go_roundw
      case rel => exact ⟨k + 1, a3, k3, by omega, by go_num, rfl, HB2, HO⟩
      case measure => simp [intOf]; omega
    · obtain rfl : n = k := by omega
      have HT : Hid (l.take n = l) := by show _ = _; rw [← HL.out, List.take_length]
      go_wp2_with fail
      go_ret
      exact ⟨_, _, rfl, HT.out ▸ HP.out, HB.out⟩

set_option maxRecDepth 100000 in
set_option maxHeartbeats 2000000 in
theorem as_iq (a : Option Addr) (n cap : Nat) (l : List Int) (hl : l.length = n) (hn : n ≤ 1100000) (w : World) (h : Ints w a l) : Calls Tryd.prog 89 #[.slice a n cap] w (AsBack 3 l n w) := by
  have H := Lib.hid h
  have HL := Lib.hid hl
  have hmk := make_ints n (by omega)
  clear h hl
  go_enter Tryd.func89, Tryd.ntmps89
  go_upto_region 2 with fail
  refine gen_world (fun v => Below w.heap.size w v ∧ OwnI v 3 w.heap.size (.slice (some ⟨w.heap.size, 0, none⟩) 0 n) []) ⟨bw_alloc (Below.refl _ _) _, own_room w n (by omega) _⟩ ?_
  intro W1 ⟨hb1, ho1⟩
  have HB1 := Lib.hid hb1
  have HO1 := Lib.hid ho1
  clear hb1 ho1 hmk
  go_wp2_with fail
  go_loopw [3, 11] (fun v u wr => ∃ (k : Nat) (a' : Option Addr) (cp' : Nat), k ≤ n ∧ u = .int .i64 k ∧ v = .slice a' k cp' ∧ Hid (Below w.heap.size w wr) ∧ Hid (OwnI wr 3 w.heap.size (.slice a' k cp') (l.take k))) (fun _ u _ => (n - intOf u).toNat)
  case atStart => exact ⟨0, _, _, by omega, rfl, rfl, HB1, HO1⟩
  case round =>
    obtain ⟨k, a', cp', hk, rfl, rfl, HB, HP⟩ := hrel
    by_cases hlt : k < n
    · obtain ⟨y, hy⟩ := nth_of HL.out hlt
      obtain ⟨g, o, rfl, z0⟩ := (H.out.below HB.out).at_ hy
      have hk1 : (k : Int) < (n : Int) := by omega
      have hk0 : (0 : Int) ≤ (k : Int) := by omega
      have HTL : Hid ((l.take k).length = k) := by show _ = _; rw [List.length_take, HL.out]; omega
      have HT2 : Hid (l.take k ++ [y] = l.take (k + 1)) := by show _ = _; rw [List.take_add_one, hy]; rfl
      have HSM : Hid ((((l.take k).length : Int) + ((1 : Nat) : Int)) ≤ 17592186044416) := by show _ ≤ _; rw [HTL.out]; omega
      have HNN : Hid ((l.take k).length + 1 = k + 1) := by show _ = _; rw [HTL.out]
      have HSZ : Hid (w.heap.size ≤ (wr.alloc (.cells #[.int .i64 y] 3)).heap.size) := by show _ ≤ _; rw [World.size_alloc]; have := HB.out.size; omega
      clear hy
      go_wp2_with (at_builtin; refine wp_ints (m := 1) (l := [y]) numI rfl _ _ rfl rfl rfl (HP.out.below (by repeat (first | exact Below.refl _ _ | (with_reducible assumption) | refine bw_alloc ?_ _ | refine bw_drew ?_))) HSZ.out (ints_new _ _ _) rfl HSM.out (fun z => by cases z) (k + 1) HNN.out ?_; intro a3 k3 w3 o3 g3 l3; have HO := Lib.hid (HT2.out ▸ o3); have HB2 := Lib.hid (growni_new (below_up HB.out (bw_alloc (Below.refl _ _) _)) (HP.out.below (bw_alloc (Below.refl _ _) _)) HSZ.out g3); clear o3 g3 l3)
      go_roundw
      case rel => exact ⟨k + 1, a3, k3, by omega, by go_num, rfl, HB2, HO⟩
      case measure => simp [intOf]; omega
    · obtain rfl : n = k := by omega
      have HT : Hid (l.take n = l) := by show _ = _; rw [← HL.out, List.take_length]
      go_wp2_with fail
      go_ret
      exact ⟨_, _, rfl, HT.out ▸ HP.out, HB.out⟩
end Go.Proofs.YtlpffgmfgkleiaaDoor

/-
  A range over a function that keeps a state of its own between two rounds.
-/
namespace Go.Proofs.YtlpffgmfgkleiaaDoor
open Go.RowKit Go.Maps

/-- How a round ends. -/
def RoundEnds {α : Type} (B : Nat) (Kp : World → World → Prop) (I Ix : List α → World → Prop) (xs : List α) (W : World) : Exit → Act → World → Prop
  | .normal, _, W' => KeepsFrom B W W' ∧ Kp W W' ∧ I xs W'
  | .ret, _, W' => KeepsFrom B W W' ∧ Ix xs W'
  | _, _, _ => False
/-- What tells one after another, and steps by St between two of them. -/
def Tells {α : Type} (n : Nat) (P : Program) (gf : Nat) (lb : Array Value) (encs : α → Array Value) (Kp St : World → World → Prop) (S Sp : List α → Prop) (N : Nat) (w : World) : Prop :=
  ∀ (l : Nat) (J Jx : List α → World → Prop) (W : World), Below w.heap.size w W → (∀ s X Y, J s X → St X Y → J s Y) →
    (∀ pre x W1, J pre W1 → pre.length < N → YieldAt Fence.wide (n - 1) P l (encs x) W1 fun e W' => (e = .returned (.bool true) ∧ J (pre ++ [x]) W' ∧ Kp W1 W') ∨ (e = .returned (.bool false) ∧ Jx (pre ++ [x]) W')) →
    J [] W → CallsIn Fence.wide n P gf (#[.func (.yield l) #[] #[]] ++ lb) W fun e W' => (∃ v, e = .returned v) ∧ ((∃ xs, S xs ∧ J xs W') ∨ ∃ pre, Sp pre ∧ Jx pre W')

theorem range_tells {α : Type} {n : Nat} {P : Program} {g : Operand} {ps : Array Tmp} {assign body : Code} {Q : Exit → Act → World → Prop} {a : Act} {w : World} (h1 : 1 ≤ n) {gf : Nat} {lb : Array Value}
    (hg : a.eval g = .func (.func gf) #[] lb) (eg : ∀ args w, (callFunc gf args).run P w = .ok (.enter gf args) w) {encs : α → Array Value} {Kp St : World → World → Prop} {S Sp : List α → Prop} {N : Nat}
    (hseq : Tells (n - 1) P gf lb encs Kp St S Sp N w) (hKt : ∀ {A B C : World}, Kp A B → Kp B C → Kp A C)
    (hKb : ∀ (W : World) (l : Nat) (o o' : Obj), w.heap.size ≤ l → W.heap[l]? = some o → o.isCells = false → o.isWalk = false → Kp W (W.putObj l o'))
    (hSt : ∀ X Y, St X Y → KeepsFrom w.heap.size X Y) (hps : ∀ x, (encs x).size = ps.size)
    (I Ix : List α → World → Prop) (hI : OwnFrom w.heap.size I) (hIs : ∀ s X Y, I s X → St X Y → I s Y) (hIx : OwnFrom w.heap.size Ix) (h0 : I [] w) (a₁ : α → Act)
    (hassign : ∀ (l : Nat) (x : α) (W : World) (K : Act → World → Prop), K (a₁ x) W →
      assign.wpIn (Fence.wide.inRound l) (n - 1 - 1) P (Exit.then K (fun _ _ _ => False)) { tmps := (ps.zip (encs x)).foldl (fun t (p, v) => t.setIfInBounds p v) a.tmps, defers := [] } W)
    (hbody : ∀ (l : Nat) (pre : List α) (x : α) (W : World), I pre W → pre.length < N → body.wpIn (Fence.wide.inRound l) (n - 1 - 1) P (RoundEnds w.heap.size Kp I Ix (pre ++ [x]) W) (a₁ x) W)
    (hdone : ∀ (D : Nat) (xs : List α) (W : World), w.heap.size ≤ D → S xs → I xs W → W.heap[D]? = some (.deferred (some [])) → Q .normal { a with defers := { target := .collected D, args := #[] } :: a.defers } W)
    (hstop : ∀ (D : Nat) (pre : List α) (W : World), w.heap.size ≤ D → Sp pre → Ix pre W → W.heap[D]? = some (.deferred (some [])) → Code.ret.wpIn Fence.wide n P Q { a with defers := { target := .collected D, args := #[] } :: a.defers } W) :
    (Code.rangeFunc g ps assign body).wpIn Fence.wide n P Q a w := by
  refine wpIn_rangeFunc fun fn hfn => ?_
  -- the loop's record lies in block L, what its rounds defer in block D
  generalize hD : w.heap.size = D at *
  obtain ⟨rc, hrc⟩ : ∃ rc : LoopState → Option Code → Loop, (fun st pe => { state := st, pending := pe, fn, tmps := a.tmps, params := ps, assign, body, defers := D }) = rc := ⟨_, rfl⟩
  have rps : ∀ st pe, (rc st pe).params = ps := fun st pe => by rw [← hrc]
  obtain ⟨W1, hW1⟩ : ∃ W1, (w.alloc (.deferred (some []))).alloc (.loop (rc .ready none)) = W1 := ⟨_, rfl⟩
  have lay1 : W1.heap[D + 1]? = some (.loop (rc .ready none)) ∧ W1.heap[D]? = some (.deferred (some [])) := by
    rw [← hW1]
    constructor
    · have := World.alloc_heap_new (w.alloc (.deferred (some []))) (.loop (rc .ready none))
      rwa [World.size_alloc, hD] at this
    · rw [Below.heap_alloc _ _ _ (by simp; omega)]
      have := World.alloc_heap_new w (.deferred (some []))
      rwa [hD] at this
  have hb1 : Below w.heap.size w W1 := by rw [← hW1]; exact bw_alloc (bw_alloc (Below.refl _ _) _) _
  have hI1 : I [] W1 := by rw [← hW1]; exact hI.alloc _ (hI.alloc _ h0)
  refine ⟨D + 1, [{ target := .collected D, args := #[] }], W1, { target := .fn (.func gf) lb, args := #[.func (.yield (D + 1)) #[] #[]] }, W1, gf, #[.func (.yield (D + 1)) #[] #[]] ++ lb, W1, ?_, ?_, fun _ _ => trivial, ?_, fun _ => h1, ?_⟩
  · have := run_enterLoop_outer (P := P) (w := w) fn a.tmps ps assign body
    rw [hD] at this
    rw [← hW1, ← hrc]; exact this
  · simp only [resolve, hg]
    simp [go_sem]
  · simp [invoke, go_sem, eg]
  refine (hseq (D + 1)
    (fun pre W => I pre W ∧ W.heap[D + 1]? = some (.loop (rc .ready none)) ∧ W.heap[D]? = some (.deferred (some [])))
    (fun pre W => Ix pre W ∧ W.heap[D + 1]? = some (.loop (rc .done (some .ret))) ∧ W.heap[D]? = some (.deferred (some []))) W1 hb1
    (fun s X Y h hxy => ⟨hIs s X Y h.1 hxy, (hSt X Y hxy).same _ _ (by omega) h.2.1 rfl, (hSt X Y hxy).same _ _ (Nat.le_refl _) h.2.2 rfl⟩) ?_ ⟨hI1, lay1.1, lay1.2⟩).mono ?_
  · -- a round
    rintro pre x W ⟨hi, hl, hk⟩ hlen
    have hlt : D + 1 < W.heap.size := lt_of_block hl
    have hy := run_yield (P := P) (args := encs x) hl (by rw [rps]; exact hps x)
    have hbusy : (W.putObj (D + 1) (.loop { rc .ready none with state := .busy })).heap[D + 1]? = some (.loop { rc .ready none with state := .busy }) := World.putObj_heap_same hlt
    have hdef : (W.putObj (D + 1) (.loop { rc .ready none with state := .busy })).heap[D]? = some (.deferred (some [])) := (World.putObj_heap_other (by omega)).trans hk
    have hk0 : Kp W (W.putObj (D + 1) (.loop { rc .ready none with state := .busy })) := hKb _ _ _ _ (by omega) hl rfl rfl
    have hend : ∀ (jump : Option Code) (W3 : World), KeepsFrom D (W.putObj (D + 1) (.loop { rc .ready none with state := .busy })) W3 → W3.heap[D + 1]? = some (.loop { rc .ready none with state := .busy }) ∧
        (Instr.endRound (D + 1) jump).run P W3 = .ok (.bool jump.isNone) (W3.putObj (D + 1) (.loop (rc (if jump.isNone then .ready else .done) jump))) ∧
        (W3.putObj (D + 1) (.loop (rc (if jump.isNone then .ready else .done) jump))).heap[D + 1]? = some (.loop (rc (if jump.isNone then .ready else .done) jump)) ∧
        (W3.putObj (D + 1) (.loop (rc (if jump.isNone then .ready else .done) jump))).heap[D]? = some (.deferred (some [])) := fun jump W3 h3 => by
      have q := h3.same _ _ (by omega) hbusy rfl
      have r := run_endRound (P := P) jump q
      rw [← hrc] at r
      refine ⟨q, ?_, World.putObj_heap_same (lt_of_block q), (World.putObj_heap_other (by omega)).trans (h3.same _ _ (Nat.le_refl _) hdef rfl)⟩
      rw [← hrc]; exact r
    rw [← hrc] at hy
    refine ⟨fn, _, assign, body, hy, roundIn_of_wpIn hfn (hassign _ x W _ ⟨_, run_beginRound hl (by rw [← hrc]), ?_⟩)⟩
    refine wpIn_mono (hbody _ pre x _ (hI.putObj _ hi (by omega) hl rfl) hlen) ?_
    intro e a3 W3 hp
    cases e with
    | normal =>
      obtain ⟨p1, p2, p3⟩ := hp
      obtain ⟨q, r, r1, r2⟩ := hend none W3 p1
      exact ⟨_, _, r, .inl ⟨rfl, ⟨hI.putObj _ p3 (by omega) q rfl, r1, r2⟩, hKt (hKt hk0 p2) (hKb _ _ _ _ (by omega) q rfl rfl)⟩⟩
    | ret =>
      obtain ⟨p1, p2⟩ := hp
      obtain ⟨q, r, r1, r2⟩ := hend (some .ret) W3 p1
      exact ⟨_, _, r, .inr ⟨rfl, hIx.putObj _ p2 (by omega) q rfl, r1, r2⟩⟩
    | exit _ => exact hp.elim
    | goto _ => exact hp.elim
    | panic _ => exact hp.elim
    | outgrown => exact hp.elim
  · -- behind the last one
    rintro e W2 ⟨⟨v, rfl⟩, (⟨xs, hS, hi, hl, hk⟩ | ⟨pre, hSp, hi, hl, hk⟩)⟩
    · have r := run_endLoop (P := P) hl (by rw [← hrc]; simp)
      rw [← hrc] at r hl
      exact ⟨none, _, r, hdone _ xs _ (Nat.le_refl _) hS (hI.putObj _ hi (by omega) hl rfl) ((World.putObj_heap_other (by omega)).trans hk)⟩
    · have r := run_endLoop (P := P) hl (by rw [← hrc]; simp)
      rw [← hrc] at r hl
      exact ⟨some .ret, _, r, hstop _ pre _ (Nat.le_refl _) hSp (hIx.putObj _ hi (by omega) hl rfl) ((World.putObj_heap_other (by omega)).trans hk)⟩
end Go.Proofs.YtlpffgmfgkleiaaDoor

/-
  The pieces of a text between commas, in plain words.
-/
namespace Go.Proofs.YtlpffgmfgkleiaaDoor
open Go.RowKit Go.Maps

def prun (s : ByteArray) : Nat → List ByteArray × Nat
  | 0 => ([], 0)
  | i + 1 => if i < s.size ∧ byteAt s i ≠ 44 then prun s i else ((prun s i).1 ++ [s.extract (prun s i).2 i], i + 1)
def pieces (s : ByteArray) : List ByteArray := (prun s (s.size + 1)).1
theorem prun_len (s : ByteArray) : ∀ i, (prun s i).1.length ≤ i
  | 0 => by simp [prun]
  | i + 1 => by
    have := prun_len s i
    rw [prun]
    split
    · omega
    · simp; omega
theorem prun_pre (s : ByteArray) (i : Nat) : ∀ j, i ≤ j → (prun s i).1 <+: (prun s j).1 := by
  intro j
  induction j with
  | zero => intro h; obtain rfl : i = 0 := by omega
            exact List.prefix_rfl
  | succ j ih =>
    intro h
    rcases Nat.lt_or_ge j i with q | q
    · obtain rfl : i = j + 1 := by omega
      exact List.prefix_rfl
    · rw [prun]
      split
      · exact ih q
      · exact (ih q).trans (List.prefix_append _ _)
theorem prun_on (s : ByteArray) (f : Nat) : ∀ k, (∀ j, f ≤ j → j < f + k → j < s.size ∧ byteAt s j ≠ 44) → prun s (f + k) = prun s f
  | 0, _ => rfl
  | k + 1, h => by
    rw [← Nat.add_assoc, prun, if_pos (h (f + k) (by omega) (by omega))]
    exact prun_on s f k (fun j h1 h2 => h j h1 (by omega))
/-- The numbers of a row of texts. -/
def numsL (most : Int) : List ByteArray → Option (List Int)
  | [] => some []
  | x :: r => match numOf x most with
    | none => none
    | some n => (numsL most r).map fun l => (n : Int) :: l
theorem numsL_snoc (most : Int) (x : ByteArray) : ∀ l : List ByteArray, numsL most (l ++ [x]) = match numsL most l with
    | none => none
    | some q => match numOf x most with
      | none => none
      | some n => some (q ++ [(n : Int)])
  | [] => by
    rw [List.nil_append, numsL, numsL]
    cases numOf x most <;> rfl
  | y :: l => by
    rw [List.cons_append, numsL, numsL, numsL_snoc most x l]
    cases numOf y most with
    | none => rfl
    | some m =>
      cases numsL most l with
      | none => rfl
      | some q =>
        cases numOf x most with
        | none => rfl
        | some n => rfl
theorem numsL_pre (most : Int) {a b : List ByteArray} (h : a <+: b) (ha : numsL most a = none) : numsL most b = none := by
  obtain ⟨t, rfl⟩ := h
  induction a with
  | nil => cases ha
  | cons x a ih =>
    rw [List.cons_append, numsL]
    rw [numsL] at ha
    cases hx : numOf x most with
    | none => rfl
    | some n =>
      rw [hx] at ha
      simp only [Option.map_eq_none_iff] at ha
      simp only []
      rw [ih ha]; rfl
theorem nsrun_is (s : ByteArray) (most : Int) : ∀ i, nsrun s most i = (numsL most (prun s i).1).map fun l => (l, (prun s i).2)
  | 0 => rfl
  | i + 1 => by
    rw [nsrun, nsrun_is s most i]
    by_cases h : i < s.size ∧ byteAt s i ≠ 44
    · rw [prun, if_pos h]
      cases numsL most (prun s i).1 with
      | none => rfl
      | some l => simp only [Option.map_some, if_pos h]
    · rw [prun, if_neg h, numsL_snoc]
      cases numsL most (prun s i).1 with
      | none => rfl
      | some l =>
        simp only [Option.map_some, if_neg h]
        cases numOf (s.extract (prun s i).2 i) most with
        | none => rfl
        | some n => rfl
theorem numsOf_is (s : ByteArray) (most : Int) : numsOf s most = numsL most (pieces s) := by
  unfold numsOf pieces
  rw [nsrun_is]
  cases numsL most (prun s (s.size + 1)).1 with
  | none => rfl
  | some l => rfl
theorem ex_ex (s : ByteArray) (f i k : Nat) (hk : f + k ≤ s.size) : (s.extract f s.size).extract i k = s.extract (f + i) (f + k) := by
  apply ByteArray.ext
  rw [ByteArray.data_extract, ByteArray.data_extract, ByteArray.data_extract, Array.extract_extract]
  congr 1
  have : s.data.size = s.size := rfl
  omega
theorem byteAt_ex (s : ByteArray) (f : Nat) {j : Nat} (hj : f + j < s.size) : byteAt (s.extract f s.size) j = byteAt s (f + j) := by
  have h1 : j < (s.extract f s.size).size := by rw [ByteArray.size_extract]; omega
  rw [(byteAt_in _ h1).2, (byteAt_in s hj).2]
  congr 1
  exact ByteArray.getElem_extract ..
/-- A comma further. -/
theorem piece_step (s : ByteArray) {f i : Nat} (hf : (prun s f).2 = f) (hle : f ≤ s.size) (h : FirstByte (s.extract f s.size) 44 i) :
    f + i + 1 ≤ s.size ∧ prun s (f + i + 1) = ((prun s f).1 ++ [(s.extract f s.size).extract 0 i], f + i + 1) ∧ (s.extract f s.size).extract (i + 1) (s.extract f s.size).size = s.extract (f + i + 1) s.size := by
  obtain ⟨h1, h2, h3⟩ := h
  have hsz : (s.extract f s.size).size = s.size - f := by rw [ByteArray.size_extract]; omega
  rw [hsz] at h1
  refine ⟨by omega, ?_, ?_⟩
  · rw [prun, if_neg, prun_on s f i, hf, ex_ex s f 0 i (by omega)]
    · rfl
    · intro j a b
      refine ⟨by omega, ?_⟩
      have := h3 (j - f) (by omega)
      rw [byteAt_ex s f (by omega)] at this
      rwa [show f + (j - f) = j by omega] at this
    · rintro ⟨a, b⟩
      rw [byteAt_ex s f (by omega)] at h2
      exact b h2
  · rw [hsz, ex_ex s f (i + 1) (s.size - f) (by omega)]
    congr 1
    omega
theorem piece_last (s : ByteArray) {f : Nat} (hf : (prun s f).2 = f) (hle : f ≤ s.size) (h : NoByte (s.extract f s.size) 44) : pieces s = (prun s f).1 ++ [s.extract f s.size] := by
  have hsz : (s.extract f s.size).size = s.size - f := by rw [ByteArray.size_extract]; omega
  have e : prun s s.size = prun s f := by
    have := prun_on s f (s.size - f) (fun j a b => ⟨by omega, ?_⟩)
    · rwa [show f + (s.size - f) = s.size by omega] at this
    · have := h (j - f) (by rw [hsz]; omega)
      rw [byteAt_ex s f (by omega)] at this
      rwa [show f + (j - f) = j by omega] at this
  unfold pieces
  rw [prun, if_neg (by omega), e, hf]
end Go.Proofs.YtlpffgmfgkleiaaDoor

/-
  DERIVED: THE SHELF's CONTRACTS AT THIS DUMP, IN PLAIN WORDS (tools/lay-plain.mjs out of 'TrydShelf.lean', which tools/lay-shelf.mjs wrote): THE SAME DECLARATIONS UNDER THE SAME NAMES: 'import', 'namespace', 'open', 'def', 'theorem' AND NOTHING ELSE: no command of the shelf's: FOR A HAND-IN. Each laying: the table of numbers ('.._ren') and one theorem, a field a fact of the dump's own or the kernel's comparison; each contract: ONE APPLICATION.
-/
namespace Go.Proofs
open Go.Shelf
def Tryd.lays169_ren : Go.Shelf.Ren := ⟨fun | 169 => 32 | n => n, fun | 70 => 77 | 9 => 9 | 0 => 0 | 72 => 79 | 37 => 34 | 127 => 114 | 3 => 3 | 5 => 5 | n => n, fun | n => n⟩
theorem Tryd.lays169 : Go.Proofs.Lays.n169 Tryd.prog Tryd.lays169_ren := {
  mixed := by kernel_rfl
  f169 := Tryd.func32.trans (congrArg some (by kernel_rfl))
  t0 := Tryd.underlying0
  a0 := Tryd.isAgg0
  z0 := Tryd.sizeOf0
  v0 := Tryd.zeroValue0
  t3 := Tryd.underlying3
  a3 := Tryd.isAgg3
  z3 := Tryd.sizeOf3
  v3 := Tryd.zeroValue3
  t9 := Tryd.underlying9
  a9 := Tryd.isAgg9
  z9 := Tryd.sizeOf9
  v9 := Tryd.zeroValue9
  t37 := Tryd.underlying34
  a37 := Tryd.isAgg34
  z37 := Tryd.sizeOf34
  v37 := Tryd.zeroValue34
  t70 := Tryd.underlying77
  a70 := Tryd.isAgg77
  z70 := Tryd.sizeOf77
  v70 := Tryd.zeroValue77
  t72 := Tryd.underlying79
  a72 := Tryd.isAgg79
  z72 := Tryd.sizeOf79
  v72 := Tryd.zeroValue79
  t127 := Tryd.underlying114
  a127 := Tryd.isAgg114
  z127 := Tryd.sizeOf114
  v127 := Tryd.zeroValue114 }
theorem Tryd.Builder_Extra_169 : Builder.Extra Tryd.prog Tryd.lays169_ren := {
  sizeBuilder := by kernel_rfl
  liesBuilder := by kernel_rfl
  t5 := Tryd.underlying5
  a5 := Tryd.isAgg5
  z5 := Tryd.sizeOf5
  v5 := Tryd.zeroValue5
  infoByte := by kernel_rfl
  cellsByte := by kernel_rfl
  sizeByte := by kernel_rfl
  neB5 := by decide }
def Tryd.lays156_ren : Go.Shelf.Ren := ⟨fun | 156 => 56 | 165 => 75 | 166 => 29 | 169 => 32 | 240 => 51 | 241 => 95 | 276 => 68 | 277 => 103 | n => n, fun | 31 => 111 | 9 => 9 | 3 => 3 | 4 => 4 | 0 => 0 | 20 => 20 | 72 => 79 | 76 => 82 | 70 => 77 | 37 => 34 | 75 => 81 | 127 => 114 | 164 => 136 | 5 => 5 | 80 => 84 | n => n, fun | n => n⟩
theorem Tryd.lays156 : Go.Proofs.Lays.n156 Tryd.prog Tryd.lays156_ren := {
  mixed := by kernel_rfl
  f156 := Tryd.func56.trans (congrArg some (by kernel_rfl))
  f165 := Tryd.func75.trans (congrArg some (by kernel_rfl))
  f166 := Tryd.func29.trans (congrArg some (by kernel_rfl))
  f169 := Tryd.func32.trans (congrArg some (by kernel_rfl))
  f240 := Tryd.func51.trans (congrArg some (by kernel_rfl))
  f241 := Tryd.func95.trans (congrArg some (by kernel_rfl))
  f276 := Tryd.func68.trans (congrArg some (by kernel_rfl))
  f277 := Tryd.func103.trans (congrArg some (by kernel_rfl))
  t0 := Tryd.underlying0
  a0 := Tryd.isAgg0
  z0 := Tryd.sizeOf0
  v0 := Tryd.zeroValue0
  t3 := Tryd.underlying3
  a3 := Tryd.isAgg3
  z3 := Tryd.sizeOf3
  v3 := Tryd.zeroValue3
  t4 := Tryd.underlying4
  a4 := Tryd.isAgg4
  z4 := Tryd.sizeOf4
  v4 := Tryd.zeroValue4
  t9 := Tryd.underlying9
  a9 := Tryd.isAgg9
  z9 := Tryd.sizeOf9
  v9 := Tryd.zeroValue9
  t20 := Tryd.underlying20
  a20 := Tryd.isAgg20
  z20 := Tryd.sizeOf20
  v20 := Tryd.zeroValue20
  t31 := Tryd.underlying111
  a31 := Tryd.isAgg111
  z31 := Tryd.sizeOf111
  v31 := Tryd.zeroValue111
  t37 := Tryd.underlying34
  a37 := Tryd.isAgg34
  z37 := Tryd.sizeOf34
  v37 := Tryd.zeroValue34
  t70 := Tryd.underlying77
  a70 := Tryd.isAgg77
  z70 := Tryd.sizeOf77
  v70 := Tryd.zeroValue77
  t72 := Tryd.underlying79
  a72 := Tryd.isAgg79
  z72 := Tryd.sizeOf79
  v72 := Tryd.zeroValue79
  t75 := Tryd.underlying81
  a75 := Tryd.isAgg81
  z75 := Tryd.sizeOf81
  v75 := Tryd.zeroValue81
  t76 := Tryd.underlying82
  a76 := Tryd.isAgg82
  z76 := Tryd.sizeOf82
  v76 := Tryd.zeroValue82
  t127 := Tryd.underlying114
  a127 := Tryd.isAgg114
  z127 := Tryd.sizeOf114
  v127 := Tryd.zeroValue114
  t164 := Tryd.underlying136
  a164 := Tryd.isAgg136
  z164 := Tryd.sizeOf136
  v164 := Tryd.zeroValue136 }
theorem Tryd.Builder_Extra_156 : Builder.Extra Tryd.prog Tryd.lays156_ren := {
  sizeBuilder := by kernel_rfl
  liesBuilder := by kernel_rfl
  t5 := Tryd.underlying5
  a5 := Tryd.isAgg5
  z5 := Tryd.sizeOf5
  v5 := Tryd.zeroValue5
  infoByte := by kernel_rfl
  cellsByte := by kernel_rfl
  sizeByte := by kernel_rfl
  neB5 := by decide }
open Go.RowKit in
/-- No element: the empty string; the world is as it was. (Whatever the slice's address and capacity: a nil slice too.) (LAID: no walk: one application.) -/
theorem Tryd.strings_Join_none (a : Option Addr) (c : Nat) (sep : ByteArray) (w : World) :
    Calls Tryd.prog 56 #[.slice a 0 c, .string sep] w fun e w' => e = .returned (.string ⟨#[]⟩) ∧ w' = w := Any.strings_Join_none Tryd.lays156 Tryd.Builder_Extra_156 a c sep w
open Go.RowKit in
/-- strings.Join: "Join concatenates the elements of its first argument to create a single string. The separator string sep is placed between elements in the resulting string.": HOWEVER MANY ELEMENTS. Below the heap's end the world is as it was. (LAID: no walk: one application.) -/
theorem Tryd.strings_Join (bk o c : Nat) (xs : List ByteArray) (sep : ByteArray) (w : World) (hcells : ∀ (j : Nat) x, xs[j]? = some x → w.cell? ⟨bk, o + j, none⟩ = some (.string x)) (hbk : bk < w.heap.size) (hN : xs.length ≤ 140737488355328) (hcap : xs.length ≤ c) (hlen : (Lib.join (xs.map (·.data.toList)) sep.data.toList).length ≤ 140737488355328) :
    Calls Tryd.prog 56 #[.slice (some ⟨bk, o, none⟩) xs.length c, .string sep] w fun e w' => e = .returned (.string ⟨(Lib.join (xs.map (·.data.toList)) sep.data.toList).toArray⟩) ∧ Below w.heap.size w w' := Any.strings_Join Tryd.lays156 Tryd.Builder_Extra_156 bk o c xs sep w hcells hbk hN hcap hlen
open Go.RowKit in
/-- (*strings.Builder).String: "String returns the accumulated string.": WHATEVER THE BUILDER HOLDS; THE FORM '_k': OVER 'Lib.IsBuilderF' (a builder that 'String()' may have read), AND WITH THE FRAME THAT REACHES ABOVE THE BUILDER: 'Lib.OthersKept': every block that is not b and is no row of uint8's stands as it stood: the iterator of a range among them. (LAID: no walk: one application.) -/
theorem Tryd.Builder_String_any_k (B b : Nat) (l : List UInt8) (w : World) (h : Lib.IsBuilderF 79 5 B b (Lib.byteCells l) w) (hBw : B ≤ w.heap.size) :
    Calls Tryd.prog 32 #[.pointer (some ⟨b, 0, none⟩)] w fun e w' => e = .returned (.string ⟨l.toArray⟩) ∧ (Lib.IsBuilderF 79 5 B b (Lib.byteCells l) w' ∧ Below B w w' ∧ Lib.OthersKept 5 (some b) w w') := Any.Builder_String_any_k Tryd.lays169 Tryd.Builder_Extra_169 B b l w h hBw
def Tryd.laysM173_ren : Go.Shelf.Ren := ⟨fun | 173 => 52 | 246 => 69 | 283 => 90 | 284 => 91 | 285 => 92 | 286 => 93 | 129 => 99 | 317 => 98 | 318 => 100 | 319 => 101 | 320 => 102 | 337 => 106 | 338 => 107 | n => n, fun | 2 => 2 | 3 => 3 | 9 => 9 | 4 => 4 | 171 => 153 | 0 => 0 | 53 => 87 | 37 => 34 | 5 => 5 | 173 => 156 | 212 => 164 | 51 => 165 | 20 => 20 | 213 => 166 | 46 => 116 | 232 => 174 | 233 => 175 | n => n, fun | 17 => 0 | 18 => 2 | 19 => 3 | n => n⟩
theorem Tryd.laysM173 : Go.Proofs.LaysM.n173 Tryd.prog Tryd.laysM173_ren := {
  mixed := by kernel_rfl
  f129 := Tryd.func99.trans (congrArg some (by kernel_rfl))
  f173 := Tryd.func52.trans (congrArg some (by kernel_rfl))
  f246 := Tryd.func69.trans (congrArg some (by kernel_rfl))
  f283 := Tryd.func90.trans (congrArg some (by kernel_rfl))
  f284 := Tryd.func91.trans (congrArg some (by kernel_rfl))
  f285 := Tryd.func92.trans (congrArg some (by kernel_rfl))
  f286 := Tryd.func93.trans (congrArg some (by kernel_rfl))
  f317 := Tryd.func98.trans (congrArg some (by kernel_rfl))
  f318 := Tryd.func100.trans (congrArg some (by kernel_rfl))
  f319 := Tryd.func101.trans (congrArg some (by kernel_rfl))
  f320 := Tryd.func102.trans (congrArg some (by kernel_rfl))
  f337 := Tryd.func106.trans (congrArg some (by kernel_rfl))
  f338 := Tryd.func107.trans (congrArg some (by kernel_rfl))
  t0 := Tryd.underlying0
  a0 := Tryd.isAgg0
  z0 := Tryd.sizeOf0
  v0 := Tryd.zeroValue0
  t2 := Tryd.underlying2
  a2 := Tryd.isAgg2
  z2 := Tryd.sizeOf2
  v2 := Tryd.zeroValue2
  t3 := Tryd.underlying3
  a3 := Tryd.isAgg3
  z3 := Tryd.sizeOf3
  v3 := Tryd.zeroValue3
  t4 := Tryd.underlying4
  a4 := Tryd.isAgg4
  z4 := Tryd.sizeOf4
  v4 := Tryd.zeroValue4
  t5 := Tryd.underlying5
  a5 := Tryd.isAgg5
  z5 := Tryd.sizeOf5
  v5 := Tryd.zeroValue5
  t9 := Tryd.underlying9
  a9 := Tryd.isAgg9
  z9 := Tryd.sizeOf9
  v9 := Tryd.zeroValue9
  t20 := Tryd.underlying20
  a20 := Tryd.isAgg20
  z20 := Tryd.sizeOf20
  v20 := Tryd.zeroValue20
  t37 := Tryd.underlying34
  a37 := Tryd.isAgg34
  z37 := Tryd.sizeOf34
  v37 := Tryd.zeroValue34
  t46 := Tryd.underlying116
  a46 := Tryd.isAgg116
  z46 := Tryd.sizeOf116
  v46 := Tryd.zeroValue116
  t51 := Tryd.underlying165
  a51 := Tryd.isAgg165
  z51 := Tryd.sizeOf165
  v51 := Tryd.zeroValue165
  t53 := Tryd.underlying87
  a53 := Tryd.isAgg87
  z53 := Tryd.sizeOf87
  v53 := Tryd.zeroValue87
  t171 := Tryd.underlying153
  a171 := Tryd.isAgg153
  z171 := Tryd.sizeOf153
  v171 := Tryd.zeroValue153
  t173 := Tryd.underlying156
  a173 := Tryd.isAgg156
  z173 := Tryd.sizeOf156
  v173 := Tryd.zeroValue156
  t212 := Tryd.underlying164
  a212 := Tryd.isAgg164
  z212 := Tryd.sizeOf164
  v212 := Tryd.zeroValue164
  t213 := Tryd.underlying166
  a213 := Tryd.isAgg166
  z213 := Tryd.sizeOf166
  t232 := Tryd.underlying174
  a232 := Tryd.isAgg174
  z232 := Tryd.sizeOf174
  v232 := Tryd.zeroValue174
  t233 := Tryd.underlying175
  a233 := Tryd.isAgg175
  z233 := Tryd.sizeOf175
  v233 := Tryd.zeroValue175
  g17 := by kernel_rfl
  g18 := by kernel_rfl
  g19 := by kernel_rfl
  i0 := by kernel_rfl
  i2 := by kernel_rfl
  i3 := by kernel_rfl
  i4 := by kernel_rfl
  i5 := by kernel_rfl
  i9 := by kernel_rfl
  i20 := by kernel_rfl
  i37 := by kernel_rfl
  i46 := by kernel_rfl
  i51 := by kernel_rfl
  i53 := by kernel_rfl
  i171 := by kernel_rfl
  i173 := by kernel_rfl
  i212 := by kernel_rfl
  i232 := by kernel_rfl
  i233 := by kernel_rfl
  m17 := by kernel_rfl
  m18 := by kernel_rfl
  m19 := by kernel_rfl }
open Go.RowKit Go.Sort Go.Lib in
/-- strconv.FormatInt: "FormatInt returns the string representation of i in the given base": AT BASE 10: i's decimal numeral, for every int64. (LAID: no walk: one application.) -/
theorem Tryd.strconv_FormatInt_10 (n : Int) (h0 : -9223372036854775808 ≤ n) (h1 : n ≤ 9223372036854775807) (w : World) (htab : Lib.TabIs Tryd.prog w "internal/strconv.uint64pow10" .u64 Lib.pow10Tab) :
    Calls Tryd.prog 52 #[.int .i64 n, .int .i64 10] w fun e w' => e = .returned (.string ⟨(Lib.itoa n).toArray⟩) ∧ ∃ k os, w' = grow (w.drewN k) os := Any.strconv_FormatInt_10 Tryd.laysM173 n h0 h1 w htab
def Tryd.lays173_ren : Go.Shelf.Ren := ⟨fun | 173 => 52 | 246 => 69 | 283 => 90 | 284 => 91 | 285 => 92 | 286 => 93 | 129 => 99 | 317 => 98 | 318 => 100 | 319 => 101 | 320 => 102 | 337 => 106 | 338 => 107 | n => n, fun | 2 => 2 | 3 => 3 | 9 => 9 | 4 => 4 | 171 => 153 | 0 => 0 | 53 => 87 | 37 => 34 | 5 => 5 | 173 => 156 | 212 => 164 | 51 => 165 | 20 => 20 | 213 => 166 | 46 => 116 | 232 => 174 | 233 => 175 | n => n, fun | 17 => 0 | 18 => 2 | 19 => 3 | n => n⟩
theorem Tryd.lays173 : Go.Proofs.Lays.n173 Tryd.prog Tryd.lays173_ren := {
  mixed := by kernel_rfl
  f129 := Tryd.func99.trans (congrArg some (by kernel_rfl))
  f173 := Tryd.func52.trans (congrArg some (by kernel_rfl))
  f246 := Tryd.func69.trans (congrArg some (by kernel_rfl))
  f283 := Tryd.func90.trans (congrArg some (by kernel_rfl))
  f284 := Tryd.func91.trans (congrArg some (by kernel_rfl))
  f285 := Tryd.func92.trans (congrArg some (by kernel_rfl))
  f286 := Tryd.func93.trans (congrArg some (by kernel_rfl))
  f317 := Tryd.func98.trans (congrArg some (by kernel_rfl))
  f318 := Tryd.func100.trans (congrArg some (by kernel_rfl))
  f319 := Tryd.func101.trans (congrArg some (by kernel_rfl))
  f320 := Tryd.func102.trans (congrArg some (by kernel_rfl))
  f337 := Tryd.func106.trans (congrArg some (by kernel_rfl))
  f338 := Tryd.func107.trans (congrArg some (by kernel_rfl))
  t0 := Tryd.underlying0
  a0 := Tryd.isAgg0
  z0 := Tryd.sizeOf0
  v0 := Tryd.zeroValue0
  t2 := Tryd.underlying2
  a2 := Tryd.isAgg2
  z2 := Tryd.sizeOf2
  v2 := Tryd.zeroValue2
  t3 := Tryd.underlying3
  a3 := Tryd.isAgg3
  z3 := Tryd.sizeOf3
  v3 := Tryd.zeroValue3
  t4 := Tryd.underlying4
  a4 := Tryd.isAgg4
  z4 := Tryd.sizeOf4
  v4 := Tryd.zeroValue4
  t5 := Tryd.underlying5
  a5 := Tryd.isAgg5
  z5 := Tryd.sizeOf5
  v5 := Tryd.zeroValue5
  t9 := Tryd.underlying9
  a9 := Tryd.isAgg9
  z9 := Tryd.sizeOf9
  v9 := Tryd.zeroValue9
  t20 := Tryd.underlying20
  a20 := Tryd.isAgg20
  z20 := Tryd.sizeOf20
  v20 := Tryd.zeroValue20
  t37 := Tryd.underlying34
  a37 := Tryd.isAgg34
  z37 := Tryd.sizeOf34
  v37 := Tryd.zeroValue34
  t46 := Tryd.underlying116
  a46 := Tryd.isAgg116
  z46 := Tryd.sizeOf116
  v46 := Tryd.zeroValue116
  t51 := Tryd.underlying165
  a51 := Tryd.isAgg165
  z51 := Tryd.sizeOf165
  v51 := Tryd.zeroValue165
  t53 := Tryd.underlying87
  a53 := Tryd.isAgg87
  z53 := Tryd.sizeOf87
  v53 := Tryd.zeroValue87
  t171 := Tryd.underlying153
  a171 := Tryd.isAgg153
  z171 := Tryd.sizeOf153
  v171 := Tryd.zeroValue153
  t173 := Tryd.underlying156
  a173 := Tryd.isAgg156
  z173 := Tryd.sizeOf156
  v173 := Tryd.zeroValue156
  t212 := Tryd.underlying164
  a212 := Tryd.isAgg164
  z212 := Tryd.sizeOf164
  v212 := Tryd.zeroValue164
  t213 := Tryd.underlying166
  a213 := Tryd.isAgg166
  z213 := Tryd.sizeOf166
  t232 := Tryd.underlying174
  a232 := Tryd.isAgg174
  z232 := Tryd.sizeOf174
  v232 := Tryd.zeroValue174
  t233 := Tryd.underlying175
  a233 := Tryd.isAgg175
  z233 := Tryd.sizeOf175
  v233 := Tryd.zeroValue175
  g17 := by kernel_rfl
  g18 := by kernel_rfl
  g19 := by kernel_rfl }
open Go.RowKit Go.Sort Go.Lib in
/-- THE ROAD WITHOUT THE TABLE: 0 <= i < 100. (LAID: no walk: one application.) -/
theorem Tryd.strconv_FormatInt_10_small (i : Nat) (hi : i < 100) (w : World) :
    Calls Tryd.prog 52 #[.int .i64 i, .int .i64 10] w fun e w' => e = .returned (.string ⟨(Lib.decDigits i).toArray⟩) ∧ w' = w := Any.strconv_FormatInt_10_small Tryd.lays173 i hi w
def Tryd.lays143_ren : Go.Shelf.Ren := ⟨fun | 143 => 111 | 219 => 108 | 217 => 112 | 225 => 113 | 224 => 114 | 267 => 115 | 266 => 117 | 314 => 118 | n => n, fun | 9 => 9 | 3 => 3 | 4 => 4 | 5 => 5 | 46 => 116 | 146 => 177 | 51 => 165 | n => n, fun | 1 => 1 | n => n⟩
theorem Tryd.lays143 : Go.Proofs.Lays.n143 Tryd.prog Tryd.lays143_ren := {
  mixed := by kernel_rfl
  f143 := Tryd.func111.trans (congrArg some (by kernel_rfl))
  f217 := Tryd.func112.trans (congrArg some (by kernel_rfl))
  f219 := Tryd.func108.trans (congrArg some (by kernel_rfl))
  f224 := Tryd.func114.trans (congrArg some (by kernel_rfl))
  f225 := Tryd.func113.trans (congrArg some (by kernel_rfl))
  f266 := Tryd.func117.trans (congrArg some (by kernel_rfl))
  f267 := Tryd.func115.trans (congrArg some (by kernel_rfl))
  f314 := Tryd.func118.trans (congrArg some (by kernel_rfl))
  t3 := Tryd.underlying3
  a3 := Tryd.isAgg3
  z3 := Tryd.sizeOf3
  v3 := Tryd.zeroValue3
  t4 := Tryd.underlying4
  a4 := Tryd.isAgg4
  z4 := Tryd.sizeOf4
  v4 := Tryd.zeroValue4
  t5 := Tryd.underlying5
  a5 := Tryd.isAgg5
  z5 := Tryd.sizeOf5
  v5 := Tryd.zeroValue5
  t9 := Tryd.underlying9
  a9 := Tryd.isAgg9
  z9 := Tryd.sizeOf9
  v9 := Tryd.zeroValue9
  t46 := Tryd.underlying116
  a46 := Tryd.isAgg116
  z46 := Tryd.sizeOf116
  v46 := Tryd.zeroValue116
  t51 := Tryd.underlying165
  a51 := Tryd.isAgg165
  z51 := Tryd.sizeOf165
  v51 := Tryd.zeroValue165
  t146 := Tryd.underlying177
  a146 := Tryd.isAgg177
  z146 := Tryd.sizeOf177
  v146 := Tryd.zeroValue177
  g1 := by kernel_rfl }
open Go.RowKit Go.Lib in
/-- strings.Index: "Index returns the index of the first instance of substr in s, or -1 if substr is not present in s.": AT A substr OF ONE BYTE c: IT RETURNS 'Lib.indexByte s c'; the world is as it was. (LAID: no walk: one application.) -/
theorem Tryd.strings_Index_one (s : ByteArray) (c : UInt8) (w : World) :
    Calls Tryd.prog 111 #[.string s, .string ⟨#[c]⟩] w fun e w' => e = .returned (.int .i64 (Lib.indexByte s.data.toList c)) ∧ w' = w := Any.strings_Index_one Tryd.lays143 s c w
end Go.Proofs

/-
  What writes to a text that is being built does, at this program.
-/
namespace Go.Proofs
open Go.Shelf
def Tryd.buildRen : Go.Shelf.Ren := ⟨fun | 166 => 29 | 167 => 74 | 240 => 51 | 276 => 68 | n => n, fun | 0 => 0 | 3 => 3 | 4 => 4 | 5 => 5 | 9 => 9 | 20 => 20 | 37 => 34 | 70 => 77 | 72 => 79 | 75 => 81 | 80 => 84 | 164 => 136 | n => n, fun | n => n⟩
theorem Tryd.buildLays167 : Go.Proofs.Lays.n167 Tryd.prog Tryd.buildRen := {
  mixed := by kernel_rfl
  f167 := Tryd.func74.trans (congrArg some (by kernel_rfl))
  f240 := Tryd.func51.trans (congrArg some (by kernel_rfl))
  f276 := Tryd.func68.trans (congrArg some (by kernel_rfl))
  t0 := Tryd.underlying0
  a0 := Tryd.isAgg0
  z0 := Tryd.sizeOf0
  v0 := Tryd.zeroValue0
  t4 := Tryd.underlying4
  a4 := Tryd.isAgg4
  z4 := Tryd.sizeOf4
  v4 := Tryd.zeroValue4
  t5 := Tryd.underlying5
  a5 := Tryd.isAgg5
  z5 := Tryd.sizeOf5
  v5 := Tryd.zeroValue5
  t9 := Tryd.underlying9
  a9 := Tryd.isAgg9
  z9 := Tryd.sizeOf9
  v9 := Tryd.zeroValue9
  t20 := Tryd.underlying20
  a20 := Tryd.isAgg20
  z20 := Tryd.sizeOf20
  v20 := Tryd.zeroValue20
  t37 := Tryd.underlying34
  a37 := Tryd.isAgg34
  z37 := Tryd.sizeOf34
  v37 := Tryd.zeroValue34
  t70 := Tryd.underlying77
  a70 := Tryd.isAgg77
  z70 := Tryd.sizeOf77
  v70 := Tryd.zeroValue77
  t72 := Tryd.underlying79
  a72 := Tryd.isAgg79
  z72 := Tryd.sizeOf79
  v72 := Tryd.zeroValue79
  t75 := Tryd.underlying81
  a75 := Tryd.isAgg81
  z75 := Tryd.sizeOf81
  v75 := Tryd.zeroValue81
  t164 := Tryd.underlying136
  a164 := Tryd.isAgg136
  z164 := Tryd.sizeOf136
  v164 := Tryd.zeroValue136 }
theorem Tryd.buildLays166 : Go.Proofs.Lays.n166 Tryd.prog Tryd.buildRen := {
  mixed := by kernel_rfl
  f166 := Tryd.func29.trans (congrArg some (by kernel_rfl))
  f240 := Tryd.func51.trans (congrArg some (by kernel_rfl))
  f276 := Tryd.func68.trans (congrArg some (by kernel_rfl))
  t0 := Tryd.underlying0
  a0 := Tryd.isAgg0
  z0 := Tryd.sizeOf0
  v0 := Tryd.zeroValue0
  t3 := Tryd.underlying3
  a3 := Tryd.isAgg3
  z3 := Tryd.sizeOf3
  v3 := Tryd.zeroValue3
  t4 := Tryd.underlying4
  a4 := Tryd.isAgg4
  z4 := Tryd.sizeOf4
  v4 := Tryd.zeroValue4
  t9 := Tryd.underlying9
  a9 := Tryd.isAgg9
  z9 := Tryd.sizeOf9
  v9 := Tryd.zeroValue9
  t20 := Tryd.underlying20
  a20 := Tryd.isAgg20
  z20 := Tryd.sizeOf20
  v20 := Tryd.zeroValue20
  t37 := Tryd.underlying34
  a37 := Tryd.isAgg34
  z37 := Tryd.sizeOf34
  v37 := Tryd.zeroValue34
  t70 := Tryd.underlying77
  a70 := Tryd.isAgg77
  z70 := Tryd.sizeOf77
  v70 := Tryd.zeroValue77
  t72 := Tryd.underlying79
  a72 := Tryd.isAgg79
  z72 := Tryd.sizeOf79
  v72 := Tryd.zeroValue79
  t75 := Tryd.underlying81
  a75 := Tryd.isAgg81
  z75 := Tryd.sizeOf81
  v75 := Tryd.zeroValue81
  t164 := Tryd.underlying136
  a164 := Tryd.isAgg136
  z164 := Tryd.sizeOf136
  v164 := Tryd.zeroValue136 }
theorem Tryd.buildExtra : Builder.Extra Tryd.prog Tryd.buildRen := {
  sizeBuilder := by kernel_rfl
  liesBuilder := by kernel_rfl
  t5 := Tryd.underlying5
  a5 := Tryd.isAgg5
  z5 := Tryd.sizeOf5
  v5 := Tryd.zeroValue5
  infoByte := by kernel_rfl
  cellsByte := by kernel_rfl
  sizeByte := by kernel_rfl
  neB5 := by decide }
end Go.Proofs

/-
  The walk over a pair, as the program finds it.
-/
namespace Go.Proofs.YtlpffgmfgkleiaaDoor
open Go.RowKit Go.Maps

theorem indexByte_spec (c : UInt8) : ∀ l : List UInt8, (Lib.indexByte l c = -1 ∧ ∀ (j : Nat) (b : UInt8), l[j]? = some b → b ≠ c) ∨ ∃ i : Nat, Lib.indexByte l c = i ∧ l[i]? = some c ∧ ∀ (j : Nat) (b : UInt8), j < i → l[j]? = some b → b ≠ c
  | [] => .inl ⟨rfl, fun j b h => by simp at h⟩
  | x :: l => by
    by_cases hx : x = c
    · right
      refine ⟨0, ?_, by simp [hx], fun j b h => absurd h (Nat.not_lt_zero _)⟩
      rw [Lib.indexByte, if_pos (by rw [hx]; simp)]
      rfl
    · have hne : (x == c) = false := by rw [beq_eq_false_iff_ne]; exact hx
      rcases indexByte_spec c l with ⟨h1, h2⟩ | ⟨i, h1, h2, h3⟩
      · left
        refine ⟨?_, fun j b h => ?_⟩
        · rw [Lib.indexByte, hne, h1]; rfl
        · cases j with
          | zero => simp at h; rw [← h]; exact hx
          | succ j => exact h2 j b (by simpa using h)
      · right
        refine ⟨i + 1, ?_, by simpa using h2, fun j b hj h => ?_⟩
        · rw [Lib.indexByte, hne, h1]
          simp
        · cases j with
          | zero => simp at h; rw [← h]; exact hx
          | succ j => exact h3 j b (by omega) (by simpa using h)
theorem byteAt_list (s : ByteArray) (j : Nat) (h : j < s.size) : ∃ b, s.data.toList[j]? = some b ∧ b.toNat = byteAt s j := by
  refine ⟨s[j], ?_, (byteAt_in s h).2.symm⟩
  have : j < s.data.size := h
  rw [Array.getElem?_toList, Array.getElem?_eq_getElem this]
  rfl
theorem index_spec (s : ByteArray) (c : UInt8) : (NoByte s c.toNat ∧ Lib.indexByte s.data.toList c = -1) ∨ ∃ i, FirstByte s c.toNat i ∧ Lib.indexByte s.data.toList c = (i : Int) := by
  have key : ∀ (j : Nat) (b : UInt8), s.data.toList[j]? = some b → b ≠ c → byteAt s j ≠ c.toNat := fun j b h hne e => by
    have hj : j < s.size := by
      have := (List.getElem?_eq_some_iff.1 h).1
      simpa using this
    obtain ⟨b', h1, h2⟩ := byteAt_list s j hj
    rw [h] at h1
    cases h1
    exact hne (UInt8.toNat_inj.1 (h2.trans e))
  rcases indexByte_spec c s.data.toList with ⟨h1, h2⟩ | ⟨i, h1, h2, h3⟩
  · left
    refine ⟨fun j hj => ?_, h1⟩
    obtain ⟨b, hb, _⟩ := byteAt_list s j hj
    exact key j b hb (h2 j b hb)
  · right
    have hi : i < s.size := by
      have := (List.getElem?_eq_some_iff.1 h2).1
      simpa using this
    refine ⟨i, ⟨hi, ?_, fun j hj => ?_⟩, h1⟩
    · obtain ⟨b, hb, e⟩ := byteAt_list s i hi
      rw [h2] at hb
      cases hb
      exact e.symm
    · obtain ⟨b, hb, _⟩ := byteAt_list s j (by omega)
      exact key j b hb (h3 j b hj hb)
theorem index_any (s : ByteArray) (c : UInt8) (w : World) : Calls Tryd.prog 108 #[.string s, .string ⟨#[c]⟩] w fun e w' => e = .returned (.int .i64 (Lib.indexByte s.data.toList c)) ∧ w' = w :=
  Any.stringslite_Index_one { Tryd.lays143 with } s c w
/-- What a cut gives. -/
def CutIs (s : ByteArray) (x y : ByteArray) (b : Bool) : Prop :=
  (NoByte s 61 ∧ x = s ∧ y = ⟨#[]⟩ ∧ b = false) ∨ ∃ i, FirstByte s 61 i ∧ x = s.extract 0 i ∧ y = s.extract (i + 1) s.size ∧ b = true
set_option maxRecDepth 100000 in
set_option maxHeartbeats 2000000 in
theorem cut_any (s : ByteArray) (hs : (s.size : Int) ≤ 9223372036854775807) (w : World) : Calls Tryd.prog 104 #[.string s, .string ⟨#[61]⟩] w fun e w' => ∃ x y b, e = .returned (.tuple #[.string x, .string y, .bool b]) ∧ CutIs s x y b ∧ Below w.heap.size w w' := by
  have C := Lib.hid (index_any s 61 w)
  rcases index_spec s 61 with ⟨hno, hi⟩ | ⟨i, hf, hi⟩
  · rw [hi] at C
    go_enter Tryd.func104, Tryd.ntmps104
    go_wp2_with (go_at_call 108; (refine C.out.mono ?_); rintro e w' ⟨rfl, rfl⟩)
    exact bodyPost_ret (v := .tuple #[.string s, .string ⟨#[]⟩, .bool false]) (by simp [results, Tryd.results104, go_sem]) rfl ⟨_, _, _, rfl, .inl ⟨hno, rfl, rfl, rfl⟩, Below.refl _ _⟩
  · rw [hi] at C
    have hlt := hf.1
    have h0 : (0 : Int) ≤ (i : Int) := by omega
    have h1 : (i : Int) ≤ (s.size : Int) := by omega
    have h2 : (i : Int) + 1 ≤ (s.size : Int) := by omega
    have h3 : (0 : Int) ≤ (i : Int) + 1 := by omega
    have hw : IntKind.i64.wrap ((i : Int) + 1) = (i : Int) + 1 := IntWalk.i64_in _ (by omega)
    have e1 : ((i : Int) + 1).toNat = i + 1 := by omega
    have HF := Lib.hid hf
    clear hf hlt hi
    go_enter Tryd.func104, Tryd.ntmps104
    go_wp2_with (go_at_call 108; (refine C.out.mono ?_); rintro e w' ⟨rfl, rfl⟩)
    go_quiet (fail)
    go_wp2
    exact bodyPost_ret (v := .tuple #[.string (s.extract 0 i), .string (s.extract (i + 1) s.size), .bool true]) (by simp [results, Tryd.results104, go_sem, e1]) rfl ⟨_, _, _, rfl, .inr ⟨i, HF.out, rfl, rfl, rfl⟩, below_same (Below.refl _ _) rfl rfl rfl rfl⟩
set_option maxRecDepth 100000 in
set_option maxHeartbeats 2000000 in
theorem scut_any (s : ByteArray) (hs : (s.size : Int) ≤ 9223372036854775807) (w : World) : Calls Tryd.prog 96 #[.string s, .string ⟨#[61]⟩] w fun e w' => ∃ x y b, e = .returned (.tuple #[.string x, .string y, .bool b]) ∧ CutIs s x y b ∧ Below w.heap.size w w' := by
  have C := Lib.hid (cut_any s hs w)
  go_enter Tryd.func96, Tryd.ntmps96
  go_wp2_with (go_at_call 104; (refine C.out.mono ?_); rintro e w' ⟨x, y, b, rfl, hc, hb⟩)
  exact bodyPost_ret (v := .tuple #[.string x, .string y, .bool b]) (by simp [results, Tryd.results96, go_sem]) rfl ⟨_, _, _, rfl, hc, hb⟩
/-- A pair that comes back from the program. -/
def PairTup (s : ByteArray) (w : World) (e : Ending) (w' : World) : Prop := ∃ x y b, e = .returned (.tuple #[.string x, .string y, .bool b]) ∧ PairIs s x y b ∧ Below w.heap.size w w'
set_option maxRecDepth 100000 in
set_option maxHeartbeats 2000000 in
theorem pair_any (s : ByteArray) (hs : (s.size : Int) ≤ 9223372036854775807) (w : World) : Calls Tryd.prog 84 #[.string s] w (PairTup s w) := by
  have C := Lib.hid (scut_any s hs w)
  go_enter Tryd.func84, Tryd.ntmps84
  go_upto_region 2 with (go_at_call 96; (refine C.out.mono ?_); rintro e w' ⟨x, y, b, rfl, hc, hb⟩)
  rcases hc with ⟨hno, rfl, rfl, rfl⟩ | ⟨i, hf, rfl, rfl, rfl⟩
  · go_wp2
    exact bodyPost_ret (v := .tuple #[.string ⟨#[]⟩, .string ⟨#[]⟩, .bool false]) (by simp [results, Tryd.results84, go_sem]) rfl ⟨_, _, _, rfl, .inl ⟨hno, rfl, rfl, rfl⟩, hb⟩
  · have HF := Lib.hid hf
    clear hf
    go_wp2
    exact bodyPost_ret (v := .tuple #[.string (s.extract 0 i), .string (s.extract (i + 1) s.size), .bool true]) (by simp [results, Tryd.results84, go_sem]) rfl ⟨_, _, _, rfl, .inr ⟨i, HF.out, rfl, rfl, rfl⟩, hb⟩
end Go.Proofs.YtlpffgmfgkleiaaDoor
