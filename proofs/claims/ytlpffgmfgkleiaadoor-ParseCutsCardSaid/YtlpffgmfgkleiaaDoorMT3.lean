/- Texts of this claim, put together: YDef, LW5, LW6, YMem, YAs, LSeq, LPcs, Shelf, LShelf2, LPair, LDec, LNo, LSplit, LNums. -/
import Derived.Test.YtlpffgmfgkleiaaDoorProg
import Derived.Test.YtlpffgmfgkleiaaDoorMT2
import Derived.Recover
import Derived.Tactics2
import Derived.RangeFuncNested
import Derived.RangeFuncBound
import Derived.RangeFuncCalls
import Derived.RangeFuncLeaves
import Derived.RangeFuncBox
import Derived.Shelf.Strings.Builder1
import Derived.Shelf.Strings.Builder2
import Derived.Shelf.Strings.OnBuilder
import Derived.Shelf.Strings.BuilderF
import Derived.Shelf.Strings.BuilderK
import Derived.Shelf.Strconv.Itoa0
import Derived.Shelf.Strconv.Itoa1
import Derived.Shelf.LaysM
import Derived.Shelf.Strconv.Itoa2
import Derived.Shelf.Strconv.Itoa3
import Derived.Shelf.Strconv.Itoa4
import Derived.Shelf.Strings.Search1
import Derived.Shelf.Strings.Search2
import Derived.Shelf.Strings.Search3
import Derived.Shelf.Strings.Cut
import Derived.Shelf.Strings.Shaped
import Derived.Shelf.Unicode.DecodeSlow
import Derived.Lib.DecodeN
import Derived.Laws.RangeAny
import Derived.Lib.OthersKept
import Derived.Shelf.Abstract
import Derived.Shelf.RegionOpen
import Derived.OwnWalkIn
import Derived.TacticsInMore
import Derived.LoopNIn
import Derived.LoopIn
set_option linter.unusedVariables false
set_option linter.unusedSimpArgs false

/-
  What a row of words, and a text, say: in plain words.
-/
namespace Go.Proofs.YtlpffgmfgkleiaaDoor
open Go.RowKit Go.Maps

/-! ### a row of words -/
/-- The word at a place. -/
def wordAt (W : List WV) (i : Nat) : Option ByteArray := (W[i]?).map WV.tx
def endOf (x : WV) : Int := wrap64 (x.at_ + (x.tx.size : Int))
/-- Where the word ahead of a place ends. -/
def endAt (W : List WV) : Nat → Int
  | 0 => 0
  | k + 1 => match W[k]? with
    | some x => endOf x
    | none => 0
/-- Where a place is wrong. -/
def placeAt (W : List WV) (i : Nat) : Int := match W[i]? with
  | some x => x.at_
  | none => endAt W W.length
theorem wordAt_some {W : List WV} {i : Nat} {x : WV} (h : W[i]? = some x) : wordAt W i = some x.tx := by unfold wordAt; rw [h]; rfl
theorem wordAt_none {W : List WV} {i : Nat} (h : W.length ≤ i) : wordAt W i = none := by unfold wordAt; rw [List.getElem?_eq_none h]; rfl
theorem placeAt_some {W : List WV} {i : Nat} {x : WV} (h : W[i]? = some x) : placeAt W i = x.at_ := by unfold placeAt; rw [h]
theorem placeAt_none {W : List WV} {i : Nat} (h : W.length ≤ i) : placeAt W i = endAt W W.length := by unfold placeAt; rw [List.getElem?_eq_none h]
theorem endAt_succ {W : List WV} {i : Nat} {x : WV} (h : W[i]? = some x) : endAt W (i + 1) = endOf x := by rw [endAt, h]

/-! ### names and what stands behind them -/
def eqFrom (s : ByteArray) : Nat → Nat → Option Nat
  | 0, _ => none
  | k + 1, i => if byteAt s i = 61 then some i else eqFrom s k (i + 1)
/-- What stands ahead of the first '=', and behind it. -/
def pairOf (s : ByteArray) : Option (ByteArray × ByteArray) := (eqFrom s s.size 0).map fun i => (s.extract 0 i, s.extract (i + 1) s.size)
theorem eqFrom_none (s : ByteArray) : ∀ (k i : Nat), (∀ j, i ≤ j → j < i + k → byteAt s j ≠ 61) → eqFrom s k i = none
  | 0, _, _ => rfl
  | k + 1, i, h => by
    rw [eqFrom, if_neg (h i (Nat.le_refl _) (by omega))]
    exact eqFrom_none s k (i + 1) (fun j h1 h2 => h j (by omega) (by omega))
theorem eqFrom_some (s : ByteArray) {p : Nat} (hp : byteAt s p = 61) : ∀ (k i : Nat), i ≤ p → p < i + k → (∀ j, i ≤ j → j < p → byteAt s j ≠ 61) → eqFrom s k i = some p
  | 0, i, h1, h2, _ => by omega
  | k + 1, i, h1, h2, h => by
    by_cases e : i = p
    · subst e; rw [eqFrom, if_pos hp]
    · rw [eqFrom, if_neg (h i (Nat.le_refl _) (by omega))]
      exact eqFrom_some s hp k (i + 1) (by omega) (by omega) (fun j q1 q2 => h j (by omega) q2)
theorem pairOf_is {s x y : ByteArray} {b : Bool} (h : PairIs s x y b) : (b = false ∧ x = ⟨#[]⟩ ∧ y = ⟨#[]⟩ ∧ pairOf s = none) ∨ (b = true ∧ pairOf s = some (x, y)) := by
  rcases h with ⟨hno, rfl, rfl, rfl⟩ | ⟨i, ⟨h1, h2, h3⟩, rfl, rfl, rfl⟩
  · refine .inl ⟨rfl, rfl, rfl, ?_⟩
    unfold pairOf
    rw [eqFrom_none s s.size 0 (fun j _ q => hno j (by omega))]
    rfl
  · refine .inr ⟨rfl, ?_⟩
    unfold pairOf
    rw [eqFrom_some s h2 s.size 0 (Nat.zero_le _) (by omega) (fun j _ q => h3 j q)]
    rfl
/-- What stands behind that name. -/
def namedV (s name : ByteArray) : Option ByteArray := match pairOf s with
  | some (x, y) => if x = name then some y else none
  | none => none
theorem namedV_size {s name v : ByteArray} (h : namedV s name = some v) : v.size ≤ s.size := by
  unfold namedV at h
  split at h
  · rename_i x y he
    split at h
    · cases h
      unfold pairOf at he
      cases hq : eqFrom s s.size 0 with
      | none => rw [hq] at he; cases he
      | some i =>
        rw [hq] at he
        simp only [Option.map_some, Option.some.injEq, Prod.mk.injEq] at he
        rw [← he.2, ByteArray.size_extract]; omega
    · cases h
  · cases h
theorem wordAt_size {W : List WV} {N : Nat} (h : ∀ x ∈ W, x.tx.size ≤ N) {i : Nat} {s : ByteArray} (hs : wordAt W i = some s) : s.size ≤ N := by
  unfold wordAt at hs
  obtain ⟨x, hx, rfl⟩ := Option.map_eq_some_iff.1 hs
  exact h x (List.mem_of_getElem? hx)
/-- What stands behind a name, at a place. -/
def valAt (W : List WV) (i : Nat) (name : ByteArray) : Option ByteArray := (wordAt W i).bind fun s => namedV s name
def numAt (W : List WV) (i : Nat) (name : ByteArray) (most : Int) : Option Nat := (valAt W i name).bind fun v => numOf v most
def numsAt (W : List WV) (i : Nat) (name : ByteArray) (most : Int) : Option (List Int) := (valAt W i name).bind fun v => numsOf v most
theorem numOf_le {s : ByteArray} {most : Int} {n : Nat} (h : numOf s most = some n) : (n : Int) ≤ most := by
  unfold numOf at h
  split at h
  · cases h
  · split at h
    · cases h
    · split at h
      · cases h
      · cases h; omega
theorem numOf_small {s : ByteArray} {most : Int} {n : Nat} (h : numOf s most = some n) : (n : Int) ≤ 9223372036854775807 := by
  unfold numOf at h
  split at h
  · cases h
  · split at h
    · cases h
    · rename_i m hm
      split at h
      · cases h
      · have hq := nrun_small s s.size m hm
        simp only [Option.some.injEq] at h
        omega

/-! ### a task's words -/
abbrev bTask : ByteArray := ⟨#[116, 97, 115, 107]⟩
abbrev bCache : ByteArray := ⟨#[99, 97, 99, 104, 101]⟩
abbrev bC : ByteArray := ⟨#[99]⟩
abbrev bD : ByteArray := ⟨#[100]⟩
abbrev bT : ByteArray := ⟨#[116]⟩
abbrev bP : ByteArray := ⟨#[112]⟩
abbrev bChunks : ByteArray := ⟨#[99, 104, 117, 110, 107, 115]⟩
abbrev bUse : ByteArray := ⟨#[117, 115, 101]⟩
def nameK : Nat → ByteArray
  | 0 => bC
  | 1 => bD
  | 2 => bT
  | _ => bP
def mostK (k : Nat) : Int := if k = 3 then 99 else 1073741824
def numK (W : List WV) (k : Nat) : Option Nat := numAt W (2 + k) (nameK k) (mostK k)
def idOf (W : List WV) : Option Nat := (wordAt W 1).bind fun s => numOf s 99
/-- The chunks and the used sets, with the place behind them. -/
def chAt (W : List WV) : Option (List Int) := numsAt W 6 bChunks 1073741824
def plus1 (W : List WV) : Nat := if (chAt W).isSome then 7 else 6
def usAt (W : List WV) : Option (List Int) := numsAt W (plus1 W) bUse 255
def plus2 (W : List WV) : Nat := if (usAt W).isSome then plus1 W + 1 else plus1 W
/-- The task that a row says, or the place at which it is wrong. -/
def lineOf (W : List WV) : Except Int Tk :=
  if wordAt W 0 ≠ some bTask then .error (placeAt W 0) else
  match idOf W with
  | none => .error (placeAt W 1)
  | some id =>
    match numK W 0 with
    | none => .error (placeAt W 2)
    | some c =>
      match numK W 1 with
      | none => .error (placeAt W 3)
      | some d =>
        match numK W 2 with
        | none => .error (placeAt W 4)
        | some t =>
          match numK W 3 with
          | none => .error (placeAt W 5)
          | some p =>
            if plus2 W < W.length then .error (placeAt W (plus2 W)) else
            .ok ⟨id, c, d, t, p, (chAt W).getD [], (usAt W).getD []⟩
theorem line_first {W : List WV} (h : wordAt W 0 ≠ some bTask) : lineOf W = .error (placeAt W 0) := by unfold lineOf; rw [if_pos h]
theorem line_id {W : List WV} (h : wordAt W 0 = some bTask) (h1 : idOf W = none) : lineOf W = .error (placeAt W 1) := by unfold lineOf; rw [if_neg (fun q => q h), h1]
theorem line_bad {W : List WV} {k : Nat} (h : wordAt W 0 = some bTask) {id : Nat} (h1 : idOf W = some id) (hk : k < 4) (hs : ∀ j, j < k → ∃ n, numK W j = some n) (hn : numK W k = none) : lineOf W = .error (placeAt W (2 + k)) := by
  unfold lineOf
  rw [if_neg (fun q => q h), h1]
  simp only []
  match k, hk with
  | 0, _ => rw [hn]
  | 1, _ =>
    obtain ⟨n0, e0⟩ := hs 0 (by omega)
    rw [e0, hn]
  | 2, _ =>
    obtain ⟨n0, e0⟩ := hs 0 (by omega)
    obtain ⟨n1, e1⟩ := hs 1 (by omega)
    rw [e0, e1, hn]
  | 3, _ =>
    obtain ⟨n0, e0⟩ := hs 0 (by omega)
    obtain ⟨n1, e1⟩ := hs 1 (by omega)
    obtain ⟨n2, e2⟩ := hs 2 (by omega)
    rw [e0, e1, e2, hn]
theorem line_over {W : List WV} (h : wordAt W 0 = some bTask) {id c d t p : Nat} (h1 : idOf W = some id) (hc : numK W 0 = some c) (hd : numK W 1 = some d) (ht : numK W 2 = some t) (hp : numK W 3 = some p) (ho : plus2 W < W.length) : lineOf W = .error (placeAt W (plus2 W)) := by
  unfold lineOf
  rw [if_neg (fun q => q h), h1, hc, hd, ht, hp]
  simp only []
  rw [if_pos ho]
theorem line_ok {W : List WV} (h : wordAt W 0 = some bTask) {id c d t p : Nat} (h1 : idOf W = some id) (hc : numK W 0 = some c) (hd : numK W 1 = some d) (ht : numK W 2 = some t) (hp : numK W 3 = some p) (ho : ¬ plus2 W < W.length) : lineOf W = .ok ⟨id, c, d, t, p, (chAt W).getD [], (usAt W).getD []⟩ := by
  unfold lineOf
  rw [if_neg (fun q => q h), h1, hc, hd, ht, hp]
  simp only []
  rw [if_neg ho]
theorem numAt_lt {W : List WV} {i : Nat} {name : ByteArray} {most : Int} {n : Nat} (h : numAt W i name most = some n) : i < W.length := by
  rcases Nat.lt_or_ge i W.length with q | q
  · exact q
  · unfold numAt valAt at h; rw [wordAt_none q] at h; cases h
theorem numsAt_lt {W : List WV} {i : Nat} {name : ByteArray} {most : Int} {n : List Int} (h : numsAt W i name most = some n) : i < W.length := by
  rcases Nat.lt_or_ge i W.length with q | q
  · exact q
  · unfold numsAt valAt at h; rw [wordAt_none q] at h; cases h
theorem plus1_le {W : List WV} (h : 6 ≤ W.length) : plus1 W ≤ W.length := by
  unfold plus1
  split
  · rename_i e
    obtain ⟨l, e⟩ := Option.isSome_iff_exists.1 e
    exact numsAt_lt e
  · exact h
theorem plus2_le {W : List WV} (h : 6 ≤ W.length) : plus2 W ≤ W.length := by
  unfold plus2
  split
  · rename_i e
    obtain ⟨l, e⟩ := Option.isSome_iff_exists.1 e
    exact numsAt_lt e
  · exact plus1_le h

/-! ### a cache's words -/
def setsOf (W : List WV) : Option Nat := (wordAt W 1).bind fun s => numOf s 256
def relOf (W : List WV) : Option Nat := (wordAt W 2).bind fun s => numOf s 1000
def cacheOf (W : List WV) : Except Int (Nat × Nat) :=
  if wordAt W 0 ≠ some bCache then .error (placeAt W 0) else
  match setsOf W with
  | none => .error (placeAt W 1)
  | some s =>
    match relOf W with
    | none => .error (placeAt W 2)
    | some r => if 3 < W.length then .error (placeAt W 3) else .ok (s, r)

/-! ### a text -/
def Tk.tv (t : Tk) : TV := ⟨t.id, t.c, t.d, t.t, t.p, none, t.ch, t.ch.length, none, t.us, t.us.length⟩
theorem first_tk (s : Int) : ∀ (L : List TV) (last : Int) (seen : List Int), firstOf s last seen L = firstOf s last seen ((L.map TV.tk).map Tk.tv)
  | [], _, _ => rfl
  | x :: L, last, seen => by
    rw [List.map_cons, List.map_cons, firstOf, firstOf, first_tk s L x.id (x.p :: seen)]
    rfl
/-- What is wrong with a system, by what its tasks are meant to be. -/
def checkT (s r : Int) (l : List Tk) : Int := checkOf s r (l.map Tk.tv)
theorem check_tk (s r : Int) (L : List TV) : checkOf s r L = checkT s r (L.map TV.tk) := by
  unfold checkT checkOf sysBad
  rw [← first_tk]
  simp only [List.length_map]
def tailOf (S R : Int) (acc : List Tk) : List (List WV) → Except (Int × Int) (List Tk)
  | [] => .ok acc
  | W :: rest => match lineOf W with
    | .error p => .error (p, 10)
    | .ok t => if checkT S R (acc ++ [t]) = 0 then tailOf S R (acc ++ [t]) rest else .error (placeAt W 0, checkT S R (acc ++ [t]))
/-- The system that a text says, or the place and the error of what is wrong. -/
def parseOf (s : ByteArray) : Except (Int × Int) (Nat × Nat × List Tk) := match linesOf s with
  | [] => .error (s.size, 10)
  | W :: rest => match cacheOf W with
    | .error p => .error (p, 10)
    | .ok (S, R) => match tailOf S R [] rest with
      | .error q => .error q
      | .ok [] => .error (s.size, 1)
      | .ok l => .ok (S, R, l)
end Go.Proofs.YtlpffgmfgkleiaaDoor

/-
  The walks over digits.
-/
namespace Go.Proofs.YtlpffgmfgkleiaaDoor
open Go.RowKit Go.Maps

/-- The digits of a number. -/
def upOf (n : Nat) : ByteArray := if n < 10 then ⟨#[UInt8.ofNat (48 + n)]⟩ else upOf (n / 10) ++ ⟨#[UInt8.ofNat (48 + n % 10)]⟩
theorem upOf_small {n : Nat} (h : n < 10) : upOf n = ⟨#[UInt8.ofNat (48 + n)]⟩ := by rw [upOf, if_pos h]
theorem upOf_more {n : Nat} (h : ¬ n < 10) : upOf n = upOf (n / 10) ++ ⟨#[UInt8.ofNat (48 + n % 10)]⟩ := by rw [upOf, if_neg h]
theorem upOf_size : ∀ (k n : Nat), n < 10 ^ k → (upOf n).size ≤ k ∨ (upOf n).size ≤ 1
  | 0, n, h => by
    right; rw [upOf_small (by simp at h; omega)]; exact Nat.le_refl _
  | k + 1, n, h => by
    by_cases h1 : n < 10
    · right; rw [upOf_small h1]; exact Nat.le_refl _
    · left
      rw [upOf_more h1, ByteArray.size_append]
      have := upOf_size k (n / 10) (by rw [Nat.pow_succ] at h; omega)
      have e : (⟨#[UInt8.ofNat (48 + n % 10)]⟩ : ByteArray).size = 1 := rfl
      rw [e]
      rcases this with q | q
      · omega
      · have hk : 0 < k := by
          rcases Nat.eq_zero_or_pos k with z | z
          · subst z; simp at h; omega
          · exact z
        omega
theorem conv_one (m : Nat) (h : m < 10) (w : World) (b : Nat) (hc : w.cell? ⟨b, 0, none⟩ = some (.int .u8 (48 + (m : Int)))) : Sem.run Tryd.prog (convert 34 9 (.slice (some ⟨b, 0, none⟩) 1 1)) w = .ok (.string ⟨#[UInt8.ofNat (48 + m)]⟩) w := by
  refine run_convert_bytes_back w 34 9 5 ⟨b, 0, none⟩ 1 [UInt8.ofNat (48 + m)] Tryd.underlying34 Tryd.underlying5 Tryd.underlying9 ?_
  intro j hj
  have : j = 0 := by simp at hj; omega
  subst this
  rw [addr_at, Nat.zero_add, hc]
  have e : (UInt8.ofNat (48 + m)).toNat = 48 + m := by
    rw [UInt8.toNat_ofNat']; omega
  simp only [List.getElem_cons_zero, e]
  congr 2
theorem add_str (u v r : ByteArray) (hr : u ++ v = r) (hs : (u.size + v.size : Nat) ≤ 1000000000) (w : World) : Sem.run Tryd.prog (Op.stringOp .add u v) w = .ok (.string r) w := by
  subst hr
  exact run_string_add_sum (P := Tryd.prog) w u v (by omega)
set_option maxRecDepth 100000 in
set_option maxHeartbeats 1000000 in
theorem up_small (n : Nat) (h : n < 10) (w : World) : Calls Tryd.prog 34 #[.int .u64 n] w fun e w' => e = .returned (.string (upOf n)) ∧ Below w.heap.size w w' := by
  obtain ⟨v, hv⟩ : ∃ v : ByteArray, ⟨#[UInt8.ofNat (48 + n)]⟩ = v := ⟨_, rfl⟩
  rw [upOf_small h, hv]
  have h1 : (n : Int) < 10 := by omega
  have w1 : IntKind.u64.wrap (48 + (n : Int)) = 48 + (n : Int) := by rw [IntKind.wrap_u64]; omega
  have w2 : IntKind.u8.wrap (48 + (n : Int)) = 48 + (n : Int) := by rw [IntKind.wrap_u8]; omega
  have hcv := conv_one n h
  rw [hv] at hcv
  clear hv
  go_enter Tryd.func34, Tryd.ntmps34
  go_wp2_with fail
  go_ret
  exact ⟨rfl, (by repeat (first | exact Below.refl _ _ | (with_reducible assumption) | refine bw_alloc ?_ _ | refine bw_drew ?_))⟩
def UpBack (n : Nat) (w : World) (e : Ending) (w' : World) : Prop := e = .returned (.string (upOf n)) ∧ Below w.heap.size w w'
set_option maxRecDepth 100000 in
set_option maxHeartbeats 2000000 in
theorem up_any (n : Nat) : n ≤ 18446744073709551615 → ∀ w : World, Calls Tryd.prog 34 #[.int .u64 n] w (UpBack n w) := by
  induction n using Nat.strongRecOn with
  | _ n ih =>
    intro hn w
    by_cases h : n < 10
    · exact up_small n h w
    · have IH := Lib.hid (ih (n / 10) (by omega) (by omega))
      clear ih
      obtain ⟨k, hk⟩ : ∃ k, n / 10 = k := ⟨_, rfl⟩
      obtain ⟨m, hm⟩ : ∃ m, n % 10 = m := ⟨_, rfl⟩
      obtain ⟨u, hu⟩ : ∃ u, upOf k = u := ⟨_, rfl⟩
      obtain ⟨v, hv⟩ : ∃ v : ByteArray, ⟨#[UInt8.ofNat (48 + m)]⟩ = v := ⟨_, rfl⟩
      obtain ⟨r, hr⟩ : ∃ r, u ++ v = r := ⟨_, rfl⟩
      have hres : upOf n = r := by rw [upOf_more h, hk, hm, hu, hv, hr]
      have hsz : u.size + v.size ≤ 1000000000 := by
        have h1 := upOf_size 20 k (by have e : (10 : Nat) ^ 20 = 100000000000000000000 := by decide
                                      rw [e]; omega)
        rw [hu] at h1
        have h2 : v.size = 1 := by rw [← hv]; rfl
        omega
      have hadd := add_str u v r hr hsz
      have hcv := conv_one m (by omega)
      rw [hv] at hcv
      have HF : Hid (∀ w', Below w.heap.size w w' → UpBack n w (.returned (.string r)) w') := fun w' h => ⟨by rw [hres], h⟩
      have IH2 : Hid (∀ v, Calls Tryd.prog 34 #[.int .u64 (k : Int)] v fun e w' => e = .returned (.string u) ∧ Below v.heap.size v w') := by
        have := IH.out
        rw [hk] at this
        unfold UpBack at this
        rw [hu] at this
        exact this
      have e1 : (n : Int).tdiv 10 = (k : Int) := by rw [Int.tdiv_eq_ediv_of_nonneg (by omega)]; omega
      have e2 : (n : Int).tmod 10 = (m : Int) := by rw [Int.tmod_eq_emod_of_nonneg (by omega)]; omega
      have e3 : (n : Int) / 10 = (k : Int) := by omega
      have e4 : (n : Int) % 10 = (m : Int) := by omega
      have h1 : ¬ (n : Int) < 10 := by omega
      have w0 : IntKind.u64.wrap (k : Int) = (k : Int) := by rw [IntKind.wrap_u64]; omega
      have w3 : IntKind.u64.wrap (m : Int) = (m : Int) := by rw [IntKind.wrap_u64]; omega
      have w1 : IntKind.u64.wrap (48 + (m : Int)) = 48 + (m : Int) := by rw [IntKind.wrap_u64]; omega
      have w2 : IntKind.u8.wrap (48 + (m : Int)) = 48 + (m : Int) := by rw [IntKind.wrap_u8]; omega
      clear hk hm hu hv hr hres hsz IH h
      go_enter Tryd.func34, Tryd.ntmps34
      go_upto_region 3 with fail
      go_region_law (go_simp; (with_reducible refine (IH2.out _).mono ?_); rintro e w5 ⟨rfl, b5⟩; (try (have c5 := (kept_cell (v := .int .u8 (48 + (m : Int))) (b := w.heap.size) (o := 0) b5 (by first | (rw [World.cell?_alloc_new]; rfl) | (exact (World.cell?_alloc_new ..).trans rfl))))); have B5 := Lib.hid (below_up ((by repeat (first | exact Below.refl _ _ | (with_reducible assumption) | refine bw_alloc ?_ _ | refine bw_drew ?_)) : Below w.heap.size w _) b5); clear b5)
      all_goals
        go_wp2_with fail
        go_ret
        exact HF.out _ (below_up B5.out (by repeat (first | exact Below.refl _ _ | (with_reducible assumption) | refine bw_alloc ?_ _ | refine bw_drew ?_)))
end Go.Proofs.YtlpffgmfgkleiaaDoor

/-
  The walks over digits of any number, and over rows of them.
-/
namespace Go.Proofs.YtlpffgmfgkleiaaDoor
open Go.RowKit Go.Maps

def digOf (n : Int) : ByteArray := if n < 0 then ⟨#[45]⟩ ++ upOf n.natAbs else upOf n.natAbs
theorem digOf_size (n : Int) (h : I64 n) : (digOf n).size ≤ 22 := by
  have hn : n.natAbs < 10 ^ 20 := by
    have e : (10 : Nat) ^ 20 = 100000000000000000000 := by decide
    rw [e]; unfold I64 at h; omega
  have := upOf_size 20 n.natAbs hn
  unfold digOf
  split
  · rw [ByteArray.size_append]
    have e : (⟨#[45]⟩ : ByteArray).size = 1 := rfl
    omega
  · omega
set_option maxRecDepth 100000 in
set_option maxHeartbeats 1000000 in
theorem rdigits_any (n : Int) (hn : I64 n) (w : World) : Calls Tryd.prog 17 #[.int .i64 n] w fun e w' => e = .returned (.string (digOf n)) ∧ Below w.heap.size w w' := by
  unfold I64 at hn
  by_cases h : n < 0
  · obtain ⟨m, hm⟩ : ∃ m : Nat, n.natAbs = m := ⟨_, rfl⟩
    obtain ⟨u, hu⟩ : ∃ u, upOf m = u := ⟨_, rfl⟩
    obtain ⟨r, hr⟩ : ∃ r : ByteArray, ⟨#[45]⟩ ++ u = r := ⟨_, rfl⟩
    have hres : digOf n = r := by unfold digOf; rw [if_pos h, hm, hu, hr]
    rw [hres]
    have hsz : (⟨#[45]⟩ : ByteArray).size + u.size ≤ 1000000000 := by
      have h1 := upOf_size 20 m (by have e : (10 : Nat) ^ 20 = 100000000000000000000 := by decide
                                    rw [e]; omega)
      rw [hu] at h1
      have e : (⟨#[45]⟩ : ByteArray).size = 1 := rfl
      omega
    have hadd := add_str ⟨#[45]⟩ u r hr hsz
    have C : Hid (∀ v, Calls Tryd.prog 34 #[.int .u64 (m : Int)] v fun e w' => e = .returned (.string u) ∧ Below v.heap.size v w') := fun v => by
      have := up_any m (by omega) v
      unfold UpBack at this
      rwa [hu] at this
    have w1 : IntKind.u64.wrap n = n + 18446744073709551616 := by rw [IntKind.wrap_u64]; omega
    have w2 : IntKind.u64.wrap (-(n + 18446744073709551616)) = (m : Int) := by rw [IntKind.wrap_u64]; omega
    clear hm hu hr hres hsz
    go_enter Tryd.func17, Tryd.ntmps17
    go_wp2_with (go_at_call 34; (with_reducible refine (C.out _).mono ?_); rintro e w1 ⟨rfl, b1⟩; have B1 := Lib.hid b1; clear b1)
    go_ret
    exact ⟨rfl, B1.out⟩
  · obtain ⟨m, rfl⟩ : ∃ m : Nat, n = m := ⟨n.toNat, by omega⟩
    obtain ⟨u, hu⟩ : ∃ u, upOf m = u := ⟨_, rfl⟩
    have hres : digOf (m : Int) = u := by unfold digOf; rw [if_neg h, Int.natAbs_natCast, hu]
    rw [hres]
    have C : Hid (∀ v, Calls Tryd.prog 34 #[.int .u64 (m : Int)] v fun e w' => e = .returned (.string u) ∧ Below v.heap.size v w') := fun v => by
      have := up_any m (by omega) v
      unfold UpBack at this
      rwa [hu] at this
    have w1 : IntKind.u64.wrap (m : Int) = (m : Int) := by rw [IntKind.wrap_u64]; omega
    clear hu hres
    go_enter Tryd.func17, Tryd.ntmps17
    go_wp2_with (go_at_call 34; (with_reducible refine (C.out _).mono ?_); rintro e w1 ⟨rfl, b1⟩; have B1 := Lib.hid b1; clear b1)
    go_ret
    exact ⟨rfl, B1.out⟩

/-- The first numbers of a row, with a comma between two. -/
def jrun (l : List Int) : Nat → ByteArray
  | 0 => ⟨#[]⟩
  | i + 1 => (if i = 0 then jrun l i else jrun l i ++ ⟨#[44]⟩) ++ digOf (l[i]?.getD 0)
def joinOf (l : List Int) : ByteArray := jrun l l.length
theorem jrun_size (l : List Int) (hl : ∀ x ∈ l, I64 x) : ∀ i, (jrun l i).size ≤ 23 * i
  | 0 => Nat.le_refl _
  | i + 1 => by
    have ih := jrun_size l hl i
    have hd : (digOf (l[i]?.getD 0)).size ≤ 22 := by
      apply digOf_size
      cases e : l[i]? with
      | none => show I64 0; unfold I64; omega
      | some x => exact hl x (List.mem_of_getElem? e)
    rw [jrun, ByteArray.size_append]
    split
    · omega
    · rw [ByteArray.size_append]
      have e : (⟨#[44]⟩ : ByteArray).size = 1 := rfl
      omega
set_option maxRecDepth 100000 in
set_option maxHeartbeats 2000000 in
theorem rjoin_any (a : Option Addr) (n cap : Nat) (l : List Int) (hl : l.length = n) (hn : n ≤ 1000000) (hw : ∀ x ∈ l, I64 x) (w : World) (h : Ints w a l) : Calls Tryd.prog 35 #[.slice a n cap] w fun e w' => e = .returned (.string (joinOf l)) ∧ Below w.heap.size w w' := by
  have H := Lib.hid h
  have HL := Lib.hid hl
  have HW := Lib.hid hw
  clear h hl hw
  go_enter Tryd.func35, Tryd.ntmps35
  go_wp2_with fail
  go_loopw [3, 4] (fun v u wr => ∃ (i : Nat) (t : ByteArray), i ≤ n ∧ u = .int .i64 i ∧ v = .string t ∧ Hid (jrun l i = t) ∧ Hid (Below w.heap.size w wr)) (fun _ u _ => (n - intOf u).toNat)
  case atStart => exact ⟨0, ⟨#[]⟩, by omega, rfl, rfl, rfl, Below.refl _ _⟩
  case round =>
    obtain ⟨i, t, hi, rfl, rfl, HT, HB⟩ := hrel
    by_cases hlt : i < n
    · obtain ⟨x, hx⟩ := nth_of HL.out hlt
      obtain ⟨g, o, rfl, c0⟩ := (H.out.below HB.out).at_ hx
      have hk1 : (i : Int) < (n : Int) := by omega
      have hk0 : (0 : Int) ≤ (i : Int) := by omega
      have hxw := HW.out x (List.mem_of_getElem? hx)
      obtain ⟨d, hd⟩ : ∃ d, digOf x = d := ⟨_, rfl⟩
      have C : Hid (∀ v, Calls Tryd.prog 17 #[.int .i64 x] v fun e w' => e = .returned (.string d) ∧ Below v.heap.size v w') := fun v => by
        have := rdigits_any x hxw v
        rwa [hd] at this
      have hts : t.size ≤ 23 * i := by rw [← HT.out]; exact jrun_size l HW.out i
      have hds : d.size ≤ 22 := by rw [← hd]; exact digOf_size x hxw
      obtain ⟨t1, ht1⟩ : ∃ t1, (if i = 0 then t else t ++ ⟨#[44]⟩) = t1 := ⟨_, rfl⟩
      obtain ⟨t2, ht2⟩ : ∃ t2, t1 ++ d = t2 := ⟨_, rfl⟩
      have HT2 : Hid (jrun l (i + 1) = t2) := by
        show _ = _; rw [jrun, HT.out, hx, ht1]
        show t1 ++ digOf x = t2
        rw [hd, ht2]
      have hc44 : (⟨#[44]⟩ : ByteArray).size = 1 := rfl
      have ht1s : t1.size ≤ 23 * i + 1 := by
        rw [← ht1]; split
        · omega
        · rw [ByteArray.size_append]; omega
      have hadd2 := add_str t1 d t2 ht2 (by omega)
      by_cases h0 : i = 0
      · rw [if_pos h0] at ht1
        subst ht1
        have f1 : ¬ (0 : Int) < (i : Int) := by omega
        have f2 : ¬ 0 < i := by omega
        clear h0 hx hd ht2 hts hds ht1s hxw hc44
        go_wp2_with (go_at_call 17; (with_reducible refine (C.out _).mono ?_); rintro e w5 ⟨rfl, b5⟩; have B5 := Lib.hid (below_up HB.out b5); clear b5)
        go_roundw
        case rel => exact ⟨i + 1, t2, by omega, by go_num, rfl, HT2, B5⟩
        case measure => simp [intOf]; omega
      · rw [if_neg h0] at ht1
        have hadd1 := add_str t ⟨#[44]⟩ t1 ht1 (by omega)
        have f1 : (0 : Int) < (i : Int) := by omega
        have f2 : 0 < i := by omega
        clear h0 hx hd ht2 hts hds ht1s hxw ht1 hc44
        go_wp2_with (go_at_call 17; (with_reducible refine (C.out _).mono ?_); rintro e w5 ⟨rfl, b5⟩; have B5 := Lib.hid (below_up HB.out b5); clear b5)
        go_roundw
        case rel => exact ⟨i + 1, t2, by omega, by go_num, rfl, HT2, B5⟩
        case measure => simp [intOf]; omega
    · obtain rfl : n = i := by omega
      have HF : Hid (joinOf l = t) := by show _ = _; unfold joinOf; rw [HL.out]; exact HT.out
      go_wp2_with fail
      go_ret
      exact ⟨by rw [HF.out]; rfl, HB.out⟩
end Go.Proofs.YtlpffgmfgkleiaaDoor

/-
  A row of words that is read, in memory; what closures that take a word do.
-/
namespace Go.Proofs.YtlpffgmfgkleiaaDoor
open Go.RowKit Go.Maps

abbrev RowT : TypeId := 95
abbrev SysT : TypeId := 32
/-- A block of one's own, and what it holds. -/
abbrev Box (w : World) (b : Nat) (T : TypeId) (cs : Array Value) : Prop := w.heap[b]? = some (.cells cs T (0, 0))
/-- Two blocks may have turned. -/
structure Two (R T : Nat) (w w' : World) : Prop where
  os : w'.os = w.os
  tape : w'.tape = w.tape
  output : w'.output = w.output
  size : w.heap.size ≤ w'.heap.size
  block : ∀ k, k < w.heap.size → k ≠ R → k ≠ T → w'.heap[k]? = w.heap[k]?
theorem Two.refl (R T : Nat) (w : World) : Two R T w w := ⟨rfl, rfl, rfl, Nat.le_refl _, fun _ _ _ _ => rfl⟩
theorem Two.trans {R T : Nat} {w w' w'' : World} (h : Two R T w w') (k : Two R T w' w'') : Two R T w w'' :=
  ⟨k.os.trans h.os, k.tape.trans h.tape, k.output.trans h.output, Nat.le_trans h.size k.size, fun b hb h1 h2 => (k.block b (Nat.lt_of_lt_of_le hb h.size) h1 h2).trans (h.block b hb h1 h2)⟩
theorem Two.of_below {R T : Nat} {w w' : World} (h : Below w.heap.size w w') : Two R T w w' := ⟨h.os, h.tape, h.output, h.size, fun k hk _ _ => h.block k hk⟩
theorem Two.then {R T : Nat} {w w' w'' : World} (h : Two R T w w') (k : Below w'.heap.size w' w'') : Two R T w w'' := h.trans (Two.of_below k)
theorem Two.setT {R T o : Nat} {w w' : World} (h : Two R T w w') (v : Value) : Two R T w (w'.setCell ⟨T, o, none⟩ v) :=
  ⟨h.os, h.tape, h.output, by simp [World.setCell]; exact h.size, fun k hk h1 h2 => (blk_far (a := ⟨T, o, none⟩) h2 v).trans (h.block k hk h1 h2)⟩
theorem Two.setR {R T o : Nat} {w w' : World} (h : Two R T w w') (v : Value) : Two R T w (w'.setCell ⟨R, o, none⟩ v) :=
  ⟨h.os, h.tape, h.output, by simp [World.setCell]; exact h.size, fun k hk h1 h2 => (blk_far (a := ⟨R, o, none⟩) h1 v).trans (h.block k hk h1 h2)⟩
theorem Two.below {R T N : Nat} {w w' : World} (h : Two R T w w') (hR : N ≤ R) (hT : N ≤ T) (hN : N ≤ w.heap.size) : Below N w w' :=
  ⟨h.os, h.tape, h.output, h.size, fun k hk => h.block k (by omega) (by omega) (by omega)⟩
theorem Two.weak {R T' : Nat} {w w' : World} (h : Two R R w w') : Two R T' w w' := ⟨h.os, h.tape, h.output, h.size, fun k hk h1 _ => h.block k hk h1 h1⟩
theorem Two.ofT {R T : Nat} {w w' : World} (h : Two T T w w') : Two R T w w' := ⟨h.os, h.tape, h.output, h.size, fun k hk _ h2 => h.block k hk h2 h2⟩
theorem Two.swap {R T : Nat} {w w' : World} (h : Two R T w w') : Two T R w w' := ⟨h.os, h.tape, h.output, h.size, fun k hk h1 h2 => h.block k hk h2 h1⟩
theorem Two.box {R T b : Nat} {w w' : World} {t : TypeId} {cs : Array Value} (h : Two R T w w') (hb : Box w b t cs) (h1 : b ≠ R) (h2 : b ≠ T) : Box w' b t cs := (h.block b (lt_of_block hb) h1 h2).trans hb
/-- A new block may turn besides: below it none. -/
theorem Two.drop {R T : Nat} {w w' : World} (h : Two R T w w') (hT : w.heap.size ≤ T) : Two R R w w' := ⟨h.os, h.tape, h.output, h.size, fun k hk h1 _ => h.block k hk h1 (by omega)⟩
/-- Rows of numbers stay. -/
theorem ints_two {R T : Nat} {w w' : World} {a : Option Addr} {l : List Int} {t1 t2 : TypeId} {c1 c2 : Array Value} (h : Two R T w w') (hR : Box w R t1 c1) (hT : Box w T t2 c2)
    (n1 : t1 ≠ 2 ∧ t1 ≠ 3) (n2 : t2 ≠ 2 ∧ t2 ≠ 3) (hi : IsI w a l) (hv : Ints w a l) : IsI w' a l ∧ Ints w' a l := by
  rcases hv with rfl | ⟨g, o, rfl, hc⟩
  · exact ⟨.inl rfl, .inl rfl⟩
  rcases hi with rfl | hi
  · exact ⟨.inl rfl, .inl rfl⟩
  obtain ⟨cs, t, fr, hb, ht⟩ := hi g o rfl
  have e1 : g ≠ R := by
    rintro rfl
    rw [hR] at hb
    simp only [Option.some.injEq, Obj.cells.injEq] at hb
    rcases ht with q | q
    · exact n1.1 (hb.2.1.trans q)
    · exact n1.2 (hb.2.1.trans q)
  have e2 : g ≠ T := by
    rintro rfl
    rw [hT] at hb
    simp only [Option.some.injEq, Obj.cells.injEq] at hb
    rcases ht with q | q
    · exact n2.1 (hb.2.1.trans q)
    · exact n2.2 (hb.2.1.trans q)
  have hk : w'.heap[g]? = w.heap[g]? := h.block g (lt_of_block hb) e1 e2
  refine ⟨.inr fun g' o' e => ?_, .inr ⟨g, o, rfl, fun j u hj => ?_⟩⟩
  · cases e
    exact ⟨cs, t, fr, hk.trans hb, ht⟩
  · have := hc j u hj
    rw [blk_cell hb] at this
    rw [blk_cell (hk.trans hb)]
    exact this

/-! ### what is left of a row -/
def WIn (w : World) (N : Nat) (a : Option Addr) (l : List WV) : Prop :=
  l = [] ∨ ∃ g o, a = some ⟨g, o, none⟩ ∧ g < N ∧ ∀ j u, (wflat l)[j]? = some u → w.cell? ⟨g, o + j, none⟩ = some u
theorem WIn.view {w : World} {N : Nat} {a : Option Addr} {l : List WV} (h : WIn w N a l) : WView w a l := by
  rcases h with h | ⟨g, o, h1, _, h3⟩
  · exact .inl h
  · exact .inr ⟨g, o, h1, h3⟩
theorem WIn.of {w : World} {a : Option Addr} {l : List WV} (h : WView w a l) : WIn w w.heap.size a l := by
  rcases h with h | ⟨g, o, h1, h3⟩
  · exact .inl h
  · cases l with
    | nil => exact .inl rfl
    | cons x l =>
      refine .inr ⟨g, o, h1, ?_, h3⟩
      exact block_of_cell (h3 0 (.int .i64 x.at_) rfl)
theorem WIn.below {w w' : World} {N : Nat} {a : Option Addr} {l : List WV} (h : WIn w N a l) (hb : Below N w w') : WIn w' N a l := by
  rcases h with h | ⟨g, o, h1, h2, h3⟩
  · exact .inl h
  · exact .inr ⟨g, o, h1, h2, fun j u hj => by rw [hb.cell (p := ⟨g, o + j, none⟩) h2]; exact h3 j u hj⟩
/-- A row that is read: what is left of it, where the last word that was read ends. -/
def Left (w : World) (R N : Nat) (e : Int) (l : List WV) : Prop :=
  ∃ (a : Option Addr) (c : Nat), Box w R RowT #[.slice a l.length c, .int .i64 e] ∧ WIn w N a l ∧ l.length ≤ c ∧ (c : Int) ≤ 9223372036854775807
theorem Left.box {w : World} {R N : Nat} {e : Int} {l : List WV} (h : Left w R N e l) : ∃ cs, Box w R RowT cs := let ⟨_, _, hb, _⟩ := h; ⟨_, hb⟩
theorem Left.below {w w' : World} {R N : Nat} {e : Int} {l : List WV} (h : Left w R N e l) (hb : Below w.heap.size w w') (hN : N ≤ w.heap.size) : Left w' R N e l := by
  obtain ⟨a, c, h1, h2, h3⟩ := h
  exact ⟨a, c, kept_obj hb h1, h2.below (hb.mono hN), h3⟩
theorem Left.two {w w' : World} {R T N : Nat} {e : Int} {l : List WV} (h : Left w R N e l) (hb : Two T T w w') (hN : N ≤ w.heap.size) (hT : N ≤ T) (hne : R ≠ T) : Left w' R N e l := by
  obtain ⟨a, c, h1, h2, h3⟩ := h
  exact ⟨a, c, hb.box h1 hne hne, h2.below (hb.below hT hT hN), h3⟩

/-! ### closures that take a word -/
theorem beq_bytes (s t : ByteArray) : (s.toList == t.toList) = decide (s = t) := by
  by_cases h : s = t
  · subst h; simp
  · rw [decide_eq_false h, beq_eq_false_iff_ne]
    intro e
    apply h
    rw [ByteArray.toList_eq, ByteArray.toList_eq] at e
    obtain ⟨a⟩ := s
    obtain ⟨b⟩ := t
    exact congrArg ByteArray.mk (Array.toList_inj.1 e)
/-- What calls a closure. -/
def Says (v : Value) (w : World) (T : Nat) (s : ByteArray) (ok : Bool) (C : World → Prop) : Prop :=
  ∃ (F : Nat) (caps : Array Value), v = .func (.func F) #[] caps ∧ (∀ args w, (callFunc F args).run Tryd.prog w = .ok (.enter F args) w) ∧
    Calls Tryd.prog F (#[.string s] ++ caps) w fun e w' => e = .returned (.bool ok) ∧ Two T T w w' ∧ C w'
/-- What a panic bears. -/
abbrev PV (p e : Int) : Value := .iface 92 (.agg #[.int .i64 p, .int .i64 e])
abbrev Panics (p e : Int) (x : Ending) : Prop := x = .panicked [{ v := PV p e, recovered := false }]

set_option maxRecDepth 100000 in
theorem text_any (t : ByteArray) (w : World) : Calls Tryd.prog 59 #[.string t] w fun e w' => ∃ b, e = .returned (.func (.func 79) #[] #[.pointer (some ⟨b, 0, none⟩)]) ∧ w'.cell? ⟨b, 0, none⟩ = some (.string t) ∧ Below w.heap.size w w' := by
  have hmf : ∀ (fn : Fn) (first cap : Array Value) (w : World), (Instr.makeFunc fn first cap).run Tryd.prog w = .ok (.func fn first cap) w := fun _ _ _ _ => rfl
  go_enter Tryd.func59, Tryd.ntmps59
  go_wp2
  go_ret
  exact ⟨w.heap.size, rfl, by rw [World.cell?_alloc_new]; rfl, bw_alloc (Below.refl _ _) _⟩
set_option maxRecDepth 100000 in
theorem text1_any (s t : ByteArray) (b : Nat) (w : World) (hb : w.cell? ⟨b, 0, none⟩ = some (.string t)) : Calls Tryd.prog 79 #[.string s, .pointer (some ⟨b, 0, none⟩)] w fun e w' => e = .returned (.bool (s.toList == t.toList)) ∧ w' = w := by
  go_enter Tryd.func79, Tryd.ntmps79
  go_wp2
  go_ret
  exact ⟨rfl, rfl⟩
set_option maxRecDepth 100000 in
theorem enters_text1 (args : Array Value) (w : World) : (callFunc 79 args).run Tryd.prog w = .ok (.enter 79 args) w := by
  go_simp

/-! ### numbers -/
/-- A closure that takes a number, or numbers. -/
def TakesAt (F : Nat) (v : Value) (w : World) (p : Addr) (most : Int) : Prop :=
  ∃ mb tb, v = .func (.func F) #[] #[.pointer (some ⟨mb, 0, none⟩), .pointer (some ⟨tb, 0, none⟩)] ∧ w.cell? ⟨mb, 0, none⟩ = some (.int .i64 most) ∧ w.cell? ⟨tb, 0, none⟩ = some (.pointer (some p))
theorem TakesAt.below {F : Nat} {v : Value} {w w' : World} {p : Addr} {most : Int} (h : TakesAt F v w p most) (hb : Below w.heap.size w w') : TakesAt F v w' p most := by
  obtain ⟨mb, tb, h1, h2, h3⟩ := h
  exact ⟨mb, tb, h1, kept_cell hb h2, kept_cell hb h3⟩

set_option maxRecDepth 100000 in
theorem numI_any (p : Addr) (most : Int) (w : World) : Calls Tryd.prog 60 #[.pointer (some p), .int .i64 most] w fun e w' => ∃ v, e = .returned v ∧ TakesAt 80 v w' p most ∧ Below w.heap.size w w' := by
  have hmf : ∀ (fn : Fn) (first cap : Array Value) (w : World), (Instr.makeFunc fn first cap).run Tryd.prog w = .ok (.func fn first cap) w := fun _ _ _ _ => rfl
  go_enter Tryd.func60, Tryd.ntmps60
  go_wp2
  go_ret
  exact ⟨_, rfl, ⟨w.heap.size + 1, w.heap.size, rfl, (new_second w _ _ _ 0).trans rfl, (new_first w _ _ _ 0).trans rfl⟩, bw_alloc (bw_alloc (Below.refl _ _) _) _⟩
set_option maxRecDepth 100000 in
theorem enters_numI1 (args : Array Value) (w : World) : (callFunc 80 args).run Tryd.prog w = .ok (.enter 80 args) w := by
  go_simp

set_option maxRecDepth 100000 in
theorem numQ_any (p : Addr) (most : Int) (w : World) : Calls Tryd.prog 61 #[.pointer (some p), .int .i64 most] w fun e w' => ∃ v, e = .returned v ∧ TakesAt 82 v w' p most ∧ Below w.heap.size w w' := by
  have hmf : ∀ (fn : Fn) (first cap : Array Value) (w : World), (Instr.makeFunc fn first cap).run Tryd.prog w = .ok (.func fn first cap) w := fun _ _ _ _ => rfl
  go_enter Tryd.func61, Tryd.ntmps61
  go_wp2
  go_ret
  exact ⟨_, rfl, ⟨w.heap.size + 1, w.heap.size, rfl, (new_second w _ _ _ 0).trans rfl, (new_first w _ _ _ 0).trans rfl⟩, bw_alloc (bw_alloc (Below.refl _ _) _) _⟩
set_option maxRecDepth 100000 in
theorem enters_numQ1 (args : Array Value) (w : World) : (callFunc 82 args).run Tryd.prog w = .ok (.enter 82 args) w := by
  go_simp

set_option maxRecDepth 100000 in
theorem numsI_any (p : Addr) (most : Int) (w : World) : Calls Tryd.prog 66 #[.pointer (some p), .int .i64 most] w fun e w' => ∃ v, e = .returned v ∧ TakesAt 88 v w' p most ∧ Below w.heap.size w w' := by
  have hmf : ∀ (fn : Fn) (first cap : Array Value) (w : World), (Instr.makeFunc fn first cap).run Tryd.prog w = .ok (.func fn first cap) w := fun _ _ _ _ => rfl
  go_enter Tryd.func66, Tryd.ntmps66
  go_wp2
  go_ret
  exact ⟨_, rfl, ⟨w.heap.size + 1, w.heap.size, rfl, (new_second w _ _ _ 0).trans rfl, (new_first w _ _ _ 0).trans rfl⟩, bw_alloc (bw_alloc (Below.refl _ _) _) _⟩
set_option maxRecDepth 100000 in
theorem enters_numsI1 (args : Array Value) (w : World) : (callFunc 88 args).run Tryd.prog w = .ok (.enter 88 args) w := by
  go_simp

set_option maxRecDepth 100000 in
theorem numsQ_any (p : Addr) (most : Int) (w : World) : Calls Tryd.prog 65 #[.pointer (some p), .int .i64 most] w fun e w' => ∃ v, e = .returned v ∧ TakesAt 85 v w' p most ∧ Below w.heap.size w w' := by
  have hmf : ∀ (fn : Fn) (first cap : Array Value) (w : World), (Instr.makeFunc fn first cap).run Tryd.prog w = .ok (.func fn first cap) w := fun _ _ _ _ => rfl
  go_enter Tryd.func65, Tryd.ntmps65
  go_wp2
  go_ret
  exact ⟨_, rfl, ⟨w.heap.size + 1, w.heap.size, rfl, (new_second w _ _ _ 0).trans rfl, (new_first w _ _ _ 0).trans rfl⟩, bw_alloc (bw_alloc (Below.refl _ _) _) _⟩
set_option maxRecDepth 100000 in
theorem enters_numsQ1 (args : Array Value) (w : World) : (callFunc 85 args).run Tryd.prog w = .ok (.enter 85 args) w := by
  go_simp
end Go.Proofs.YtlpffgmfgkleiaaDoor

/-
  Rows of numbers as those of another kind.
-/
namespace Go.Proofs.YtlpffgmfgkleiaaDoor
open Go.RowKit Go.Maps

theorem y_infoInt : (Tryd.prog.info? 3).map (fun i => (i.zero, i.size, i.bytes)) = some (some (.int .i64 0), 1, 8) := by kernel_rfl
theorem make_ints (c : Nat) (hc : c ≤ 2000000000) (w : World) : (Instr.makeSlice 50 (.int .i64 0) (.int .i64 (c : Int))).run Tryd.prog w = .ok (.slice (some ⟨w.heap.size, 0, none⟩) 0 c) (w.alloc (.cells (madeCells #[.int .i64 0] c) 3)) := by
  obtain ⟨i0, hi, hz0, hz1, hz2⟩ := info_parts y_infoInt
  have h := run_make w 50 3 i0 (.int .i64 0) Tryd.underlying50 hi hz0 .i64 .i64 0 c (by omega) (by omega) (by rw [hz2]; omega) (by omega)
  rw [hz1] at h
  simpa [Value.cells] using h
theorem own_room (w : World) (cap : Nat) (hc : cap ≤ 2000000000) (T : TypeId) : OwnI (w.alloc (.cells (madeCells #[.int .i64 0] cap) T)) T w.heap.size (.slice (some ⟨w.heap.size, 0, none⟩) 0 cap) [] :=
  World.ownsRow_made (e := T) (size := 1) (base := w.heap.size) (w := w) (madeCells #[.int .i64 0] cap) cap (by simp) (by unfold maxLen; omega) (by rw [size_madeCells]; omega)
/-- A row of one's own that comes back. -/
def AsBack (T : TypeId) (l : List Int) (n : Nat) (w : World) (e : Ending) (w' : World) : Prop :=
  ∃ a c, e = .returned (.slice a n c) ∧ OwnI w' T w.heap.size (.slice a n c) l ∧ Below w.heap.size w w'

set_option maxRecDepth 100000 in
set_option maxHeartbeats 2000000 in
theorem as_qq (a : Option Addr) (n cap : Nat) (l : List Int) (hl : l.length = n) (hn : n ≤ 1100000) (w : World) (h : Ints w a l) : Calls Tryd.prog 87 #[.slice a n cap] w (AsBack 2 l n w) := by
  have H := Lib.hid h
  have HL := Lib.hid hl
  have hmk := make_long n (by omega)
  clear h hl
  go_enter Tryd.func87, Tryd.ntmps87
  go_upto_region 2 with fail
  refine gen_world (fun v => Below w.heap.size w v ∧ OwnI v 2 w.heap.size (.slice (some ⟨w.heap.size, 0, none⟩) 0 n) []) ⟨bw_alloc (Below.refl _ _) _, own_room w n (by omega) _⟩ ?_
  intro W1 ⟨hb1, ho1⟩
  have HB1 := Lib.hid hb1
  have HO1 := Lib.hid ho1
  clear hb1 ho1 hmk
  go_wp2_with fail
  go_loopw [3, 11] (fun v u wr => ∃ (k : Nat) (a' : Option Addr) (cp' : Nat), k ≤ n ∧ u = .int .i64 k ∧ v = .slice a' k cp' ∧ Hid (Below w.heap.size w wr) ∧ Hid (OwnI wr 2 w.heap.size (.slice a' k cp') (l.take k))) (fun _ u _ => (n - intOf u).toNat)
  case atStart => exact ⟨0, _, _, by omega, rfl, rfl, HB1, HO1⟩
  case round =>
    obtain ⟨k, a', cp', hk, rfl, rfl, HB, HP⟩ := hrel
    by_cases hlt : k < n
    · obtain ⟨y, hy⟩ := nth_of HL.out hlt
      obtain ⟨g, o, rfl, z0⟩ := (H.out.below HB.out).at_ hy
      have hk1 : (k : Int) < (n : Int) := by omega
      have hk0 : (0 : Int) ≤ (k : Int) := by omega
      have HTL : Hid ((l.take k).length = k) := by show _ = _; rw [List.length_take, HL.out]; omega
      have HT2 : Hid (l.take k ++ [y] = l.take (k + 1)) := by show _ = _; rw [List.take_add_one, hy]; rfl
      have HSM : Hid ((((l.take k).length : Int) + ((1 : Nat) : Int)) ≤ 17592186044416) := by show _ ≤ _; rw [HTL.out]; omega
      have HNN : Hid ((l.take k).length + 1 = k + 1) := by show _ = _; rw [HTL.out]
      have HSZ : Hid (w.heap.size ≤ (wr.alloc (.cells #[.int .i64 y] 2)).heap.size) := by show _ ≤ _; rw [World.size_alloc]; have := HB.out.size; omega
      clear hy
      go_wp2_with (at_builtin; refine wp_ints (m := 1) (l := [y]) numL rfl _ _ rfl rfl rfl (HP.out.below (by repeat (first | exact Below.refl _ _ | (with_reducible assumption) | refine bw_alloc ?_ _ | refine bw_drew ?_))) HSZ.out (ints_new _ _ _) rfl HSM.out (fun z => by cases z) (k + 1) HNN.out ?_; intro a3 k3 w3 o3 g3 l3; have HO := Lib.hid (HT2.out ▸ o3); have HB2 := Lib.hid (growni_new (below_up HB.out (bw_alloc (Below.refl _ _) _)) (HP.out.below (bw_alloc (Below.refl _ _) _)) HSZ.out g3); clear o3 g3 l3)
      go_roundw
      case rel => exact ⟨k + 1, a3, k3, by omega, by go_num, rfl, HB2, HO⟩
      case measure => simp [intOf]; omega
    · obtain rfl : n = k := by omega
      have HT : Hid (l.take n = l) := by show _ = _; rw [← HL.out, List.take_length]
      go_wp2_with fail
      go_ret
      exact ⟨_, _, rfl, HT.out ▸ HP.out, HB.out⟩

set_option maxRecDepth 100000 in
set_option maxHeartbeats 2000000 in
theorem as_qi (a : Option Addr) (n cap : Nat) (l : List Int) (hl : l.length = n) (hn : n ≤ 1100000) (w : World) (h : Ints w a l) : Calls Tryd.prog 55 #[.slice a n cap] w (AsBack 2 l n w) := by
  have H := Lib.hid h
  have HL := Lib.hid hl
  have hmk := make_long n (by omega)
  clear h hl
  go_enter Tryd.func55, Tryd.ntmps55
  go_upto_region 2 with fail
  refine gen_world (fun v => Below w.heap.size w v ∧ OwnI v 2 w.heap.size (.slice (some ⟨w.heap.size, 0, none⟩) 0 n) []) ⟨bw_alloc (Below.refl _ _) _, own_room w n (by omega) _⟩ ?_
  intro W1 ⟨hb1, ho1⟩
  have HB1 := Lib.hid hb1
  have HO1 := Lib.hid ho1
  clear hb1 ho1 hmk
  go_wp2_with fail
  go_loopw [3, 11] (fun v u wr => ∃ (k : Nat) (a' : Option Addr) (cp' : Nat), k ≤ n ∧ u = .int .i64 k ∧ v = .slice a' k cp' ∧ Hid (Below w.heap.size w wr) ∧ Hid (OwnI wr 2 w.heap.size (.slice a' k cp') (l.take k))) (fun _ u _ => (n - intOf u).toNat)
  case atStart => exact ⟨0, _, _, by omega, rfl, rfl, HB1, HO1⟩
  case round =>
    obtain ⟨k, a', cp', hk, rfl, rfl, HB, HP⟩ := hrel
    by_cases hlt : k < n
    · obtain ⟨y, hy⟩ := nth_of HL.out hlt
      obtain ⟨g, o, rfl, z0⟩ := (H.out.below HB.out).at_ hy
      have hk1 : (k : Int) < (n : Int) := by omega
      have hk0 : (0 : Int) ≤ (k : Int) := by omega
      have HTL : Hid ((l.take k).length = k) := by show _ = _; rw [List.length_take, HL.out]; omega
      have HT2 : Hid (l.take k ++ [y] = l.take (k + 1)) := by show _ = _; rw [List.take_add_one, hy]; rfl
      have HSM : Hid ((((l.take k).length : Int) + ((1 : Nat) : Int)) ≤ 17592186044416) := by show _ ≤ _; rw [HTL.out]; omega
      have HNN : Hid ((l.take k).length + 1 = k + 1) := by show _ = _; rw [HTL.out]
      have HSZ : Hid (w.heap.size ≤ (wr.alloc (.cells #[.int .i64 y] 2)).heap.size) := by show _ ≤ _; rw [World.size_alloc]; have := HB.out.size; omega
      clear hy
      go_wp2_with (at_builtin; refine wp_ints (m := 1) (l := [y]) numL rfl _ _ rfl rfl rfl (HP.out.below (by repeat (first | exact Below.refl _ _ | (with_reducible assumption) | refine bw_alloc ?_ _ | refine bw_drew ?_))) HSZ.out (ints_new _ _ _) rfl HSM.out (fun z => by cases z) (k + 1) HNN.out ?_; intro a3 k3 w3 o3 g3 l3; have HO := Lib.hid (HT2.out ▸ o3); have HB2 := Lib.hid (growni_new (below_up HB.out (bw_alloc (Below.refl _ _) _)) (HP.out.below (bw_alloc (Below.refl _ _) _)) HSZ.out g3); clear o3 g3 l3)
      go_roundw
      case rel => exact ⟨k + 1, a3, k3, by omega, by go_num, rfl, HB2, HO⟩
      case measure => simp [intOf]; omega
    · obtain rfl : n = k := by omega
      have HT : Hid (l.take n = l) := by show _ = _; rw [← HL.out, List.take_length]
      go_wp2_with fail
      go_ret
      exact ⟨_, _, rfl, HT.out ▸ HP.out, HB.out⟩

set_option maxRecDepth 100000 in
set_option maxHeartbeats 2000000 in
theorem as_iq (a : Option Addr) (n cap : Nat) (l : List Int) (hl : l.length = n) (hn : n ≤ 1100000) (w : World) (h : Ints w a l) : Calls Tryd.prog 89 #[.slice a n cap] w (AsBack 3 l n w) := by
  have H := Lib.hid h
  have HL := Lib.hid hl
  have hmk := make_ints n (by omega)
  clear h hl
  go_enter Tryd.func89, Tryd.ntmps89
  go_upto_region 2 with fail
  refine gen_world (fun v => Below w.heap.size w v ∧ OwnI v 3 w.heap.size (.slice (some ⟨w.heap.size, 0, none⟩) 0 n) []) ⟨bw_alloc (Below.refl _ _) _, own_room w n (by omega) _⟩ ?_
  intro W1 ⟨hb1, ho1⟩
  have HB1 := Lib.hid hb1
  have HO1 := Lib.hid ho1
  clear hb1 ho1 hmk
  go_wp2_with fail
  go_loopw [3, 11] (fun v u wr => ∃ (k : Nat) (a' : Option Addr) (cp' : Nat), k ≤ n ∧ u = .int .i64 k ∧ v = .slice a' k cp' ∧ Hid (Below w.heap.size w wr) ∧ Hid (OwnI wr 3 w.heap.size (.slice a' k cp') (l.take k))) (fun _ u _ => (n - intOf u).toNat)
  case atStart => exact ⟨0, _, _, by omega, rfl, rfl, HB1, HO1⟩
  case round =>
    obtain ⟨k, a', cp', hk, rfl, rfl, HB, HP⟩ := hrel
    by_cases hlt : k < n
    · obtain ⟨y, hy⟩ := nth_of HL.out hlt
      obtain ⟨g, o, rfl, z0⟩ := (H.out.below HB.out).at_ hy
      have hk1 : (k : Int) < (n : Int) := by omega
      have hk0 : (0 : Int) ≤ (k : Int) := by omega
      have HTL : Hid ((l.take k).length = k) := by show _ = _; rw [List.length_take, HL.out]; omega
      have HT2 : Hid (l.take k ++ [y] = l.take (k + 1)) := by show _ = _; rw [List.take_add_one, hy]; rfl
      have HSM : Hid ((((l.take k).length : Int) + ((1 : Nat) : Int)) ≤ 17592186044416) := by show _ ≤ _; rw [HTL.out]; omega
      have HNN : Hid ((l.take k).length + 1 = k + 1) := by show _ = _; rw [HTL.out]
      have HSZ : Hid (w.heap.size ≤ (wr.alloc (.cells #[.int .i64 y] 3)).heap.size) := by show _ ≤ _; rw [World.size_alloc]; have := HB.out.size; omega
      clear hy
      go_wp2_with (at_builtin; refine wp_ints (m := 1) (l := [y]) numI rfl _ _ rfl rfl rfl (HP.out.below (by repeat (first | exact Below.refl _ _ | (with_reducible assumption) | refine bw_alloc ?_ _ | refine bw_drew ?_))) HSZ.out (ints_new _ _ _) rfl HSM.out (fun z => by cases z) (k + 1) HNN.out ?_; intro a3 k3 w3 o3 g3 l3; have HO := Lib.hid (HT2.out ▸ o3); have HB2 := Lib.hid (growni_new (below_up HB.out (bw_alloc (Below.refl _ _) _)) (HP.out.below (bw_alloc (Below.refl _ _) _)) HSZ.out g3); clear o3 g3 l3)
      go_roundw
      case rel => exact ⟨k + 1, a3, k3, by omega, by go_num, rfl, HB2, HO⟩
      case measure => simp [intOf]; omega
    · obtain rfl : n = k := by omega
      have HT : Hid (l.take n = l) := by show _ = _; rw [← HL.out, List.take_length]
      go_wp2_with fail
      go_ret
      exact ⟨_, _, rfl, HT.out ▸ HP.out, HB.out⟩
end Go.Proofs.YtlpffgmfgkleiaaDoor

/-
  A range over a function that keeps a state of its own between two rounds.
-/
namespace Go.Proofs.YtlpffgmfgkleiaaDoor
open Go.RowKit Go.Maps

/-- How a round ends. -/
def RoundEnds {α : Type} (B : Nat) (Kp : World → World → Prop) (I Ix : List α → World → Prop) (xs : List α) (W : World) : Exit → Act → World → Prop
  | .normal, _, W' => KeepsFrom B W W' ∧ Kp W W' ∧ I xs W'
  | .ret, _, W' => KeepsFrom B W W' ∧ Ix xs W'
  | _, _, _ => False
/-- What tells one after another, and steps by St between two of them. -/
def Tells {α : Type} (n : Nat) (P : Program) (gf : Nat) (lb : Array Value) (encs : α → Array Value) (Kp St : World → World → Prop) (S Sp : List α → Prop) (N : Nat) (w : World) : Prop :=
  ∀ (l : Nat) (J Jx : List α → World → Prop) (W : World), Below w.heap.size w W → (∀ s X Y, J s X → St X Y → J s Y) →
    (∀ pre x W1, J pre W1 → pre.length < N → YieldAt Fence.wide (n - 1) P l (encs x) W1 fun e W' => (e = .returned (.bool true) ∧ J (pre ++ [x]) W' ∧ Kp W1 W') ∨ (e = .returned (.bool false) ∧ Jx (pre ++ [x]) W')) →
    J [] W → CallsIn Fence.wide n P gf (#[.func (.yield l) #[] #[]] ++ lb) W fun e W' => (∃ v, e = .returned v) ∧ ((∃ xs, S xs ∧ J xs W') ∨ ∃ pre, Sp pre ∧ Jx pre W')

theorem range_tells {α : Type} {n : Nat} {P : Program} {g : Operand} {ps : Array Tmp} {assign body : Code} {Q : Exit → Act → World → Prop} {a : Act} {w : World} (h1 : 1 ≤ n) {gf : Nat} {lb : Array Value}
    (hg : a.eval g = .func (.func gf) #[] lb) (eg : ∀ args w, (callFunc gf args).run P w = .ok (.enter gf args) w) {encs : α → Array Value} {Kp St : World → World → Prop} {S Sp : List α → Prop} {N : Nat}
    (hseq : Tells (n - 1) P gf lb encs Kp St S Sp N w) (hKt : ∀ {A B C : World}, Kp A B → Kp B C → Kp A C)
    (hKb : ∀ (W : World) (l : Nat) (o o' : Obj), w.heap.size ≤ l → W.heap[l]? = some o → o.isCells = false → o.isWalk = false → Kp W (W.putObj l o'))
    (hSt : ∀ X Y, St X Y → KeepsFrom w.heap.size X Y) (hps : ∀ x, (encs x).size = ps.size)
    (I Ix : List α → World → Prop) (hI : OwnFrom w.heap.size I) (hIs : ∀ s X Y, I s X → St X Y → I s Y) (hIx : OwnFrom w.heap.size Ix) (h0 : I [] w) (a₁ : α → Act)
    (hassign : ∀ (l : Nat) (x : α) (W : World) (K : Act → World → Prop), K (a₁ x) W →
      assign.wpIn (Fence.wide.inRound l) (n - 1 - 1) P (Exit.then K (fun _ _ _ => False)) { tmps := (ps.zip (encs x)).foldl (fun t (p, v) => t.setIfInBounds p v) a.tmps, defers := [] } W)
    (hbody : ∀ (l : Nat) (pre : List α) (x : α) (W : World), I pre W → pre.length < N → body.wpIn (Fence.wide.inRound l) (n - 1 - 1) P (RoundEnds w.heap.size Kp I Ix (pre ++ [x]) W) (a₁ x) W)
    (hdone : ∀ (D : Nat) (xs : List α) (W : World), w.heap.size ≤ D → S xs → I xs W → W.heap[D]? = some (.deferred (some [])) → Q .normal { a with defers := { target := .collected D, args := #[] } :: a.defers } W)
    (hstop : ∀ (D : Nat) (pre : List α) (W : World), w.heap.size ≤ D → Sp pre → Ix pre W → W.heap[D]? = some (.deferred (some [])) → Code.ret.wpIn Fence.wide n P Q { a with defers := { target := .collected D, args := #[] } :: a.defers } W) :
    (Code.rangeFunc g ps assign body).wpIn Fence.wide n P Q a w := by
  refine wpIn_rangeFunc fun fn hfn => ?_
  -- the loop's record lies in block L, what its rounds defer in block D
  generalize hD : w.heap.size = D at *
  obtain ⟨rc, hrc⟩ : ∃ rc : LoopState → Option Code → Loop, (fun st pe => { state := st, pending := pe, fn, tmps := a.tmps, params := ps, assign, body, defers := D }) = rc := ⟨_, rfl⟩
  have rps : ∀ st pe, (rc st pe).params = ps := fun st pe => by rw [← hrc]
  obtain ⟨W1, hW1⟩ : ∃ W1, (w.alloc (.deferred (some []))).alloc (.loop (rc .ready none)) = W1 := ⟨_, rfl⟩
  have lay1 : W1.heap[D + 1]? = some (.loop (rc .ready none)) ∧ W1.heap[D]? = some (.deferred (some [])) := by
    rw [← hW1]
    constructor
    · have := World.alloc_heap_new (w.alloc (.deferred (some []))) (.loop (rc .ready none))
      rwa [World.size_alloc, hD] at this
    · rw [Below.heap_alloc _ _ _ (by simp; omega)]
      have := World.alloc_heap_new w (.deferred (some []))
      rwa [hD] at this
  have hb1 : Below w.heap.size w W1 := by rw [← hW1]; exact bw_alloc (bw_alloc (Below.refl _ _) _) _
  have hI1 : I [] W1 := by rw [← hW1]; exact hI.alloc _ (hI.alloc _ h0)
  refine ⟨D + 1, [{ target := .collected D, args := #[] }], W1, { target := .fn (.func gf) lb, args := #[.func (.yield (D + 1)) #[] #[]] }, W1, gf, #[.func (.yield (D + 1)) #[] #[]] ++ lb, W1, ?_, ?_, fun _ _ => trivial, ?_, fun _ => h1, ?_⟩
  · have := run_enterLoop_outer (P := P) (w := w) fn a.tmps ps assign body
    rw [hD] at this
    rw [← hW1, ← hrc]; exact this
  · simp only [resolve, hg]
    simp [go_sem]
  · simp [invoke, go_sem, eg]
  refine (hseq (D + 1)
    (fun pre W => I pre W ∧ W.heap[D + 1]? = some (.loop (rc .ready none)) ∧ W.heap[D]? = some (.deferred (some [])))
    (fun pre W => Ix pre W ∧ W.heap[D + 1]? = some (.loop (rc .done (some .ret))) ∧ W.heap[D]? = some (.deferred (some []))) W1 hb1
    (fun s X Y h hxy => ⟨hIs s X Y h.1 hxy, (hSt X Y hxy).same _ _ (by omega) h.2.1 rfl, (hSt X Y hxy).same _ _ (Nat.le_refl _) h.2.2 rfl⟩) ?_ ⟨hI1, lay1.1, lay1.2⟩).mono ?_
  · -- a round
    rintro pre x W ⟨hi, hl, hk⟩ hlen
    have hlt : D + 1 < W.heap.size := lt_of_block hl
    have hy := run_yield (P := P) (args := encs x) hl (by rw [rps]; exact hps x)
    have hbusy : (W.putObj (D + 1) (.loop { rc .ready none with state := .busy })).heap[D + 1]? = some (.loop { rc .ready none with state := .busy }) := World.putObj_heap_same hlt
    have hdef : (W.putObj (D + 1) (.loop { rc .ready none with state := .busy })).heap[D]? = some (.deferred (some [])) := (World.putObj_heap_other (by omega)).trans hk
    have hk0 : Kp W (W.putObj (D + 1) (.loop { rc .ready none with state := .busy })) := hKb _ _ _ _ (by omega) hl rfl rfl
    have hend : ∀ (jump : Option Code) (W3 : World), KeepsFrom D (W.putObj (D + 1) (.loop { rc .ready none with state := .busy })) W3 → W3.heap[D + 1]? = some (.loop { rc .ready none with state := .busy }) ∧
        (Instr.endRound (D + 1) jump).run P W3 = .ok (.bool jump.isNone) (W3.putObj (D + 1) (.loop (rc (if jump.isNone then .ready else .done) jump))) ∧
        (W3.putObj (D + 1) (.loop (rc (if jump.isNone then .ready else .done) jump))).heap[D + 1]? = some (.loop (rc (if jump.isNone then .ready else .done) jump)) ∧
        (W3.putObj (D + 1) (.loop (rc (if jump.isNone then .ready else .done) jump))).heap[D]? = some (.deferred (some [])) := fun jump W3 h3 => by
      have q := h3.same _ _ (by omega) hbusy rfl
      have r := run_endRound (P := P) jump q
      rw [← hrc] at r
      refine ⟨q, ?_, World.putObj_heap_same (lt_of_block q), (World.putObj_heap_other (by omega)).trans (h3.same _ _ (Nat.le_refl _) hdef rfl)⟩
      rw [← hrc]; exact r
    rw [← hrc] at hy
    refine ⟨fn, _, assign, body, hy, roundIn_of_wpIn hfn (hassign _ x W _ ⟨_, run_beginRound hl (by rw [← hrc]), ?_⟩)⟩
    refine wpIn_mono (hbody _ pre x _ (hI.putObj _ hi (by omega) hl rfl) hlen) ?_
    intro e a3 W3 hp
    cases e with
    | normal =>
      obtain ⟨p1, p2, p3⟩ := hp
      obtain ⟨q, r, r1, r2⟩ := hend none W3 p1
      exact ⟨_, _, r, .inl ⟨rfl, ⟨hI.putObj _ p3 (by omega) q rfl, r1, r2⟩, hKt (hKt hk0 p2) (hKb _ _ _ _ (by omega) q rfl rfl)⟩⟩
    | ret =>
      obtain ⟨p1, p2⟩ := hp
      obtain ⟨q, r, r1, r2⟩ := hend (some .ret) W3 p1
      exact ⟨_, _, r, .inr ⟨rfl, hIx.putObj _ p2 (by omega) q rfl, r1, r2⟩⟩
    | exit _ => exact hp.elim
    | goto _ => exact hp.elim
    | panic _ => exact hp.elim
    | outgrown => exact hp.elim
  · -- behind the last one
    rintro e W2 ⟨⟨v, rfl⟩, (⟨xs, hS, hi, hl, hk⟩ | ⟨pre, hSp, hi, hl, hk⟩)⟩
    · have r := run_endLoop (P := P) hl (by rw [← hrc]; simp)
      rw [← hrc] at r hl
      exact ⟨none, _, r, hdone _ xs _ (Nat.le_refl _) hS (hI.putObj _ hi (by omega) hl rfl) ((World.putObj_heap_other (by omega)).trans hk)⟩
    · have r := run_endLoop (P := P) hl (by rw [← hrc]; simp)
      rw [← hrc] at r hl
      exact ⟨some .ret, _, r, hstop _ pre _ (Nat.le_refl _) hSp (hIx.putObj _ hi (by omega) hl rfl) ((World.putObj_heap_other (by omega)).trans hk)⟩
end Go.Proofs.YtlpffgmfgkleiaaDoor

/-
  The pieces of a text between commas, in plain words.
-/
namespace Go.Proofs.YtlpffgmfgkleiaaDoor
open Go.RowKit Go.Maps

def prun (s : ByteArray) : Nat → List ByteArray × Nat
  | 0 => ([], 0)
  | i + 1 => if i < s.size ∧ byteAt s i ≠ 44 then prun s i else ((prun s i).1 ++ [s.extract (prun s i).2 i], i + 1)
def pieces (s : ByteArray) : List ByteArray := (prun s (s.size + 1)).1
theorem prun_len (s : ByteArray) : ∀ i, (prun s i).1.length ≤ i
  | 0 => by simp [prun]
  | i + 1 => by
    have := prun_len s i
    rw [prun]
    split
    · omega
    · simp; omega
theorem prun_pre (s : ByteArray) (i : Nat) : ∀ j, i ≤ j → (prun s i).1 <+: (prun s j).1 := by
  intro j
  induction j with
  | zero => intro h; obtain rfl : i = 0 := by omega
            exact List.prefix_rfl
  | succ j ih =>
    intro h
    rcases Nat.lt_or_ge j i with q | q
    · obtain rfl : i = j + 1 := by omega
      exact List.prefix_rfl
    · rw [prun]
      split
      · exact ih q
      · exact (ih q).trans (List.prefix_append _ _)
theorem prun_on (s : ByteArray) (f : Nat) : ∀ k, (∀ j, f ≤ j → j < f + k → j < s.size ∧ byteAt s j ≠ 44) → prun s (f + k) = prun s f
  | 0, _ => rfl
  | k + 1, h => by
    rw [← Nat.add_assoc, prun, if_pos (h (f + k) (by omega) (by omega))]
    exact prun_on s f k (fun j h1 h2 => h j h1 (by omega))
/-- The numbers of a row of texts. -/
def numsL (most : Int) : List ByteArray → Option (List Int)
  | [] => some []
  | x :: r => match numOf x most with
    | none => none
    | some n => (numsL most r).map fun l => (n : Int) :: l
theorem numsL_snoc (most : Int) (x : ByteArray) : ∀ l : List ByteArray, numsL most (l ++ [x]) = match numsL most l with
    | none => none
    | some q => match numOf x most with
      | none => none
      | some n => some (q ++ [(n : Int)])
  | [] => by
    rw [List.nil_append, numsL, numsL]
    cases numOf x most <;> rfl
  | y :: l => by
    rw [List.cons_append, numsL, numsL, numsL_snoc most x l]
    cases numOf y most with
    | none => rfl
    | some m =>
      cases numsL most l with
      | none => rfl
      | some q =>
        cases numOf x most with
        | none => rfl
        | some n => rfl
theorem numsL_pre (most : Int) {a b : List ByteArray} (h : a <+: b) (ha : numsL most a = none) : numsL most b = none := by
  obtain ⟨t, rfl⟩ := h
  induction a with
  | nil => cases ha
  | cons x a ih =>
    rw [List.cons_append, numsL]
    rw [numsL] at ha
    cases hx : numOf x most with
    | none => rfl
    | some n =>
      rw [hx] at ha
      simp only [Option.map_eq_none_iff] at ha
      simp only []
      rw [ih ha]; rfl
theorem nsrun_is (s : ByteArray) (most : Int) : ∀ i, nsrun s most i = (numsL most (prun s i).1).map fun l => (l, (prun s i).2)
  | 0 => rfl
  | i + 1 => by
    rw [nsrun, nsrun_is s most i]
    by_cases h : i < s.size ∧ byteAt s i ≠ 44
    · rw [prun, if_pos h]
      cases numsL most (prun s i).1 with
      | none => rfl
      | some l => simp only [Option.map_some, if_pos h]
    · rw [prun, if_neg h, numsL_snoc]
      cases numsL most (prun s i).1 with
      | none => rfl
      | some l =>
        simp only [Option.map_some, if_neg h]
        cases numOf (s.extract (prun s i).2 i) most with
        | none => rfl
        | some n => rfl
theorem numsOf_is (s : ByteArray) (most : Int) : numsOf s most = numsL most (pieces s) := by
  unfold numsOf pieces
  rw [nsrun_is]
  cases numsL most (prun s (s.size + 1)).1 with
  | none => rfl
  | some l => rfl
theorem ex_ex (s : ByteArray) (f i k : Nat) (hk : f + k ≤ s.size) : (s.extract f s.size).extract i k = s.extract (f + i) (f + k) := by
  apply ByteArray.ext
  rw [ByteArray.data_extract, ByteArray.data_extract, ByteArray.data_extract, Array.extract_extract]
  congr 1
  have : s.data.size = s.size := rfl
  omega
theorem byteAt_ex (s : ByteArray) (f : Nat) {j : Nat} (hj : f + j < s.size) : byteAt (s.extract f s.size) j = byteAt s (f + j) := by
  have h1 : j < (s.extract f s.size).size := by rw [ByteArray.size_extract]; omega
  rw [(byteAt_in _ h1).2, (byteAt_in s hj).2]
  congr 1
  exact ByteArray.getElem_extract ..
/-- A comma further. -/
theorem piece_step (s : ByteArray) {f i : Nat} (hf : (prun s f).2 = f) (hle : f ≤ s.size) (h : FirstByte (s.extract f s.size) 44 i) :
    f + i + 1 ≤ s.size ∧ prun s (f + i + 1) = ((prun s f).1 ++ [(s.extract f s.size).extract 0 i], f + i + 1) ∧ (s.extract f s.size).extract (i + 1) (s.extract f s.size).size = s.extract (f + i + 1) s.size := by
  obtain ⟨h1, h2, h3⟩ := h
  have hsz : (s.extract f s.size).size = s.size - f := by rw [ByteArray.size_extract]; omega
  rw [hsz] at h1
  refine ⟨by omega, ?_, ?_⟩
  · rw [prun, if_neg, prun_on s f i, hf, ex_ex s f 0 i (by omega)]
    · rfl
    · intro j a b
      refine ⟨by omega, ?_⟩
      have := h3 (j - f) (by omega)
      rw [byteAt_ex s f (by omega)] at this
      rwa [show f + (j - f) = j by omega] at this
    · rintro ⟨a, b⟩
      rw [byteAt_ex s f (by omega)] at h2
      exact b h2
  · rw [hsz, ex_ex s f (i + 1) (s.size - f) (by omega)]
    congr 1
    omega
theorem piece_last (s : ByteArray) {f : Nat} (hf : (prun s f).2 = f) (hle : f ≤ s.size) (h : NoByte (s.extract f s.size) 44) : pieces s = (prun s f).1 ++ [s.extract f s.size] := by
  have hsz : (s.extract f s.size).size = s.size - f := by rw [ByteArray.size_extract]; omega
  have e : prun s s.size = prun s f := by
    have := prun_on s f (s.size - f) (fun j a b => ⟨by omega, ?_⟩)
    · rwa [show f + (s.size - f) = s.size by omega] at this
    · have := h (j - f) (by rw [hsz]; omega)
      rw [byteAt_ex s f (by omega)] at this
      rwa [show f + (j - f) = j by omega] at this
  unfold pieces
  rw [prun, if_neg (by omega), e, hf]
end Go.Proofs.YtlpffgmfgkleiaaDoor

/-
  DERIVED: THE SHELF's CONTRACTS AT THIS DUMP, IN PLAIN WORDS (tools/lay-plain.mjs out of 'TrydShelf.lean', which tools/lay-shelf.mjs wrote): THE SAME DECLARATIONS UNDER THE SAME NAMES: 'import', 'namespace', 'open', 'def', 'theorem' AND NOTHING ELSE: no command of the shelf's: FOR A HAND-IN. Each laying: the table of numbers ('.._ren') and one theorem, a field a fact of the dump's own or the kernel's comparison; each contract: ONE APPLICATION.
-/
namespace Go.Proofs
open Go.Shelf
def Tryd.lays169_ren : Go.Shelf.Ren := ⟨fun | 169 => 32 | n => n, fun | 70 => 77 | 9 => 9 | 0 => 0 | 72 => 79 | 37 => 34 | 127 => 114 | 3 => 3 | 5 => 5 | n => n, fun | n => n⟩
theorem Tryd.lays169 : Go.Proofs.Lays.n169 Tryd.prog Tryd.lays169_ren := {
  mixed := by kernel_rfl
  f169 := Tryd.func32.trans (congrArg some (by kernel_rfl))
  t0 := Tryd.underlying0
  a0 := Tryd.isAgg0
  z0 := Tryd.sizeOf0
  v0 := Tryd.zeroValue0
  t3 := Tryd.underlying3
  a3 := Tryd.isAgg3
  z3 := Tryd.sizeOf3
  v3 := Tryd.zeroValue3
  t9 := Tryd.underlying9
  a9 := Tryd.isAgg9
  z9 := Tryd.sizeOf9
  v9 := Tryd.zeroValue9
  t37 := Tryd.underlying34
  a37 := Tryd.isAgg34
  z37 := Tryd.sizeOf34
  v37 := Tryd.zeroValue34
  t70 := Tryd.underlying77
  a70 := Tryd.isAgg77
  z70 := Tryd.sizeOf77
  v70 := Tryd.zeroValue77
  t72 := Tryd.underlying79
  a72 := Tryd.isAgg79
  z72 := Tryd.sizeOf79
  v72 := Tryd.zeroValue79
  t127 := Tryd.underlying114
  a127 := Tryd.isAgg114
  z127 := Tryd.sizeOf114
  v127 := Tryd.zeroValue114 }
theorem Tryd.Builder_Extra_169 : Builder.Extra Tryd.prog Tryd.lays169_ren := {
  sizeBuilder := by kernel_rfl
  liesBuilder := by kernel_rfl
  t5 := Tryd.underlying5
  a5 := Tryd.isAgg5
  z5 := Tryd.sizeOf5
  v5 := Tryd.zeroValue5
  infoByte := by kernel_rfl
  cellsByte := by kernel_rfl
  sizeByte := by kernel_rfl
  neB5 := by decide }
def Tryd.lays156_ren : Go.Shelf.Ren := ⟨fun | 156 => 56 | 165 => 75 | 166 => 29 | 169 => 32 | 240 => 51 | 241 => 95 | 276 => 68 | 277 => 103 | n => n, fun | 31 => 111 | 9 => 9 | 3 => 3 | 4 => 4 | 0 => 0 | 20 => 20 | 72 => 79 | 76 => 82 | 70 => 77 | 37 => 34 | 75 => 81 | 127 => 114 | 164 => 136 | 5 => 5 | 80 => 84 | n => n, fun | n => n⟩
theorem Tryd.lays156 : Go.Proofs.Lays.n156 Tryd.prog Tryd.lays156_ren := {
  mixed := by kernel_rfl
  f156 := Tryd.func56.trans (congrArg some (by kernel_rfl))
  f165 := Tryd.func75.trans (congrArg some (by kernel_rfl))
  f166 := Tryd.func29.trans (congrArg some (by kernel_rfl))
  f169 := Tryd.func32.trans (congrArg some (by kernel_rfl))
  f240 := Tryd.func51.trans (congrArg some (by kernel_rfl))
  f241 := Tryd.func95.trans (congrArg some (by kernel_rfl))
  f276 := Tryd.func68.trans (congrArg some (by kernel_rfl))
  f277 := Tryd.func103.trans (congrArg some (by kernel_rfl))
  t0 := Tryd.underlying0
  a0 := Tryd.isAgg0
  z0 := Tryd.sizeOf0
  v0 := Tryd.zeroValue0
  t3 := Tryd.underlying3
  a3 := Tryd.isAgg3
  z3 := Tryd.sizeOf3
  v3 := Tryd.zeroValue3
  t4 := Tryd.underlying4
  a4 := Tryd.isAgg4
  z4 := Tryd.sizeOf4
  v4 := Tryd.zeroValue4
  t9 := Tryd.underlying9
  a9 := Tryd.isAgg9
  z9 := Tryd.sizeOf9
  v9 := Tryd.zeroValue9
  t20 := Tryd.underlying20
  a20 := Tryd.isAgg20
  z20 := Tryd.sizeOf20
  v20 := Tryd.zeroValue20
  t31 := Tryd.underlying111
  a31 := Tryd.isAgg111
  z31 := Tryd.sizeOf111
  v31 := Tryd.zeroValue111
  t37 := Tryd.underlying34
  a37 := Tryd.isAgg34
  z37 := Tryd.sizeOf34
  v37 := Tryd.zeroValue34
  t70 := Tryd.underlying77
  a70 := Tryd.isAgg77
  z70 := Tryd.sizeOf77
  v70 := Tryd.zeroValue77
  t72 := Tryd.underlying79
  a72 := Tryd.isAgg79
  z72 := Tryd.sizeOf79
  v72 := Tryd.zeroValue79
  t75 := Tryd.underlying81
  a75 := Tryd.isAgg81
  z75 := Tryd.sizeOf81
  v75 := Tryd.zeroValue81
  t76 := Tryd.underlying82
  a76 := Tryd.isAgg82
  z76 := Tryd.sizeOf82
  v76 := Tryd.zeroValue82
  t127 := Tryd.underlying114
  a127 := Tryd.isAgg114
  z127 := Tryd.sizeOf114
  v127 := Tryd.zeroValue114
  t164 := Tryd.underlying136
  a164 := Tryd.isAgg136
  z164 := Tryd.sizeOf136
  v164 := Tryd.zeroValue136 }
theorem Tryd.Builder_Extra_156 : Builder.Extra Tryd.prog Tryd.lays156_ren := {
  sizeBuilder := by kernel_rfl
  liesBuilder := by kernel_rfl
  t5 := Tryd.underlying5
  a5 := Tryd.isAgg5
  z5 := Tryd.sizeOf5
  v5 := Tryd.zeroValue5
  infoByte := by kernel_rfl
  cellsByte := by kernel_rfl
  sizeByte := by kernel_rfl
  neB5 := by decide }
open Go.RowKit in
/-- No element: the empty string; the world is as it was. (Whatever the slice's address and capacity: a nil slice too.) (LAID: no walk: one application.) -/
theorem Tryd.strings_Join_none (a : Option Addr) (c : Nat) (sep : ByteArray) (w : World) :
    Calls Tryd.prog 56 #[.slice a 0 c, .string sep] w fun e w' => e = .returned (.string ⟨#[]⟩) ∧ w' = w := Any.strings_Join_none Tryd.lays156 Tryd.Builder_Extra_156 a c sep w
open Go.RowKit in
/-- strings.Join: "Join concatenates the elements of its first argument to create a single string. The separator string sep is placed between elements in the resulting string.": HOWEVER MANY ELEMENTS. Below the heap's end the world is as it was. (LAID: no walk: one application.) -/
theorem Tryd.strings_Join (bk o c : Nat) (xs : List ByteArray) (sep : ByteArray) (w : World) (hcells : ∀ (j : Nat) x, xs[j]? = some x → w.cell? ⟨bk, o + j, none⟩ = some (.string x)) (hbk : bk < w.heap.size) (hN : xs.length ≤ 140737488355328) (hcap : xs.length ≤ c) (hlen : (Lib.join (xs.map (·.data.toList)) sep.data.toList).length ≤ 140737488355328) :
    Calls Tryd.prog 56 #[.slice (some ⟨bk, o, none⟩) xs.length c, .string sep] w fun e w' => e = .returned (.string ⟨(Lib.join (xs.map (·.data.toList)) sep.data.toList).toArray⟩) ∧ Below w.heap.size w w' := Any.strings_Join Tryd.lays156 Tryd.Builder_Extra_156 bk o c xs sep w hcells hbk hN hcap hlen
open Go.RowKit in
/-- (*strings.Builder).String: "String returns the accumulated string.": WHATEVER THE BUILDER HOLDS; THE FORM '_k': OVER 'Lib.IsBuilderF' (a builder that 'String()' may have read), AND WITH THE FRAME THAT REACHES ABOVE THE BUILDER: 'Lib.OthersKept': every block that is not b and is no row of uint8's stands as it stood: the iterator of a range among them. (LAID: no walk: one application.) -/
theorem Tryd.Builder_String_any_k (B b : Nat) (l : List UInt8) (w : World) (h : Lib.IsBuilderF 79 5 B b (Lib.byteCells l) w) (hBw : B ≤ w.heap.size) :
    Calls Tryd.prog 32 #[.pointer (some ⟨b, 0, none⟩)] w fun e w' => e = .returned (.string ⟨l.toArray⟩) ∧ (Lib.IsBuilderF 79 5 B b (Lib.byteCells l) w' ∧ Below B w w' ∧ Lib.OthersKept 5 (some b) w w') := Any.Builder_String_any_k Tryd.lays169 Tryd.Builder_Extra_169 B b l w h hBw
def Tryd.laysM173_ren : Go.Shelf.Ren := ⟨fun | 173 => 52 | 246 => 69 | 283 => 90 | 284 => 91 | 285 => 92 | 286 => 93 | 129 => 99 | 317 => 98 | 318 => 100 | 319 => 101 | 320 => 102 | 337 => 106 | 338 => 107 | n => n, fun | 2 => 2 | 3 => 3 | 9 => 9 | 4 => 4 | 171 => 153 | 0 => 0 | 53 => 87 | 37 => 34 | 5 => 5 | 173 => 156 | 212 => 164 | 51 => 165 | 20 => 20 | 213 => 166 | 46 => 116 | 232 => 174 | 233 => 175 | n => n, fun | 17 => 0 | 18 => 2 | 19 => 3 | n => n⟩
theorem Tryd.laysM173 : Go.Proofs.LaysM.n173 Tryd.prog Tryd.laysM173_ren := {
  mixed := by kernel_rfl
  f129 := Tryd.func99.trans (congrArg some (by kernel_rfl))
  f173 := Tryd.func52.trans (congrArg some (by kernel_rfl))
  f246 := Tryd.func69.trans (congrArg some (by kernel_rfl))
  f283 := Tryd.func90.trans (congrArg some (by kernel_rfl))
  f284 := Tryd.func91.trans (congrArg some (by kernel_rfl))
  f285 := Tryd.func92.trans (congrArg some (by kernel_rfl))
  f286 := Tryd.func93.trans (congrArg some (by kernel_rfl))
  f317 := Tryd.func98.trans (congrArg some (by kernel_rfl))
  f318 := Tryd.func100.trans (congrArg some (by kernel_rfl))
  f319 := Tryd.func101.trans (congrArg some (by kernel_rfl))
  f320 := Tryd.func102.trans (congrArg some (by kernel_rfl))
  f337 := Tryd.func106.trans (congrArg some (by kernel_rfl))
  f338 := Tryd.func107.trans (congrArg some (by kernel_rfl))
  t0 := Tryd.underlying0
  a0 := Tryd.isAgg0
  z0 := Tryd.sizeOf0
  v0 := Tryd.zeroValue0
  t2 := Tryd.underlying2
  a2 := Tryd.isAgg2
  z2 := Tryd.sizeOf2
  v2 := Tryd.zeroValue2
  t3 := Tryd.underlying3
  a3 := Tryd.isAgg3
  z3 := Tryd.sizeOf3
  v3 := Tryd.zeroValue3
  t4 := Tryd.underlying4
  a4 := Tryd.isAgg4
  z4 := Tryd.sizeOf4
  v4 := Tryd.zeroValue4
  t5 := Tryd.underlying5
  a5 := Tryd.isAgg5
  z5 := Tryd.sizeOf5
  v5 := Tryd.zeroValue5
  t9 := Tryd.underlying9
  a9 := Tryd.isAgg9
  z9 := Tryd.sizeOf9
  v9 := Tryd.zeroValue9
  t20 := Tryd.underlying20
  a20 := Tryd.isAgg20
  z20 := Tryd.sizeOf20
  v20 := Tryd.zeroValue20
  t37 := Tryd.underlying34
  a37 := Tryd.isAgg34
  z37 := Tryd.sizeOf34
  v37 := Tryd.zeroValue34
  t46 := Tryd.underlying116
  a46 := Tryd.isAgg116
  z46 := Tryd.sizeOf116
  v46 := Tryd.zeroValue116
  t51 := Tryd.underlying165
  a51 := Tryd.isAgg165
  z51 := Tryd.sizeOf165
  v51 := Tryd.zeroValue165
  t53 := Tryd.underlying87
  a53 := Tryd.isAgg87
  z53 := Tryd.sizeOf87
  v53 := Tryd.zeroValue87
  t171 := Tryd.underlying153
  a171 := Tryd.isAgg153
  z171 := Tryd.sizeOf153
  v171 := Tryd.zeroValue153
  t173 := Tryd.underlying156
  a173 := Tryd.isAgg156
  z173 := Tryd.sizeOf156
  v173 := Tryd.zeroValue156
  t212 := Tryd.underlying164
  a212 := Tryd.isAgg164
  z212 := Tryd.sizeOf164
  v212 := Tryd.zeroValue164
  t213 := Tryd.underlying166
  a213 := Tryd.isAgg166
  z213 := Tryd.sizeOf166
  t232 := Tryd.underlying174
  a232 := Tryd.isAgg174
  z232 := Tryd.sizeOf174
  v232 := Tryd.zeroValue174
  t233 := Tryd.underlying175
  a233 := Tryd.isAgg175
  z233 := Tryd.sizeOf175
  v233 := Tryd.zeroValue175
  g17 := by kernel_rfl
  g18 := by kernel_rfl
  g19 := by kernel_rfl
  i0 := by kernel_rfl
  i2 := by kernel_rfl
  i3 := by kernel_rfl
  i4 := by kernel_rfl
  i5 := by kernel_rfl
  i9 := by kernel_rfl
  i20 := by kernel_rfl
  i37 := by kernel_rfl
  i46 := by kernel_rfl
  i51 := by kernel_rfl
  i53 := by kernel_rfl
  i171 := by kernel_rfl
  i173 := by kernel_rfl
  i212 := by kernel_rfl
  i232 := by kernel_rfl
  i233 := by kernel_rfl
  m17 := by kernel_rfl
  m18 := by kernel_rfl
  m19 := by kernel_rfl }
open Go.RowKit Go.Sort Go.Lib in
/-- strconv.FormatInt: "FormatInt returns the string representation of i in the given base": AT BASE 10: i's decimal numeral, for every int64. (LAID: no walk: one application.) -/
theorem Tryd.strconv_FormatInt_10 (n : Int) (h0 : -9223372036854775808 ≤ n) (h1 : n ≤ 9223372036854775807) (w : World) (htab : Lib.TabIs Tryd.prog w "internal/strconv.uint64pow10" .u64 Lib.pow10Tab) :
    Calls Tryd.prog 52 #[.int .i64 n, .int .i64 10] w fun e w' => e = .returned (.string ⟨(Lib.itoa n).toArray⟩) ∧ ∃ k os, w' = grow (w.drewN k) os := Any.strconv_FormatInt_10 Tryd.laysM173 n h0 h1 w htab
def Tryd.lays173_ren : Go.Shelf.Ren := ⟨fun | 173 => 52 | 246 => 69 | 283 => 90 | 284 => 91 | 285 => 92 | 286 => 93 | 129 => 99 | 317 => 98 | 318 => 100 | 319 => 101 | 320 => 102 | 337 => 106 | 338 => 107 | n => n, fun | 2 => 2 | 3 => 3 | 9 => 9 | 4 => 4 | 171 => 153 | 0 => 0 | 53 => 87 | 37 => 34 | 5 => 5 | 173 => 156 | 212 => 164 | 51 => 165 | 20 => 20 | 213 => 166 | 46 => 116 | 232 => 174 | 233 => 175 | n => n, fun | 17 => 0 | 18 => 2 | 19 => 3 | n => n⟩
theorem Tryd.lays173 : Go.Proofs.Lays.n173 Tryd.prog Tryd.lays173_ren := {
  mixed := by kernel_rfl
  f129 := Tryd.func99.trans (congrArg some (by kernel_rfl))
  f173 := Tryd.func52.trans (congrArg some (by kernel_rfl))
  f246 := Tryd.func69.trans (congrArg some (by kernel_rfl))
  f283 := Tryd.func90.trans (congrArg some (by kernel_rfl))
  f284 := Tryd.func91.trans (congrArg some (by kernel_rfl))
  f285 := Tryd.func92.trans (congrArg some (by kernel_rfl))
  f286 := Tryd.func93.trans (congrArg some (by kernel_rfl))
  f317 := Tryd.func98.trans (congrArg some (by kernel_rfl))
  f318 := Tryd.func100.trans (congrArg some (by kernel_rfl))
  f319 := Tryd.func101.trans (congrArg some (by kernel_rfl))
  f320 := Tryd.func102.trans (congrArg some (by kernel_rfl))
  f337 := Tryd.func106.trans (congrArg some (by kernel_rfl))
  f338 := Tryd.func107.trans (congrArg some (by kernel_rfl))
  t0 := Tryd.underlying0
  a0 := Tryd.isAgg0
  z0 := Tryd.sizeOf0
  v0 := Tryd.zeroValue0
  t2 := Tryd.underlying2
  a2 := Tryd.isAgg2
  z2 := Tryd.sizeOf2
  v2 := Tryd.zeroValue2
  t3 := Tryd.underlying3
  a3 := Tryd.isAgg3
  z3 := Tryd.sizeOf3
  v3 := Tryd.zeroValue3
  t4 := Tryd.underlying4
  a4 := Tryd.isAgg4
  z4 := Tryd.sizeOf4
  v4 := Tryd.zeroValue4
  t5 := Tryd.underlying5
  a5 := Tryd.isAgg5
  z5 := Tryd.sizeOf5
  v5 := Tryd.zeroValue5
  t9 := Tryd.underlying9
  a9 := Tryd.isAgg9
  z9 := Tryd.sizeOf9
  v9 := Tryd.zeroValue9
  t20 := Tryd.underlying20
  a20 := Tryd.isAgg20
  z20 := Tryd.sizeOf20
  v20 := Tryd.zeroValue20
  t37 := Tryd.underlying34
  a37 := Tryd.isAgg34
  z37 := Tryd.sizeOf34
  v37 := Tryd.zeroValue34
  t46 := Tryd.underlying116
  a46 := Tryd.isAgg116
  z46 := Tryd.sizeOf116
  v46 := Tryd.zeroValue116
  t51 := Tryd.underlying165
  a51 := Tryd.isAgg165
  z51 := Tryd.sizeOf165
  v51 := Tryd.zeroValue165
  t53 := Tryd.underlying87
  a53 := Tryd.isAgg87
  z53 := Tryd.sizeOf87
  v53 := Tryd.zeroValue87
  t171 := Tryd.underlying153
  a171 := Tryd.isAgg153
  z171 := Tryd.sizeOf153
  v171 := Tryd.zeroValue153
  t173 := Tryd.underlying156
  a173 := Tryd.isAgg156
  z173 := Tryd.sizeOf156
  v173 := Tryd.zeroValue156
  t212 := Tryd.underlying164
  a212 := Tryd.isAgg164
  z212 := Tryd.sizeOf164
  v212 := Tryd.zeroValue164
  t213 := Tryd.underlying166
  a213 := Tryd.isAgg166
  z213 := Tryd.sizeOf166
  t232 := Tryd.underlying174
  a232 := Tryd.isAgg174
  z232 := Tryd.sizeOf174
  v232 := Tryd.zeroValue174
  t233 := Tryd.underlying175
  a233 := Tryd.isAgg175
  z233 := Tryd.sizeOf175
  v233 := Tryd.zeroValue175
  g17 := by kernel_rfl
  g18 := by kernel_rfl
  g19 := by kernel_rfl }
open Go.RowKit Go.Sort Go.Lib in
/-- THE ROAD WITHOUT THE TABLE: 0 <= i < 100. (LAID: no walk: one application.) -/
theorem Tryd.strconv_FormatInt_10_small (i : Nat) (hi : i < 100) (w : World) :
    Calls Tryd.prog 52 #[.int .i64 i, .int .i64 10] w fun e w' => e = .returned (.string ⟨(Lib.decDigits i).toArray⟩) ∧ w' = w := Any.strconv_FormatInt_10_small Tryd.lays173 i hi w
def Tryd.lays143_ren : Go.Shelf.Ren := ⟨fun | 143 => 111 | 219 => 108 | 217 => 112 | 225 => 113 | 224 => 114 | 267 => 115 | 266 => 117 | 314 => 118 | n => n, fun | 9 => 9 | 3 => 3 | 4 => 4 | 5 => 5 | 46 => 116 | 146 => 177 | 51 => 165 | n => n, fun | 1 => 1 | n => n⟩
theorem Tryd.lays143 : Go.Proofs.Lays.n143 Tryd.prog Tryd.lays143_ren := {
  mixed := by kernel_rfl
  f143 := Tryd.func111.trans (congrArg some (by kernel_rfl))
  f217 := Tryd.func112.trans (congrArg some (by kernel_rfl))
  f219 := Tryd.func108.trans (congrArg some (by kernel_rfl))
  f224 := Tryd.func114.trans (congrArg some (by kernel_rfl))
  f225 := Tryd.func113.trans (congrArg some (by kernel_rfl))
  f266 := Tryd.func117.trans (congrArg some (by kernel_rfl))
  f267 := Tryd.func115.trans (congrArg some (by kernel_rfl))
  f314 := Tryd.func118.trans (congrArg some (by kernel_rfl))
  t3 := Tryd.underlying3
  a3 := Tryd.isAgg3
  z3 := Tryd.sizeOf3
  v3 := Tryd.zeroValue3
  t4 := Tryd.underlying4
  a4 := Tryd.isAgg4
  z4 := Tryd.sizeOf4
  v4 := Tryd.zeroValue4
  t5 := Tryd.underlying5
  a5 := Tryd.isAgg5
  z5 := Tryd.sizeOf5
  v5 := Tryd.zeroValue5
  t9 := Tryd.underlying9
  a9 := Tryd.isAgg9
  z9 := Tryd.sizeOf9
  v9 := Tryd.zeroValue9
  t46 := Tryd.underlying116
  a46 := Tryd.isAgg116
  z46 := Tryd.sizeOf116
  v46 := Tryd.zeroValue116
  t51 := Tryd.underlying165
  a51 := Tryd.isAgg165
  z51 := Tryd.sizeOf165
  v51 := Tryd.zeroValue165
  t146 := Tryd.underlying177
  a146 := Tryd.isAgg177
  z146 := Tryd.sizeOf177
  v146 := Tryd.zeroValue177
  g1 := by kernel_rfl }
open Go.RowKit Go.Lib in
/-- strings.Index: "Index returns the index of the first instance of substr in s, or -1 if substr is not present in s.": AT A substr OF ONE BYTE c: IT RETURNS 'Lib.indexByte s c'; the world is as it was. (LAID: no walk: one application.) -/
theorem Tryd.strings_Index_one (s : ByteArray) (c : UInt8) (w : World) :
    Calls Tryd.prog 111 #[.string s, .string ⟨#[c]⟩] w fun e w' => e = .returned (.int .i64 (Lib.indexByte s.data.toList c)) ∧ w' = w := Any.strings_Index_one Tryd.lays143 s c w
end Go.Proofs

/-
  What writes to a text that is being built does, at this program.
-/
namespace Go.Proofs
open Go.Shelf
def Tryd.buildRen : Go.Shelf.Ren := ⟨fun | 166 => 29 | 167 => 74 | 240 => 51 | 276 => 68 | n => n, fun | 0 => 0 | 3 => 3 | 4 => 4 | 5 => 5 | 9 => 9 | 20 => 20 | 37 => 34 | 70 => 77 | 72 => 79 | 75 => 81 | 80 => 84 | 164 => 136 | n => n, fun | n => n⟩
theorem Tryd.buildLays167 : Go.Proofs.Lays.n167 Tryd.prog Tryd.buildRen := {
  mixed := by kernel_rfl
  f167 := Tryd.func74.trans (congrArg some (by kernel_rfl))
  f240 := Tryd.func51.trans (congrArg some (by kernel_rfl))
  f276 := Tryd.func68.trans (congrArg some (by kernel_rfl))
  t0 := Tryd.underlying0
  a0 := Tryd.isAgg0
  z0 := Tryd.sizeOf0
  v0 := Tryd.zeroValue0
  t4 := Tryd.underlying4
  a4 := Tryd.isAgg4
  z4 := Tryd.sizeOf4
  v4 := Tryd.zeroValue4
  t5 := Tryd.underlying5
  a5 := Tryd.isAgg5
  z5 := Tryd.sizeOf5
  v5 := Tryd.zeroValue5
  t9 := Tryd.underlying9
  a9 := Tryd.isAgg9
  z9 := Tryd.sizeOf9
  v9 := Tryd.zeroValue9
  t20 := Tryd.underlying20
  a20 := Tryd.isAgg20
  z20 := Tryd.sizeOf20
  v20 := Tryd.zeroValue20
  t37 := Tryd.underlying34
  a37 := Tryd.isAgg34
  z37 := Tryd.sizeOf34
  v37 := Tryd.zeroValue34
  t70 := Tryd.underlying77
  a70 := Tryd.isAgg77
  z70 := Tryd.sizeOf77
  v70 := Tryd.zeroValue77
  t72 := Tryd.underlying79
  a72 := Tryd.isAgg79
  z72 := Tryd.sizeOf79
  v72 := Tryd.zeroValue79
  t75 := Tryd.underlying81
  a75 := Tryd.isAgg81
  z75 := Tryd.sizeOf81
  v75 := Tryd.zeroValue81
  t164 := Tryd.underlying136
  a164 := Tryd.isAgg136
  z164 := Tryd.sizeOf136
  v164 := Tryd.zeroValue136 }
theorem Tryd.buildLays166 : Go.Proofs.Lays.n166 Tryd.prog Tryd.buildRen := {
  mixed := by kernel_rfl
  f166 := Tryd.func29.trans (congrArg some (by kernel_rfl))
  f240 := Tryd.func51.trans (congrArg some (by kernel_rfl))
  f276 := Tryd.func68.trans (congrArg some (by kernel_rfl))
  t0 := Tryd.underlying0
  a0 := Tryd.isAgg0
  z0 := Tryd.sizeOf0
  v0 := Tryd.zeroValue0
  t3 := Tryd.underlying3
  a3 := Tryd.isAgg3
  z3 := Tryd.sizeOf3
  v3 := Tryd.zeroValue3
  t4 := Tryd.underlying4
  a4 := Tryd.isAgg4
  z4 := Tryd.sizeOf4
  v4 := Tryd.zeroValue4
  t9 := Tryd.underlying9
  a9 := Tryd.isAgg9
  z9 := Tryd.sizeOf9
  v9 := Tryd.zeroValue9
  t20 := Tryd.underlying20
  a20 := Tryd.isAgg20
  z20 := Tryd.sizeOf20
  v20 := Tryd.zeroValue20
  t37 := Tryd.underlying34
  a37 := Tryd.isAgg34
  z37 := Tryd.sizeOf34
  v37 := Tryd.zeroValue34
  t70 := Tryd.underlying77
  a70 := Tryd.isAgg77
  z70 := Tryd.sizeOf77
  v70 := Tryd.zeroValue77
  t72 := Tryd.underlying79
  a72 := Tryd.isAgg79
  z72 := Tryd.sizeOf79
  v72 := Tryd.zeroValue79
  t75 := Tryd.underlying81
  a75 := Tryd.isAgg81
  z75 := Tryd.sizeOf81
  v75 := Tryd.zeroValue81
  t164 := Tryd.underlying136
  a164 := Tryd.isAgg136
  z164 := Tryd.sizeOf136
  v164 := Tryd.zeroValue136 }
theorem Tryd.buildExtra : Builder.Extra Tryd.prog Tryd.buildRen := {
  sizeBuilder := by kernel_rfl
  liesBuilder := by kernel_rfl
  t5 := Tryd.underlying5
  a5 := Tryd.isAgg5
  z5 := Tryd.sizeOf5
  v5 := Tryd.zeroValue5
  infoByte := by kernel_rfl
  cellsByte := by kernel_rfl
  sizeByte := by kernel_rfl
  neB5 := by decide }
end Go.Proofs

/-
  The walk over a pair, as the program finds it.
-/
namespace Go.Proofs.YtlpffgmfgkleiaaDoor
open Go.RowKit Go.Maps

theorem indexByte_spec (c : UInt8) : ∀ l : List UInt8, (Lib.indexByte l c = -1 ∧ ∀ (j : Nat) (b : UInt8), l[j]? = some b → b ≠ c) ∨ ∃ i : Nat, Lib.indexByte l c = i ∧ l[i]? = some c ∧ ∀ (j : Nat) (b : UInt8), j < i → l[j]? = some b → b ≠ c
  | [] => .inl ⟨rfl, fun j b h => by simp at h⟩
  | x :: l => by
    by_cases hx : x = c
    · right
      refine ⟨0, ?_, by simp [hx], fun j b h => absurd h (Nat.not_lt_zero _)⟩
      rw [Lib.indexByte, if_pos (by rw [hx]; simp)]
      rfl
    · have hne : (x == c) = false := by rw [beq_eq_false_iff_ne]; exact hx
      rcases indexByte_spec c l with ⟨h1, h2⟩ | ⟨i, h1, h2, h3⟩
      · left
        refine ⟨?_, fun j b h => ?_⟩
        · rw [Lib.indexByte, hne, h1]; rfl
        · cases j with
          | zero => simp at h; rw [← h]; exact hx
          | succ j => exact h2 j b (by simpa using h)
      · right
        refine ⟨i + 1, ?_, by simpa using h2, fun j b hj h => ?_⟩
        · rw [Lib.indexByte, hne, h1]
          simp
        · cases j with
          | zero => simp at h; rw [← h]; exact hx
          | succ j => exact h3 j b (by omega) (by simpa using h)
theorem byteAt_list (s : ByteArray) (j : Nat) (h : j < s.size) : ∃ b, s.data.toList[j]? = some b ∧ b.toNat = byteAt s j := by
  refine ⟨s[j], ?_, (byteAt_in s h).2.symm⟩
  have : j < s.data.size := h
  rw [Array.getElem?_toList, Array.getElem?_eq_getElem this]
  rfl
theorem index_spec (s : ByteArray) (c : UInt8) : (NoByte s c.toNat ∧ Lib.indexByte s.data.toList c = -1) ∨ ∃ i, FirstByte s c.toNat i ∧ Lib.indexByte s.data.toList c = (i : Int) := by
  have key : ∀ (j : Nat) (b : UInt8), s.data.toList[j]? = some b → b ≠ c → byteAt s j ≠ c.toNat := fun j b h hne e => by
    have hj : j < s.size := by
      have := (List.getElem?_eq_some_iff.1 h).1
      simpa using this
    obtain ⟨b', h1, h2⟩ := byteAt_list s j hj
    rw [h] at h1
    cases h1
    exact hne (UInt8.toNat_inj.1 (h2.trans e))
  rcases indexByte_spec c s.data.toList with ⟨h1, h2⟩ | ⟨i, h1, h2, h3⟩
  · left
    refine ⟨fun j hj => ?_, h1⟩
    obtain ⟨b, hb, _⟩ := byteAt_list s j hj
    exact key j b hb (h2 j b hb)
  · right
    have hi : i < s.size := by
      have := (List.getElem?_eq_some_iff.1 h2).1
      simpa using this
    refine ⟨i, ⟨hi, ?_, fun j hj => ?_⟩, h1⟩
    · obtain ⟨b, hb, e⟩ := byteAt_list s i hi
      rw [h2] at hb
      cases hb
      exact e.symm
    · obtain ⟨b, hb, _⟩ := byteAt_list s j (by omega)
      exact key j b hb (h3 j b hj hb)
theorem index_any (s : ByteArray) (c : UInt8) (w : World) : Calls Tryd.prog 108 #[.string s, .string ⟨#[c]⟩] w fun e w' => e = .returned (.int .i64 (Lib.indexByte s.data.toList c)) ∧ w' = w :=
  Any.stringslite_Index_one { Tryd.lays143 with } s c w
/-- What a cut gives. -/
def CutIs (s : ByteArray) (x y : ByteArray) (b : Bool) : Prop :=
  (NoByte s 61 ∧ x = s ∧ y = ⟨#[]⟩ ∧ b = false) ∨ ∃ i, FirstByte s 61 i ∧ x = s.extract 0 i ∧ y = s.extract (i + 1) s.size ∧ b = true
set_option maxRecDepth 100000 in
set_option maxHeartbeats 2000000 in
theorem cut_any (s : ByteArray) (hs : (s.size : Int) ≤ 9223372036854775807) (w : World) : Calls Tryd.prog 104 #[.string s, .string ⟨#[61]⟩] w fun e w' => ∃ x y b, e = .returned (.tuple #[.string x, .string y, .bool b]) ∧ CutIs s x y b ∧ Below w.heap.size w w' := by
  have C := Lib.hid (index_any s 61 w)
  rcases index_spec s 61 with ⟨hno, hi⟩ | ⟨i, hf, hi⟩
  · rw [hi] at C
    go_enter Tryd.func104, Tryd.ntmps104
    go_wp2_with (go_at_call 108; (refine C.out.mono ?_); rintro e w' ⟨rfl, rfl⟩)
    exact bodyPost_ret (v := .tuple #[.string s, .string ⟨#[]⟩, .bool false]) (by simp [results, Tryd.results104, go_sem]) rfl ⟨_, _, _, rfl, .inl ⟨hno, rfl, rfl, rfl⟩, Below.refl _ _⟩
  · rw [hi] at C
    have hlt := hf.1
    have h0 : (0 : Int) ≤ (i : Int) := by omega
    have h1 : (i : Int) ≤ (s.size : Int) := by omega
    have h2 : (i : Int) + 1 ≤ (s.size : Int) := by omega
    have h3 : (0 : Int) ≤ (i : Int) + 1 := by omega
    have hw : IntKind.i64.wrap ((i : Int) + 1) = (i : Int) + 1 := IntWalk.i64_in _ (by omega)
    have e1 : ((i : Int) + 1).toNat = i + 1 := by omega
    have HF := Lib.hid hf
    clear hf hlt hi
    go_enter Tryd.func104, Tryd.ntmps104
    go_wp2_with (go_at_call 108; (refine C.out.mono ?_); rintro e w' ⟨rfl, rfl⟩)
    go_quiet (fail)
    go_wp2
    exact bodyPost_ret (v := .tuple #[.string (s.extract 0 i), .string (s.extract (i + 1) s.size), .bool true]) (by simp [results, Tryd.results104, go_sem, e1]) rfl ⟨_, _, _, rfl, .inr ⟨i, HF.out, rfl, rfl, rfl⟩, below_same (Below.refl _ _) rfl rfl rfl rfl⟩
set_option maxRecDepth 100000 in
set_option maxHeartbeats 2000000 in
theorem scut_any (s : ByteArray) (hs : (s.size : Int) ≤ 9223372036854775807) (w : World) : Calls Tryd.prog 96 #[.string s, .string ⟨#[61]⟩] w fun e w' => ∃ x y b, e = .returned (.tuple #[.string x, .string y, .bool b]) ∧ CutIs s x y b ∧ Below w.heap.size w w' := by
  have C := Lib.hid (cut_any s hs w)
  go_enter Tryd.func96, Tryd.ntmps96
  go_wp2_with (go_at_call 104; (refine C.out.mono ?_); rintro e w' ⟨x, y, b, rfl, hc, hb⟩)
  exact bodyPost_ret (v := .tuple #[.string x, .string y, .bool b]) (by simp [results, Tryd.results96, go_sem]) rfl ⟨_, _, _, rfl, hc, hb⟩
/-- A pair that comes back from the program. -/
def PairTup (s : ByteArray) (w : World) (e : Ending) (w' : World) : Prop := ∃ x y b, e = .returned (.tuple #[.string x, .string y, .bool b]) ∧ PairIs s x y b ∧ Below w.heap.size w w'
set_option maxRecDepth 100000 in
set_option maxHeartbeats 2000000 in
theorem pair_any (s : ByteArray) (hs : (s.size : Int) ≤ 9223372036854775807) (w : World) : Calls Tryd.prog 84 #[.string s] w (PairTup s w) := by
  have C := Lib.hid (scut_any s hs w)
  go_enter Tryd.func84, Tryd.ntmps84
  go_upto_region 2 with (go_at_call 96; (refine C.out.mono ?_); rintro e w' ⟨x, y, b, rfl, hc, hb⟩)
  rcases hc with ⟨hno, rfl, rfl, rfl⟩ | ⟨i, hf, rfl, rfl, rfl⟩
  · go_wp2
    exact bodyPost_ret (v := .tuple #[.string ⟨#[]⟩, .string ⟨#[]⟩, .bool false]) (by simp [results, Tryd.results84, go_sem]) rfl ⟨_, _, _, rfl, .inl ⟨hno, rfl, rfl, rfl⟩, hb⟩
  · have HF := Lib.hid hf
    clear hf
    go_wp2
    exact bodyPost_ret (v := .tuple #[.string (s.extract 0 i), .string (s.extract (i + 1) s.size), .bool true]) (by simp [results, Tryd.results84, go_sem]) rfl ⟨_, _, _, rfl, .inr ⟨i, HF.out, rfl, rfl, rfl⟩, hb⟩
end Go.Proofs.YtlpffgmfgkleiaaDoor

/-
  Runes of a text against its bytes, in plain words: what the words are at each rune.
-/
namespace Go.Proofs.YtlpffgmfgkleiaaDoor
open Go.RowKit Go.Maps

theorem get_byte (s : ByteArray) {j : Nat} (h : j < s.size) : (s.get! j).toNat = byteAt s j := by
  rw [(byteAt_in s h).2]
  have := get_at s j h
  rw [Nat.add_zero] at this
  rw [this]
/-- A rune that is longer than a byte is made of bytes that are none of the marks. -/
theorem dec_high (s : ByteArray) (p : Nat) (h : p < s.size) (hb : 128 ≤ byteAt s p) :
    128 ≤ (Utf8.decode s p).1 ∧ 1 ≤ (Utf8.decode s p).2 ∧ p + (Utf8.decode s p).2 ≤ s.size ∧ ∀ j, p ≤ j → j < p + (Utf8.decode s p).2 → 128 ≤ byteAt s j := by
  have hd := decode_high s p h (by rw [← (byteAt_in s h).2]; exact hb)
  refine ⟨hd.1, hd.2, ?_⟩
  have key : (Utf8.decode s p).2 = 1 ∨ ((Utf8.decode s p).2 = 2 ∧ p + 1 < s.size ∧ (s.get! (p + 1)).toNat / 64 = 2) ∨ ((Utf8.decode s p).2 = 3 ∧ p + 2 < s.size ∧ (s.get! (p + 1)).toNat / 64 = 2 ∧ (s.get! (p + 2)).toNat / 64 = 2) ∨
      ((Utf8.decode s p).2 = 4 ∧ p + 3 < s.size ∧ (s.get! (p + 1)).toNat / 64 = 2 ∧ (s.get! (p + 2)).toNat / 64 = 2 ∧ (s.get! (p + 3)).toNat / 64 = 2) := by
    rw [Lib.decode_at]
    generalize (s.get! p).toNat = b0
    generalize (s.get! (p + 1)).toNat = b1
    generalize (s.get! (p + 2)).toNat = b2
    generalize (s.get! (p + 3)).toNat = b3
    unfold Lib.decodeN
    split
    · exact .inl rfl
    · split
      · rename_i _ h1
        split
        · exact .inr (.inl ⟨rfl, by omega, h1.2.2⟩)
        · exact .inl rfl
      · split
        · rename_i _ _ h1
          split
          · exact .inr (.inr (.inl ⟨rfl, by omega, h1.2.1.2, h1.2.2.2⟩))
          · exact .inl rfl
        · split
          · rename_i _ _ _ h1
            split
            · exact .inr (.inr (.inr ⟨rfl, by omega, h1.2.1.2, h1.2.2.1.2, h1.2.2.2.2⟩))
            · exact .inl rfl
          · exact .inl rfl
  rcases key with e | ⟨e, hl, h1⟩ | ⟨e, hl, h1, h2⟩ | ⟨e, hl, h1, h2, h3⟩
  · rw [e]
    refine ⟨by omega, fun j hj1 hj2 => ?_⟩
    obtain rfl : j = p := by omega
    exact hb
  · rw [get_byte s (by omega)] at h1
    rw [e]
    refine ⟨by omega, fun j hj1 hj2 => ?_⟩
    rcases (show j = p ∨ j = p + 1 by omega) with rfl | rfl
    · exact hb
    · omega
  · rw [get_byte s (by omega)] at h1 h2
    rw [e]
    refine ⟨by omega, fun j hj1 hj2 => ?_⟩
    rcases (show j = p ∨ j = p + 1 ∨ j = p + 2 by omega) with rfl | rfl | rfl
    · exact hb
    · omega
    · omega
  · rw [get_byte s (by omega)] at h1 h2 h3
    rw [e]
    refine ⟨by omega, fun j hj1 hj2 => ?_⟩
    rcases (show j = p ∨ j = p + 1 ∨ j = p + 2 ∨ j = p + 3 by omega) with rfl | rfl | rfl | rfl
    · exact hb
    · omega
    · omega
    · omega
theorem dec_low (s : ByteArray) (p : Nat) (h : p < s.size) (hb : byteAt s p < 128) : Utf8.decode s p = (byteAt s p, 1) := by
  rw [(byteAt_in s h).2] at hb ⊢
  exact decode_ascii s p h hb

/-- Behind a note's mark no word has begun. -/
theorem wrun_rem (s : ByteArray) : ∀ i, (wrun s i).off = true → (wrun s i).fr = -1
  | 0, h => by simp [wrun] at h
  | i + 1, h => by
    rw [wrun] at h ⊢
    have ih := wrun_rem s i
    generalize wrun s i = q at h ih ⊢
    unfold wstep at h ⊢
    simp only [] at h ⊢
    split
    · rfl
    · rename_i hn
      rw [if_neg hn] at h
      simp only [] at h
      exact absurd (.inr (.inl (by rw [h]; rfl))) hn
theorem wrun_high (s : ByteArray) (p : Nat) : ∀ w, (∀ j, p ≤ j → j < p + w + 1 → 128 ≤ byteAt s j) →
    wrun s (p + w + 1) = if (wrun s p).off = true then wrun s p else ⟨(wrun s p).out, (wrun s p).ln, if (wrun s p).fr < 0 then (p : Int) else (wrun s p).fr, false⟩
  | 0, hb => by
    have h := hb p (by omega) (by omega)
    have ho := wrun_rem s p
    rw [Nat.add_zero, wrun]
    generalize wrun s p = q at ho ⊢
    obtain ⟨out, ln, fr, off⟩ := q
    unfold wstep
    simp only [] at ho ⊢
    cases off with
    | true =>
      have := ho rfl
      subst this
      simp [show ¬ byteAt s p = 10 by omega]
    | false =>
      simp [show ¬ byteAt s p = 10 by omega, show ¬ byteAt s p = 35 by omega, show ¬ byteAt s p = 32 by omega, show ¬ byteAt s p = 9 by omega]
  | w + 1, hb => by
    have ih := wrun_high s p w (fun j h1 h2 => hb j h1 (by omega))
    have h := hb (p + w + 1) (by omega) (by omega)
    have ho := wrun_rem s p
    have hf := (wrun_inv s p)
    rw [show p + (w + 1) + 1 = (p + w + 1) + 1 by omega, wrun, ih]
    generalize wrun s p = q at ho ⊢
    obtain ⟨out, ln, fr, off⟩ := q
    simp only [] at ho ⊢
    cases off with
    | true =>
      have := ho rfl
      subst this
      unfold wstep
      simp [show ¬ byteAt s (p + w + 1) = 10 by omega]
    | false =>
      unfold wstep
      by_cases hfr : fr < 0
      · simp [hfr, show ¬ byteAt s (p + w + 1) = 10 by omega, show ¬ byteAt s (p + w + 1) = 35 by omega, show ¬ byteAt s (p + w + 1) = 32 by omega, show ¬ byteAt s (p + w + 1) = 9 by omega]
        omega
      · simp [hfr, show ¬ byteAt s (p + w + 1) = 10 by omega, show ¬ byteAt s (p + w + 1) = 35 by omega, show ¬ byteAt s (p + w + 1) = 32 by omega, show ¬ byteAt s (p + w + 1) = 9 by omega]

/-- What has been told when a word ends at a place. -/
def told (s : ByteArray) (p : Nat) (q : LS) : List WV := if q.fr < 0 then q.out else q.out ++ [⟨q.fr, q.ln, s.extract q.fr.toNat p⟩]
/-- A rune further. -/
theorem rune_step (s : ByteArray) (p : Nat) (h : p < s.size) {r w : Nat} (hd : Utf8.decode s p = (r, w)) {q : LS} (hq : wrun s p = q) :
    1 ≤ w ∧ p + w ≤ s.size ∧
    (r = 10 → wrun s (p + w) = ⟨told s p q, q.ln + 1, -1, false⟩) ∧
    (r ≠ 10 → (q.off = true ∨ r = 35) → wrun s (p + w) = ⟨told s p q, q.ln, -1, true⟩) ∧
    (q.off = false → (r = 32 ∨ r = 9) → wrun s (p + w) = ⟨told s p q, q.ln, -1, false⟩) ∧
    (q.off = false → r ≠ 10 → r ≠ 35 → r ≠ 32 → r ≠ 9 → wrun s (p + w) = ⟨q.out, q.ln, if q.fr < 0 then (p : Int) else q.fr, false⟩) := by
  have ho := wrun_rem s p
  rw [hq] at ho
  by_cases hb : byteAt s p < 128
  · have := dec_low s p h hb
    rw [hd] at this
    injection this with h1 h2
    subst h2
    have hs : wrun s (p + 1) = wstep s p q := by rw [wrun, hq]
    refine ⟨by omega, by omega, ?_, ?_, ?_, ?_⟩
    · intro e
      have h10 : byteAt s p = 10 := by omega
      rw [hs]; unfold wstep told; simp [h10]
    · intro e1 e2
      have h10 : ¬ byteAt s p = 10 := by omega
      have hoff : (q.off || decide (byteAt s p = 35)) = true := by
        rcases e2 with e2 | e2
        · rw [e2]; rfl
        · rw [show byteAt s p = 35 by omega]; simp
      rw [hs]; unfold wstep told; simp only [hoff]; simp [h10]
    · intro e1 e2
      have h10 : ¬ byteAt s p = 10 := by omega
      have hoff : (q.off || decide (byteAt s p = 35)) = false := by
        rw [e1]; simp; omega
      have hbl : byteAt s p = 32 ∨ byteAt s p = 9 := by omega
      rw [hs]; unfold wstep told; simp only [hoff]; simp [h10, hbl]
    · intro e1 e2 e3 e4 e5
      have hoff : (q.off || decide (byteAt s p = 35)) = false := by
        rw [e1]; simp; omega
      have h10 : ¬ byteAt s p = 10 := by omega
      have h32 : ¬ byteAt s p = 32 := by omega
      have h9 : ¬ byteAt s p = 9 := by omega
      rw [hs]; unfold wstep; simp only [hoff]; simp [h10, h32, h9, e1]
  · obtain ⟨d1, d2, d3, d4⟩ := dec_high s p h (by omega)
    rw [hd] at d1 d2 d3 d4
    simp only [] at d1 d2 d3 d4
    have hr := wrun_high s p (w - 1) (fun j h1 h2 => d4 j h1 (by omega))
    rw [show p + (w - 1) + 1 = p + w by omega, hq] at hr
    refine ⟨d2, d3, fun e => by omega, ?_, fun _ e => by omega, ?_⟩
    · intro _ e2
      have e2 : q.off = true := by rcases e2 with e2 | e2
                                   · exact e2
                                   · omega
      rw [hr, if_pos e2]
      have hfr := ho e2
      obtain ⟨out, ln, fr, off⟩ := q
      have e3 : off = true := e2
      have e4 : fr = -1 := hfr
      subst e3
      subst e4
      simp [told]
    · intro e1 _ _ _ _
      rw [hr, if_neg (by rw [e1]; simp)]
/-- At the text's end. -/
theorem rune_end (s : ByteArray) {q : LS} (hq : wrun s s.size = q) : wordsOf s = told s s.size q := by
  unfold wordsOf
  rw [wrun, hq]
  unfold wstep told
  simp only []
  rw [if_pos (.inl (byteAt_end s (Nat.le_refl _)))]
end Go.Proofs.YtlpffgmfgkleiaaDoor

/-
  The walk over a number of a text, rune by rune.
-/
namespace Go.Proofs.YtlpffgmfgkleiaaDoor
open Go.RowKit Go.Maps

theorem nrun_le (s : ByteArray) {i n : Nat} (h : nrun s i = some n) : ∀ j m, i ≤ j → nrun s j = some m → n ≤ m := by
  intro j
  induction j with
  | zero =>
    intro m hj hm
    have : i = 0 := by omega
    subst this
    rw [h] at hm; cases hm; exact Nat.le_refl _
  | succ j ih =>
    intro m hj hm
    rcases Nat.lt_or_ge j i with q | q
    · have : i = j + 1 := by omega
      subst this
      rw [h] at hm; cases hm; exact Nat.le_refl _
    · rw [nrun] at hm
      split at hm
      · cases hm
      · rename_i k hk
        split at hm
        · cases hm
        · cases hm
          have := ih k q hk
          omega
/-- What the number is when a byte is no digit, or makes it too great. -/
theorem num_none (s : ByteArray) (most : Int) {p n : Nat} (hp : p < s.size) (hn : nrun s p = some n)
    (hb : byteAt s p < 48 ∨ 57 < byteAt s p ∨ most < (10 * n + (byteAt s p - 48) : Nat)) : numOf s most = none := by
  unfold numOf
  split
  · rfl
  · split
    · rfl
    · rename_i m hm
      by_cases hd : byteAt s p < 48 ∨ 57 < byteAt s p
      · have h1 : nrun s (p + 1) = none := by
          rw [nrun, hn]; simp only []
          rw [if_pos (by omega)]
        rw [nrun_none s h1 s.size (by omega)] at hm
        cases hm
      · cases h1 : nrun s (p + 1) with
        | none =>
          rw [nrun_none s h1 s.size (by omega)] at hm
          cases hm
        | some k =>
          have hk := nrun_le s h1 s.size m (by omega) hm
          rw [nrun, hn] at h1
          simp only [] at h1
          split at h1
          · cases h1
          · cases h1
            rw [if_pos (by omega)]
theorem num_some (s : ByteArray) (most : Int) {n : Nat} (h0 : ¬ (s.size = 0 ∨ (1 < s.size ∧ byteAt s 0 = 48))) (hn : nrun s s.size = some n) (hm : (n : Int) ≤ most) : numOf s most = some n := by
  unfold numOf
  rw [if_neg h0, hn]
  simp only []
  rw [if_neg (by omega)]
/-- A number that comes back from the program. -/
def NumIs (o : Option Nat) (w : World) (e : Ending) (w' : World) : Prop :=
  e = .returned (.tuple #[.int .i64 ((o.getD 0 : Nat) : Int), .bool o.isSome]) ∧ Below w.heap.size w w'

set_option maxRecDepth 100000 in
set_option maxHeartbeats 4000000 in
theorem number_any (s : ByteArray) (hs : (s.size : Int) ≤ 9223372036854775807) (most : Int) (hmost : I64 most) (w : World) : Calls Tryd.prog 81 #[.string s, .int .i64 most] w (NumIs (numOf s most) w) := by
  unfold I64 at hmost
  by_cases h0 : s.size = 0
  · have hn : numOf s most = none := by unfold numOf; rw [if_pos (.inl h0)]
    rw [hn]
    have he : s = ⟨#[]⟩ := by
      obtain ⟨d⟩ := s
      have : d.size = 0 := h0
      rw [Array.eq_empty_of_size_eq_zero this]
    subst he
    clear hn h0
    go_enter Tryd.func81, Tryd.ntmps81
    go_wp2
    go_step3
    go_wp2
    rw [Exit.noGoto_ret]
    exact bodyPost_ret (v := .tuple #[.int .i64 0, .bool false]) (by simp [results, Tryd.results81, go_sem]) rfl ⟨rfl, Below.refl _ _⟩
  · have hes := nonempty s h0
    have hp : 0 < s.size := by omega
    have h00 := (byteAt_in s hp).2
    by_cases hz0 : 1 < s.size ∧ byteAt s 0 = 48
    · have hn : numOf s most = none := by unfold numOf; rw [if_pos (.inr hz0)]
      rw [hn]
      have d1 : ((s[0].toNat : Int) == 48) = true := by rw [beq_iff_eq]; omega
      have d2 : (s.toList == [48]) = false := by
        rw [beq_eq_false_iff_ne]
        intro e
        have h1 := loop_len s s.size 0 [] (by omega)
        have h2 : (ByteArray.toList.loop s 0 []).length = 1 := by
          show s.toList.length = 1
          rw [e]; rfl
        simp at h1
        omega
      clear hn hz0 h0 h00
      go_enter Tryd.func81, Tryd.ntmps81
      go_wp2
      go_step3
      go_wp2
      rw [Exit.noGoto_ret]
      exact bodyPost_ret (v := .tuple #[.int .i64 0, .bool false]) (by simp [results, Tryd.results81, go_sem]) rfl ⟨rfl, Below.refl _ _⟩
    · have HOK : Hid (¬ (s.size = 0 ∨ (1 < s.size ∧ byteAt s 0 = 48))) := by rintro (q | q); exact h0 q; exact hz0 q
      have hor : ((((s[0].toNat : Int) == 48) = true ∧ (s.toList == [48]) = true) ∨ ((s[0].toNat : Int) == 48) = false) := by
        by_cases h48 : byteAt s 0 = 48
        · left
          have h1 : s.size = 1 := by omega
          refine ⟨by rw [beq_iff_eq]; omega, ?_⟩
          have e : s = ⟨#[48]⟩ := by
            obtain ⟨⟨l⟩⟩ := s
            match l, h1 with
            | [c], _ =>
              have : c.toNat = 48 := by rw [h00] at h48; exact h48
              have : c = 48 := UInt8.toNat_inj.1 this
              rw [this]
          subst e
          show (ByteArray.toList.loop ⟨#[48]⟩ 0 [] == [48]) = true
          rw [ByteArray.toList.loop, if_pos (by decide), ByteArray.toList.loop, if_neg (by decide)]
          rfl
        · right; rw [beq_eq_false_iff_ne]; omega
      rcases hor with ⟨d1, d2⟩ | d1
      all_goals
        clear hz0 h0 h00
        go_enter Tryd.func81, Tryd.ntmps81
        go_wp2
        go_step3
        go_wp2
        go_step3
        go_wp2
        go_loopw [6, 7] (fun u v wr => ∃ p n : Nat, p ≤ s.size ∧ u = .int .i64 n ∧ v = .int .i64 p ∧ n ≤ 9223372036854775807 ∧ Hid (nrun s p = some n) ∧ Hid ((n : Int) ≤ most ∨ p = 0) ∧ Hid (Below w.heap.size w wr) ∧ Hid (wr.heap[w.heap.size]? = some (.stringIter s p))) (fun _ _ wr => s.size - wr.iterPos w.heap.size)
        case atStart => exact ⟨0, 0, by omega, rfl, rfl, by omega, rfl, .inr rfl, (Below.refl _ w).alloc (Nat.le_refl _) (.stringIter s 0), World.iter_heap w s 0⟩
        case round =>
          obtain ⟨p, n, hps, rfl, rfl, hn63, HS, HM, HB, HIT⟩ := hrel
          clear hes d1
          by_cases hlt : p < s.size
          · obtain ⟨r, wd, hd⟩ : ∃ r wd, Utf8.decode s p = (r, wd) := ⟨_, _, rfl⟩
            have hnx : ∀ ty, (Instr.next (.pointer (some ⟨w.heap.size, 0, none⟩)) true ty).run Tryd.prog wr = _ := fun ty => Lib.run_next_any_at wr w.heap.size s p ty HIT.out hlt
            simp only [hd] at hnx
            have hr9 := decode_le s p
            rw [hd] at hr9
            simp only [] at hr9
            have hlow : (byteAt s p < 128 ∧ r = byteAt s p ∧ wd = 1) ∨ (128 ≤ byteAt s p ∧ 128 ≤ r) := by
              by_cases hb : byteAt s p < 128
              · have := dec_low s p hlt hb
                rw [hd] at this
                injection this with h1 h2
                exact .inl ⟨hb, h1, h2⟩
              · have := dec_high s p hlt (by omega)
                rw [hd] at this
                exact .inr ⟨by omega, this.1⟩
            have HB2 : Hid (Below w.heap.size w (wr.iterAt w.heap.size s (p + wd))) := Lib.below_iterAt HB.out (Nat.le_refl _) _ _
            have HI2 : Hid ((wr.iterAt w.heap.size s (p + wd)).heap[w.heap.size]? = some (.stringIter s (p + wd))) := Lib.iterAt_heap _ _ _ _ _ HIT.out
            obtain ⟨D, hD⟩ : ∃ D : Int, (r : Int) - 48 = D := ⟨_, rfl⟩
            have hw32 : IntKind.i32.wrap ((r : Int) - 48) = D := by rw [IntKind.wrap_i32]; omega
            have hw64 : IntKind.i64.wrap D = D := IntWalk.i64_in _ (by omega)
            have hpl : (p : Int) < (s.size : Int) := by omega
            by_cases h1 : D < 0
            · have HNO : Hid (numOf s most = none) := num_none s most hlt HS.out (by omega)
              clear hd hlow hr9 hD
              go_wp2
              exact bodyPost_ret (v := .tuple #[.int .i64 0, .bool false]) (by simp [results, Tryd.results81, go_sem]) rfl ⟨by rw [HNO.out]; rfl, HB2.out⟩
            · by_cases h2 : 9 < D
              · have HNO : Hid (numOf s most = none) := num_none s most hlt HS.out (by omega)
                clear hd hlow hr9 hD
                go_wp2
                exact bodyPost_ret (v := .tuple #[.int .i64 0, .bool false]) (by simp [results, Tryd.results81, go_sem]) rfl ⟨by rw [HNO.out]; rfl, HB2.out⟩
              · by_cases h3 : most < D
                · have HNO : Hid (numOf s most = none) := num_none s most hlt HS.out (by refine .inr (.inr ?_); omega)
                  clear hd hlow hr9 hD
                  go_wp2
                  exact bodyPost_ret (v := .tuple #[.int .i64 0, .bool false]) (by simp [results, Tryd.results81, go_sem]) rfl ⟨by rw [HNO.out]; rfl, HB2.out⟩
                · obtain ⟨Q, hQ⟩ : ∃ Q, (most - D) / 10 = Q := ⟨_, rfl⟩
                  have hwq : IntKind.i64.wrap (most - D) = most - D := IntWalk.i64_in _ (by omega)
                  have hq2 : (most - D).tdiv 10 = Q := by rw [Int.tdiv_eq_ediv_of_nonneg (by omega)]; exact hQ
                  have hwQ : IntKind.i64.wrap Q = Q := IntWalk.i64_in _ (by omega)
                  have hQ1 : 10 * Q ≤ most - D ∧ most - D < 10 * Q + 10 := by omega
                  by_cases h4 : Q < (n : Int)
                  · have HNO : Hid (numOf s most = none) := num_none s most hlt HS.out (by refine .inr (.inr ?_); omega)
                    clear hd hlow hr9 hD
                    go_wp2
                    exact bodyPost_ret (v := .tuple #[.int .i64 0, .bool false]) (by simp [results, Tryd.results81, go_sem]) rfl ⟨by rw [HNO.out]; rfl, HB2.out⟩
                  · have hdig : byteAt s p < 128 ∧ r = byteAt s p ∧ wd = 1 := by omega
                    obtain ⟨g1, g2, g3⟩ := hdig
                    subst g3
                    have hwn : IntKind.i64.wrap ((n : Int) * 10) = (n : Int) * 10 := IntWalk.i64_in _ (by omega)
                    obtain ⟨m, hm⟩ : ∃ m : Nat, 10 * n + (byteAt s p - 48) = m := ⟨_, rfl⟩
                    have hwm : IntKind.i64.wrap ((n : Int) * 10 + D) = (m : Int) := by rw [IntWalk.i64_in _ (by omega)]; omega
                    have hwp : IntKind.i64.wrap ((p : Int) + 1) = (p : Int) + 1 := IntWalk.i64_in _ (by omega)
                    have HS2 : Hid (nrun s (p + 1) = some m) := by
                      show _ = _
                      rw [nrun, HS.out]; simp only []
                      rw [if_neg (by omega), hm]
                    have HM2 : Hid ((m : Int) ≤ most ∨ p + 1 = 0) := by left; omega
                    have hm63 : m ≤ 9223372036854775807 := by omega
                    clear hd hlow hr9 hm g1 g2 hD
                    go_wp2
                    go_roundw
                    case rel => exact ⟨p + 1, m, by omega, rfl, by go_num, hm63, HS2, HM2, HB2, HI2⟩
                    case measure =>
                      simp only [World.iterPos, HI2.out, HIT.out]
                      omega
          · obtain rfl : p = s.size := by omega
            have hnx : ∀ ty, (Instr.next (.pointer (some ⟨w.heap.size, 0, none⟩)) true ty).run Tryd.prog wr = _ := fun ty => Lib.run_next_end_at wr w.heap.size s s.size ty HIT.out hlt
            have HF : Hid (numOf s most = some n) := num_some s most HOK.out HS.out (by rcases HM.out with z | z; exact z; omega)
            have hpl : ¬ (s.size : Int) < (s.size : Int) := by omega
            go_wp2
            exact bodyPost_ret (v := .tuple #[.int .i64 n, .bool true]) (by simp [results, Tryd.results81, go_sem]) rfl ⟨by rw [HF.out]; rfl, HB.out⟩
end Go.Proofs.YtlpffgmfgkleiaaDoor

/-
  The walk over what tells the pieces of a text one by one; numbers of a text, as the program reads them.
-/
namespace Go.Proofs.YtlpffgmfgkleiaaDoor
open Go.RowKit Go.Maps Go.Shelf
attribute [local go_sem] Oper.semAt_some

/-- The text that is left. -/
abbrev TextBox (W : World) (b : Nat) (t : ByteArray) : Prop := Go.Boxed W b 9 (.string t)
def StB (b : Nat) (X Y : World) : Prop := ∃ t u, TextBox X b t ∧ Y = X.setCell ⟨b, 0, none⟩ (.string u)
def KpB (b : Nat) (X Y : World) : Prop := ∀ (B : Nat) (T : TypeId) (v : Value), b ≤ B → B < b + 3 → T ≠ 2 → Go.Boxed X B T v → Go.Boxed Y B T v
theorem kpB_t {b : Nat} {A B C : World} (h : KpB b A B) (k : KpB b B C) : KpB b A C := fun _ _ _ h1 h2 h3 z => k _ _ _ h1 h2 h3 (h _ _ _ h1 h2 h3 z)
theorem kpB_b {b D : Nat} (W : World) (l : Nat) (o o' : Obj) (_ : D ≤ l) (h : W.heap[l]? = some o) (hc : o.isCells = false) (_ : o.isWalk = false) : KpB b W (W.putObj l o') := fun B T v _ _ _ z => by
  by_cases e : B = l
  · subst e
    rw [show W.heap[B]? = _ from z] at h
    cases h
    cases hc
  · exact (World.putObj_heap_other e).trans z
def boxLen (w : World) (b : Nat) : Nat := match w.cell? ⟨b, 0, none⟩ with
  | some (.string t) => t.size
  | _ => 0
theorem boxLen_of {w : World} {b : Nat} {t : ByteArray} (h : TextBox w b t) : boxLen w b = t.size := by unfold boxLen; rw [h.cell]
theorem sindex_any (r : ByteArray) (w : World) : Calls Tryd.prog 111 #[.string r, .string ⟨#[44]⟩] w fun e w' => e = .returned (.int .i64 (Lib.indexByte r.data.toList 44)) ∧ w' = w :=
  Tryd.strings_Index_one r 44 w

theorem sindex_fn : Fence.wide.fn 111 := trivial
set_option maxRecDepth 100000 in
set_option maxHeartbeats 4000000 in
theorem split_in (n : Nat) (hn : 1 ≤ n) (l b : Nat) (s : ByteArray) (hs : s.size ≤ 900000) (J Jx : List ByteArray → World → Prop) (W : World) (hJ : ∀ q X Y, J q X → StB b X Y → J q Y)
    (hY : ∀ pre x W1, x.size ≤ 900000 → J pre W1 → pre.length < s.size + 1 → YieldAt Fence.wide (n - 1) Tryd.prog l #[.string x] W1 fun e W' =>
      (e = .returned (.bool true) ∧ J (pre ++ [x]) W' ∧ KpB b W1 W') ∨ (e = .returned (.bool false) ∧ Jx (pre ++ [x]) W'))
    (hB0 : TextBox W b s) (hB1 : TextBox W (b + 1) ⟨#[44]⟩) (hB2 : Go.Boxed W (b + 2) 3 (.int .i64 0)) (h0 : J [] W) :
    CallsIn Fence.wide n Tryd.prog 109 #[.func (.yield l) #[] #[], .pointer (some ⟨b + 1, 0, none⟩), .pointer (some ⟨b, 0, none⟩), .pointer (some ⟨b + 2, 0, none⟩)] W fun e W' => (∃ v, e = .returned v) ∧
      ((∃ ys, ys = pieces s ∧ J ys W') ∨ (∃ pre, pre <+: pieces s ∧ Jx pre W')) := by
  have HY := Lib.hid hY
  have HJ := Lib.hid hJ
  have q1 := hB1.cell
  have HB0 := Lib.hid hB0
  have HB1 := Lib.hid hB1
  have HB2 := Lib.hid hB2
  have H0 : Hid (J [] W) := h0
  have hcs : (⟨#[44]⟩ : ByteArray).size = 1 := rfl
  clear hY hJ hB0 hB1 hB2 h0
  refine callsIn_of_wp Tryd.func109 rfl trivial ?_ rfl
  simp only [Tryd.ntmps109, List.size_toArray, List.length_cons, List.length_nil, Nat.reduceAdd, Nat.reduceSub, Array.replicate_succ, Array.replicate_zero, List.push_toArray, List.append_toArray, List.nil_append, List.cons_append]
  gi_wp2
  gi_loopw [] (fun wr => ∃ f : Nat, f ≤ s.size ∧ Hid ((prun s f).2 = f) ∧ Hid (J (prun s f).1 wr) ∧ Hid (TextBox wr b (s.extract f s.size)) ∧ Hid (TextBox wr (b + 1) ⟨#[44]⟩) ∧ Hid (Go.Boxed wr (b + 2) 3 (.int .i64 0))) (fun wr => boxLen wr b)
  case atStart =>
    refine ⟨0, by omega, rfl, H0, ?_, HB1, HB2⟩
    show TextBox W b _
    rw [ByteArray.extract_zero_size]
    exact HB0.out
  case round =>
    obtain ⟨f, hf, HF, HJ1, HT, HC, HV⟩ := hrel
    clear q1
    have q0 := HT.out.cell
    have q1 := HC.out.cell
    have q2 := HV.out.cell
    have hlen := prun_len s f
    have HLEN : Hid ((prun s f).1.length < s.size + 1) := by show _ < _; omega
    have hrs : (s.extract f s.size).size = s.size - f := by rw [ByteArray.size_extract]; omega
    have hpc := fun i => piece_step s (i := i) HF.out hf
    have hpl := piece_last s HF.out hf
    obtain ⟨r, hr⟩ : ∃ r, s.extract f s.size = r := ⟨_, rfl⟩
    obtain ⟨done, hdn⟩ : ∃ d, (prun s f).1 = d := ⟨_, rfl⟩
    rw [hr] at HT q0 hrs hpl
    rw [hdn] at HJ1 HLEN hpl
    simp only [hr, hdn] at hpc
    have IX := Lib.hid (fun w => sindex_any r w)
    clear hlen hr hdn
    rcases index_spec r 44 with ⟨hno, hi⟩ | ⟨i, hfi, hi⟩
    · have HP : Hid (pieces s = done ++ [r]) := hpl hno
      rw [hi] at IX
      obtain ⟨fn, tmps, assign, body, hy, hR⟩ := HY.out done r wr (by omega) HJ1.out HLEN.out
      have hR := Lib.hid hR
      clear hpc hpl hno hi
      gi_wp2_with ((with_reducible refine And.intro (a := Fence.wide.fn 111) sindex_fn ?_); gi_at_call 111; (refine (callsIn_wide.2 (IX.out _)).mono ?_); rintro e w' ⟨rfl, rfl⟩)
      refine hR.out.mono ?_
      rintro e W3 (⟨rfl, hJ3, hk3⟩ | ⟨rfl, hJx3⟩)
      · have HG : Hid (J (pieces s) W3) := by show J _ _; rw [HP.out]; exact hJ3
        clear hJ3 hk3 hy
        gi_wp2
        go_end0
        first | exact ⟨⟨_, rfl⟩, .inl ⟨_, rfl, HG.out⟩⟩ | exact ⟨⟨_, rfl⟩, .inl HG.out⟩
      · have HG : Hid (Jx (done ++ [r]) W3) := hJx3
        have HP2 : Hid (done ++ [r] <+: pieces s) := by show _ <+: _; rw [HP.out]; exact List.prefix_rfl
        clear hJx3 hy
        gi_wp2
        go_end0
        exact ⟨⟨_, rfl⟩, .inr ⟨_, HP2.out, HG.out⟩⟩
    · obtain ⟨g1, g2, g3⟩ := hpc i hfi
      have hir := hfi.1
      rw [hi] at IX
      have HG2 : Hid (prun s (f + i + 1) = (done ++ [r.extract 0 i], f + i + 1)) := g2
      have HG3 : Hid (r.extract (i + 1) r.size = s.extract (f + i + 1) s.size) := g3
      have HPX : Hid (done ++ [r.extract 0 i] <+: pieces s) := by
        show _ <+: _
        have := prun_pre s (f + i + 1) (s.size + 1) (by omega)
        rw [HG2.out] at this
        exact this
      obtain ⟨fn, tmps, assign, body, hy, hR⟩ := HY.out done (r.extract 0 i) wr (by rw [ByteArray.size_extract]; omega) HJ1.out HLEN.out
      have hR := Lib.hid hR
      have i0 : (0 : Int) ≤ (i : Int) := by omega
      have i1 : (i : Int) ≤ (r.size : Int) := by omega
      have i2 : (i : Int) + 1 ≤ (r.size : Int) := by omega
      have i3 : (0 : Int) ≤ (i : Int) + 1 := by omega
      have i4 : ¬ (i : Int) < 0 := by omega
      have hw0 : IntKind.i64.wrap (i : Int) = (i : Int) := IntWalk.i64_in _ (by omega)
      have hw1 : IntKind.i64.wrap ((i : Int) + 1) = (i : Int) + 1 := IntWalk.i64_in _ (by omega)
      have e1 : ((i : Int) + 1).toNat = i + 1 := by omega
      have HRS := Lib.hid hrs
      clear hpc hpl hfi hi g2 g3 hir hrs
      gi_wp2_with ((with_reducible refine And.intro (a := Fence.wide.fn 111) sindex_fn ?_); gi_at_call 111; (refine (callsIn_wide.2 (IX.out _)).mono ?_); rintro e w' ⟨rfl, rfl⟩)
      refine hR.out.mono ?_
      rintro e W3 (⟨rfl, hJ3, hk3⟩ | ⟨rfl, hJx3⟩)
      · have HT3 : Hid (TextBox W3 b r) := hk3 _ _ _ (by omega) (by omega) (by decide) HT.out
        have HC3 : Hid (TextBox W3 (b + 1) ⟨#[44]⟩) := hk3 _ _ _ (by omega) (by omega) (by decide) HC.out
        have HV3 : Hid (Go.Boxed W3 (b + 2) 3 (.int .i64 0)) := hk3 _ _ _ (by omega) (by omega) (by decide) HV.out
        have HJ3 : Hid (J (done ++ [r.extract 0 i]) W3) := hJ3
        clear q0 q1 q2 hJ3 hk3 hy
        have q0 := HT3.out.cell
        have q1 := HC3.out.cell
        have q3 := HT3.out.frozen
        gi_wp2
        go_roundw
        case rel =>
          refine ⟨f + i + 1, g1, by show _ = _; rw [HG2.out], ?_, ?_, HC3.out.other (by omega) _, HV3.out.other (by omega) _⟩
          · show J _ _
            rw [HG2.out]
            exact HJ.out _ _ _ HJ3.out ⟨r, _, HT3.out, rfl⟩
          · show TextBox _ _ _
            rw [← HG3.out]
            exact HT3.out.set _
        case measure =>
          rw [boxLen_of HT.out, boxLen_of (HT3.out.set _), ByteArray.size_extract]
          have := HRS.out
          omega
      · have HG : Hid (Jx (done ++ [r.extract 0 i]) W3) := hJx3
        clear hJx3 hy
        gi_wp2
        refine bodyPost_ret (results_none rfl _ _ _) rfl ?_
        exact ⟨⟨_, rfl⟩, .inr ⟨_, HPX.out, HG.out⟩⟩
end Go.Proofs.YtlpffgmfgkleiaaDoor

/-
  The walk over numbers of a text, with commas between them.
-/
namespace Go.Proofs.YtlpffgmfgkleiaaDoor
open Go.RowKit Go.Maps Go.Shelf
attribute [local go_sem] Oper.semAt_some

abbrev Pc := { x : ByteArray // x.size ≤ 900000 }
theorem split_tells (n : Nat) (hn : 1 ≤ n) (b : Nat) (s : ByteArray) (hs : s.size ≤ 900000) (w : World) (h0 : TextBox w b s) (h1 : TextBox w (b + 1) ⟨#[44]⟩) (h2 : Go.Boxed w (b + 2) 3 (.int .i64 0)) :
    Tells n Tryd.prog 109 #[.pointer (some ⟨b + 1, 0, none⟩), .pointer (some ⟨b, 0, none⟩), .pointer (some ⟨b + 2, 0, none⟩)] (fun x : Pc => #[.string x.1]) (KpB b) (StB b) (fun ys => ys.map (·.1) = pieces s) (fun ys => ys.map (·.1) <+: pieces s) (s.size + 1) w :=
  fun l J Jx W hW hJ hY hs0 =>
    (split_in n hn l b s hs (fun q W => ∃ q' : List Pc, q'.map (·.1) = q ∧ J q' W) (fun q W => ∃ q' : List Pc, q'.map (·.1) = q ∧ Jx q' W) W
      (fun q X Y ⟨q', e, h⟩ st => ⟨q', e, hJ _ _ _ h st⟩)
      (fun pre x W1 hx ⟨q', e, h⟩ hlen => by
        subst e
        obtain ⟨fn, tmps, assign, body, hy, hR⟩ := hY q' ⟨x, hx⟩ W1 h (by simpa using hlen)
        refine ⟨fn, tmps, assign, body, hy, hR.mono ?_⟩
        rintro e W' (⟨rfl, hj, hk⟩ | ⟨rfl, hj⟩)
        · exact .inl ⟨rfl, ⟨_, by simp, hj⟩, hk⟩
        · exact .inr ⟨rfl, _, by simp, hj⟩)
      (kept_obj hW h0) (kept_obj hW h1) (kept_obj hW h2) ⟨[], rfl, hs0⟩).mono fun e W' ⟨hv, h⟩ => ⟨hv, by
        rcases h with ⟨ys, rfl, q', e, hj⟩ | ⟨pre, hp, q', e, hj⟩
        · exact .inl ⟨q', e, hj⟩
        · exact .inr ⟨q', (by show q'.map (·.1) <+: _; rw [e]; exact hp), hj⟩⟩
theorem splitseq_val (s : ByteArray) (n : Nat) (w : World) :
    CallsIn Fence.wide n Tryd.prog 105 #[.string s, .string ⟨#[44]⟩, .int .i64 0] w fun e w' => e = .returned (.func (.func 109) #[] #[.pointer (some ⟨w.heap.size + 1, 0, none⟩), .pointer (some ⟨w.heap.size, 0, none⟩), .pointer (some ⟨w.heap.size + 2, 0, none⟩)]) ∧
      w' = ((w.alloc (.cells #[.string s] 9)).alloc (.cells #[.string ⟨#[44]⟩] 9)).alloc (.cells #[.int .i64 0] 3) := by
  have hmf : ∀ (fn : Fn) (first cap : Array Value) (w : World), (Instr.makeFunc fn first cap).run Tryd.prog w = .ok (.func fn first cap) w := fun _ _ _ _ => rfl
  refine callsIn_of_wp Tryd.func105 rfl trivial ?_ rfl
  simp only [Tryd.ntmps105, List.size_toArray, List.length_cons, List.length_nil, Nat.reduceAdd, Nat.reduceSub, Array.replicate_succ, Array.replicate_zero, List.push_toArray, List.append_toArray, List.nil_append, List.cons_append]
  gi_wp2
  go_ret
  exact ⟨rfl, rfl⟩
theorem seq_val (s : ByteArray) (n : Nat) (hn : 1 ≤ n) (w : World) :
    CallsIn Fence.wide n Tryd.prog 97 #[.string s, .string ⟨#[44]⟩] w fun e w' => e = .returned (.func (.func 109) #[] #[.pointer (some ⟨w.heap.size + 1, 0, none⟩), .pointer (some ⟨w.heap.size, 0, none⟩), .pointer (some ⟨w.heap.size + 2, 0, none⟩)]) ∧
      w' = ((w.alloc (.cells #[.string s] 9)).alloc (.cells #[.string ⟨#[44]⟩] 9)).alloc (.cells #[.int .i64 0] 3) := by
  have SV := Lib.hid (fun n w => splitseq_val s n w)
  refine callsIn_of_wp Tryd.func97 rfl trivial ?_ rfl
  simp only [Tryd.ntmps97, List.size_toArray, List.length_cons, List.length_nil, Nat.reduceAdd, Nat.reduceSub, Array.replicate_succ, Array.replicate_zero, List.push_toArray, List.append_toArray, List.nil_append, List.cons_append]
  gi_wp2_with (refine ⟨trivial, ?_⟩; gi_at_call 105; (refine (SV.out _ _).mono ?_); rintro e w' ⟨rfl, rfl⟩)
  go_ret
  exact ⟨rfl, rfl⟩

/-- What a reader of numbers holds between two pieces. -/
structure NI (most : Int) (w W : World) (l : List Int) : Prop where
  row : ∃ v, Go.Boxed W (w.heap.size + 3) 49 v ∧ W.ownsRow (w.heap.size + 1) 2 1 v l.length (vi l) ∧ True
  bound : Go.Boxed W w.heap.size 2 (.int .i64 most)
  r0 : Go.Boxed W (w.heap.size + 1) 49 (.slice none 0 0)
  r1 : Go.Boxed W (w.heap.size + 2) 4 (.bool false)
  low : Below w.heap.size w W
theorem boxed_keep {X Y : World} {B : Nat} {T : TypeId} {v : Value} {row : Option Nat} (h : Go.Boxed X B T v) (hg : X.grownBy Y row) (hr : ∀ r, row = some r → ∃ o : Obj, X.heap[r]? = some o ∧ o.isCells = false) : Go.Boxed Y B T v :=
  boxed_own (β := Unit) B T (fun _ => v) () X Y row h hg hr
theorem NI.own (most : Int) (w : World) {β : Type} (f : β → List Int) {B : Nat} (hB : w.heap.size ≤ B) : OwnFrom B (fun s W => NI most w W (f s)) := fun s X Y row hs hg hr => by
  have hc : ∀ r, row = some r → ∃ o : Obj, X.heap[r]? = some o ∧ o.isCells = false := fun r e => (hr r e).2
  exact ⟨holdsRow_own (w.heap.size + 1) (w.heap.size + 3) 49 2 1 (fun s => (f s).length) (fun s => vi (f s)) (fun _ _ => True) s X Y row hs.row hg hc, boxed_keep hs.bound hg hc, boxed_keep hs.r0 hg hc, boxed_keep hs.r1 hg hc,
    ownFrom_below (β := Unit) (Nat.le_refl _) hB () X Y row hs.low hg hr⟩
theorem NI.step {most : Int} {w X Y : World} {l : List Int} (h : NI most w X l) (st : StB (w.heap.size + 4) X Y) : NI most w Y l := by
  obtain ⟨t, u, ht, rfl⟩ := st
  obtain ⟨⟨v, hv, hrow, _⟩, h2, h3, h4, h5⟩ := h
  exact ⟨⟨v, hv.other (by omega) _, hrow.kept (grownBy_setCell' X (w.heap.size + 4) _) (.inr (ht.not_row (by decide) hrow).symm), trivial⟩, h2.other (by omega) _, h3.other (by omega) _, h4.other (by omega) _, h5.setCell (p := ⟨w.heap.size + 4, 0, none⟩) (by simp) _⟩
theorem NI.below {most : Int} {w X Y : World} {l : List Int} (h : NI most w X l) (hb : Below X.heap.size X Y) : NI most w Y l := by
  obtain ⟨⟨v, hv, hrow, _⟩, h2, h3, h4, h5⟩ := h
  exact ⟨⟨v, kept_obj hb hv, OwnI.below hrow hb, trivial⟩, kept_obj hb h2, kept_obj hb h3, kept_obj hb h4, below_up h5 hb⟩
/-- .. and when a piece was none. -/
structure NX (w W : World) : Prop where
  r0 : Go.Boxed W (w.heap.size + 1) 49 (.slice none 0 0)
  r1 : Go.Boxed W (w.heap.size + 2) 4 (.bool false)
  low : Below w.heap.size w W
theorem NX.own (w : World) {B : Nat} (hB : w.heap.size ≤ B) {X Y : World} {row : Option Nat} (hs : NX w X) (hg : X.grownBy Y row) (hr : ∀ r, row = some r → B ≤ r ∧ ∃ o : Obj, X.heap[r]? = some o ∧ o.isCells = false) : NX w Y := by
  have hc : ∀ r, row = some r → ∃ o : Obj, X.heap[r]? = some o ∧ o.isCells = false := fun r e => (hr r e).2
  exact ⟨boxed_keep hs.r0 hg hc, boxed_keep hs.r1 hg hc, ownFrom_below (β := Unit) (Nat.le_refl _) hB () X Y row hs.low hg hr⟩
theorem boxed_at (w : World) {k : Nat} (hk : w.heap.size = k) (T : TypeId) (v : Value) : Go.Boxed (w.alloc (.cells #[v] T)) k T v := by subst hk; exact Go.Boxed.new w T v
theorem keepsFrom_below {B : Nat} {X Y : World} (hb : Below X.heap.size X Y) : KeepsFrom B X Y := ⟨hb.size, fun k o _ hk _ => kept_obj hb hk⟩
theorem kpB_below {b : Nat} {X Y : World} (hb : Below X.heap.size X Y) : KpB b X Y := fun _ _ _ _ _ _ z => kept_obj hb z

set_option maxRecDepth 100000 in
set_option maxHeartbeats 4000000 in
theorem numbers_any (s : ByteArray) (hs : s.size ≤ 900000) (most : Int) (hmost : I64 most) (w : World) : Calls Tryd.prog 86 #[.string s, .int .i64 most] w (NumsB (numsOf s most) w) := by
  rw [numsOf_is]
  have SV := Lib.hid (fun n hn w => seq_val s n hn w)
  have IT := Lib.hid (fun n hn b w h0 h1 h2 => split_tells n hn b s hs w h0 h1 h2)
  obtain ⟨i0, hi, hz0, hz1, hz2⟩ := numL.info
  refine (callsIn_wide (n := 4)).1 ?_
  refine callsIn_of_wp_marks Tryd.func86 rfl trivial ?_ rfl
  simp only [Tryd.ntmps86, List.size_toArray, List.length_cons, List.length_nil, Nat.reduceAdd, Nat.reduceSub, Array.replicate_succ, Array.replicate_zero, List.push_toArray, List.append_toArray, List.nil_append, List.cons_append]
  gi_wp2_with (refine ⟨trivial, ?_⟩; gi_at_call 97; (refine (SV.out _ (by omega) _).mono ?_); rintro e w' ⟨rfl, rfl⟩)
  obtain ⟨W0, hW0⟩ : ∃ W0, ((((((w.alloc (.cells #[.int .i64 most] 2)).alloc (.cells #[.slice none 0 0] 49)).alloc (.cells #[.bool false] 4)).alloc (.cells #[.slice none 0 0] 49)).alloc (.cells #[.string s] 9)).alloc (.cells #[.string ⟨#[44]⟩] 9)).alloc (.cells #[.int .i64 0] 3) = W0 := ⟨_, rfl⟩
  have hsz : W0.heap.size = w.heap.size + 7 := by rw [← hW0]; simp
  have c0 : Go.Boxed W0 w.heap.size 2 (.int .i64 most) := by rw [← hW0]; exact (((((((boxed_at w rfl _ _).alloc _).alloc _).alloc _).alloc _).alloc _).alloc _)
  have c1 : Go.Boxed W0 (w.heap.size + 1) 49 (.slice none 0 0) := by rw [← hW0]; exact ((((((boxed_at _ (by simp) _ _).alloc _).alloc _).alloc _).alloc _).alloc _)
  have c2 : Go.Boxed W0 (w.heap.size + 2) 4 (.bool false) := by rw [← hW0]; exact (((((boxed_at _ (by simp) _ _).alloc _).alloc _).alloc _).alloc _)
  have c3 : Go.Boxed W0 (w.heap.size + 3) 49 (.slice none 0 0) := by rw [← hW0]; exact ((((boxed_at _ (by simp) _ _).alloc _).alloc _).alloc _)
  have c4 : TextBox W0 (w.heap.size + 4) s := by rw [← hW0]; exact (((boxed_at _ (by simp) _ _).alloc _).alloc _)
  have c5 : TextBox W0 (w.heap.size + 5) ⟨#[44]⟩ := by rw [← hW0]; exact ((boxed_at _ (by simp) _ _).alloc _)
  have c6 : Go.Boxed W0 (w.heap.size + 6) 3 (.int .i64 0) := by rw [← hW0]; exact (boxed_at _ (by simp) _ _)
  have cb : Below w.heap.size w W0 := by rw [← hW0]; exact bw_alloc (bw_alloc (bw_alloc (bw_alloc (bw_alloc (bw_alloc (bw_alloc (Below.refl _ _) _) _) _) _) _) _) _
  rw [hW0]
  clear SV hW0
  refine range_tells (n := 4) (by omega) (gf := 109) (lb := #[.pointer (some ⟨w.heap.size + 5, 0, none⟩), .pointer (some ⟨w.heap.size + 4, 0, none⟩), .pointer (some ⟨w.heap.size + 6, 0, none⟩)]) rfl (enters_of Tryd.func109 (by kernel_rfl) rfl)
    (IT.out _ (by omega) (w.heap.size + 4) W0 c4 c5 c6) kpB_t kpB_b (fun X Y ⟨t, u, _, e⟩ => by subst e; exact (KeepsOthers.setCell _ _ _).from _) (fun _ => rfl)
    (fun pre W => ∃ l, numsL most (pre.map (·.1)) = some l ∧ l.length = pre.length ∧ NI most w W l)
    (fun pre W => numsL most (pre.map (·.1)) = none ∧ NX w W)
    (fun _ X Y row ⟨l, e1, e2, e3⟩ hg hr => ⟨l, e1, e2, NI.own most w (fun _ : Unit => l) (by omega) () X Y row e3 hg hr⟩)
    (fun _ X Y ⟨l, e1, e2, e3⟩ st => ⟨l, e1, e2, e3.step st⟩)
    (fun _ X Y row ⟨e1, e2⟩ hg hr => ⟨e1, NX.own w (by omega) e2 hg hr⟩)
    ⟨[], rfl, rfl, ⟨_, c3, World.ownsRow_nil _ _ _ _, trivial⟩, c0, c1, c2, cb⟩
    (fun x => { tmps := #[.string s, .int .i64 most, undef, .pointer (some ⟨w.heap.size, 0, none⟩), .pointer (some ⟨w.heap.size + 1, 0, none⟩), .pointer (some ⟨w.heap.size + 2, 0, none⟩), .pointer (some ⟨w.heap.size + 3, 0, none⟩), .string x.1, undef, undef, .string s, .func (.func 109) #[] #[.pointer (some ⟨w.heap.size + 5, 0, none⟩), .pointer (some ⟨w.heap.size + 4, 0, none⟩), .pointer (some ⟨w.heap.size + 6, 0, none⟩)], .string x.1, undef, undef, undef, undef, undef, undef, undef, undef, undef, undef, undef, undef, undef], defers := [] })
    ?assign ?body ?done ?stop
  case assign =>
    intro l x W K hK
    gi_wp2
    exact hK
  case body =>
    rintro l pre x W ⟨q, hq, hql, hN⟩ hlt
    clear IT c0 c1 c2 c3 c4 c5 c6 cb
    have hbd := hN.bound.cell
    have HN := Lib.hid hN
    have HQL := Lib.hid hql
    have hq9 : q.length ≤ 900000 := by omega
    clear hN hql
    cases hx : numOf x.1 most with
    | none =>
      have NU : Hid (∀ w, Calls Tryd.prog 81 #[.string x.1, .int .i64 most] w fun e w' => e = .returned (.tuple #[.int .i64 0, .bool false]) ∧ Below w.heap.size w w') := fun w => by
        have := number_any x.1 (by have := x.2; omega) most hmost w
        rw [hx] at this; exact this
      have HX : Hid (numsL most ((pre ++ [x]).map (·.1)) = none) := by
        show _ = _; rw [List.map_append, List.map_singleton, numsL_snoc, hq]; simp only []; rw [hx]
      clear hx
      gi_wp2_with (refine ⟨trivial, ?_⟩; gi_at_call 81; refine (CallsIn.inRound l (callsIn_wide.2 (NU.out _))).mono ?_; rintro e w5 ⟨rfl, b5⟩; have N5 := HN.out.below b5; have k1 := N5.r0.cell; have f1 := N5.r0.frozen; have k2 := N5.r1.cell; have f2 := N5.r1.frozen)
      exact ⟨((keepsFrom_below b5).trans ((KeepsOthers.setCell _ _ _).from _)).trans ((KeepsOthers.setCell _ _ _).from _), HX.out, (N5.r0.set _).other (by omega) _, (N5.r1.other (by omega) _).set _, (N5.low.setCell (p := ⟨w.heap.size + 1, 0, none⟩) (by simp) _).setCell (p := ⟨w.heap.size + 2, 0, none⟩) (by simp) _⟩
    | some m =>
      have NU : Hid (∀ w, Calls Tryd.prog 81 #[.string x.1, .int .i64 most] w fun e w' => e = .returned (.tuple #[.int .i64 m, .bool true]) ∧ Below w.heap.size w w') := fun w => by
        have := number_any x.1 (by have := x.2; omega) most hmost w
        rw [hx] at this; exact this
      have HX : Hid (numsL most ((pre ++ [x]).map (·.1)) = some (q ++ [(m : Int)])) := by
        show _ = _; rw [List.map_append, List.map_singleton, numsL_snoc, hq]; simp only []; rw [hx]
      clear hx
      gi_wp2_with (first | (refine ⟨trivial, ?_⟩; gi_at_call 81; refine (CallsIn.inRound l (callsIn_wide.2 (NU.out _))).mono ?_; rintro e w5 ⟨rfl, b5⟩; obtain ⟨⟨v, hv, hrow, _⟩, hb0, hr0, hr1, hlow⟩ := HN.out.below b5; have hc := hv.cell) | (gi_at_builtin; refine wpListIn_append_own _ rfl _ _ 49 rfl (w.heap.size + 1) 2 i0 (.int .i64 0) 1 8 Tryd.underlying49 hi hz0 hz1 hz2 rfl (by decide) _ _ _ rfl (hrow.alloc _) ⟨w5.heap.size, 0, none⟩ 1 1 [.int .i64 (m : Int)] rfl rfl (cell_one_new _ _ _) (by simp [Value.oneCell']) (by unfold maxLen; omega) (by omega) (by have := hv.lt; simp; omega) ?_; intro v' w6 hown' hgrow _; obtain ⟨g', cap', rfl⟩ := ownsRow_succ hown'; obtain ⟨hv1, hv2, hr2, hk2, hb2⟩ := hv.appended (by decide) hrow (by have := hv.lt; omega) (by omega) hown' hgrow; have hc1 := hv1.cell; have hf1 := hv1.frozen))
      refine ⟨(keepsFrom_below b5).trans (hk2.from _), kpB_t (kpB_below b5) (fun B T u hB1 hB2 hT z => ((z.alloc _).kept hgrow (z.not_row hT hrow)).other (by omega) _), q ++ [(m : Int)], HX.out, by rw [List.length_append, List.length_append, HQL.out]; rfl, ⟨_, hv2, ?_, trivial⟩,
        ((hb0.alloc _).kept hgrow (fun e => by have := hrow.lt _ e.symm; omega)).other (by omega) _, ((hr0.alloc _).kept hgrow (hr0.not_row (by decide) hrow)).other (by omega) _, ((hr1.alloc _).kept hgrow (hr1.not_row (by decide) hrow)).other (by omega) _, hlow.trans (hb2.mono (by omega))⟩
      rw [List.length_append]
      unfold vi at hr2 ⊢
      rw [List.map_append]
      exact hr2
  case done =>
    rintro D ys W hD hS ⟨q, hq, hql, ⟨v, hv, hrow, _⟩, hb0, hr0, hr1, hlow⟩ hK
    obtain ⟨a, cp, rfl, hIn, hcp, hcm⟩ := OwnI.slice (l := q) hrow
    have hc : W.cell? ⟨w.heap.size + 1 + 1 + 1, 0, none⟩ = some (.slice a q.length cp) := hv.cell
    have HQL := Lib.hid hql
    clear hql
    have k1 := hr0.cell
    have f1 := hr0.frozen
    have k2 : W.cell? ⟨w.heap.size + 1 + 1, 0, none⟩ = some (.bool false) := hr1.cell
    have f2 : W.frozen? ⟨w.heap.size + 1 + 1, 0, none⟩ = false := hr1.frozen
    clear IT
    gi_wp2
    have hk : ((W.setCell ⟨w.heap.size + 1, 0, none⟩ (.slice a q.length cp)).setCell ⟨w.heap.size + 1 + 1, 0, none⟩ (.bool true)).heap[D]? = some (.deferred (some [])) := ((KeepsOthers.setCell _ _ _).trans (KeepsOthers.setCell _ _ _)).same D _ hK rfl
    have g1 : Go.Boxed ((W.setCell ⟨w.heap.size + 1, 0, none⟩ (.slice a q.length cp)).setCell ⟨w.heap.size + 1 + 1, 0, none⟩ (.bool true)) (w.heap.size + 1) 49 (.slice a q.length cp) := (hr0.set _).other (by omega) _
    have z2 : Go.Boxed (W.setCell ⟨w.heap.size + 1, 0, none⟩ (.slice a q.length cp)) (w.heap.size + 1 + 1) 4 (.bool false) := hr1.other (by omega) _
    have g2 : Go.Boxed ((W.setCell ⟨w.heap.size + 1, 0, none⟩ (.slice a q.length cp)).setCell ⟨w.heap.size + 1 + 1, 0, none⟩ (.bool true)) (w.heap.size + 1 + 1) 4 (.bool true) := z2.set _
    have hl2 : Below w.heap.size w ((W.setCell ⟨w.heap.size + 1, 0, none⟩ (.slice a q.length cp)).setCell ⟨w.heap.size + 1 + 1, 0, none⟩ (.bool true)) := (hlow.setCell (p := ⟨w.heap.size + 1, 0, none⟩) (by simp) _).setCell (p := ⟨w.heap.size + 1 + 1, 0, none⟩) (by simp; omega) _
    have hr9 : OwnI ((W.setCell ⟨w.heap.size + 1, 0, none⟩ (.slice a q.length cp)).setCell ⟨w.heap.size + 1 + 1, 0, none⟩ (.bool true)) 2 (w.heap.size + 1) (.slice a q.length cp) q :=
      World.ownsRow.kept (World.ownsRow.kept hrow (grownBy_setCell' _ (w.heap.size + 1) _) (.inr (hr0.not_row (by decide) hrow).symm)) (grownBy_setCell' _ (w.heap.size + 1 + 1) _) (.inr (Ne.symm (hr1.not_row (by decide) hrow)))
    generalize ((W.setCell ⟨w.heap.size + 1, 0, none⟩ (.slice a q.length cp)).setCell ⟨w.heap.size + 1 + 1, 0, none⟩ (.bool true)) = V at hk g1 g2 hl2 hr9 ⊢
    have p1 : (V.putObj D (.deferred none)).cell? ⟨w.heap.size + 1, 0, none⟩ = some (.slice a q.length cp) := Go.Boxed.cell (t := 49) ((World.putObj_heap_other (by omega)).trans g1)
    have p2 : (V.putObj D (.deferred none)).cell? ⟨w.heap.size + 1 + 1, 0, none⟩ = some (.bool true) := Go.Boxed.cell (t := 4) ((World.putObj_heap_other (by omega)).trans g2)
    have hIn2 : Ints (V.putObj D (.deferred none)) a q := by
      obtain ⟨a', c', e', hI', _⟩ := OwnI.slice (l := q) (ownsRow_putObj hr9 (.deferred none) hk rfl)
      cases e'
      exact hI'
    refine ⟨by simp, .inl ⟨_, _, rfl, run_takeDeferred hk, ?_⟩⟩
    refine ⟨.tuple #[.slice a q.length cp, .bool true], by simp [results, Tryd.results86, go_sem, p1, p2], hl2.trans (belowK_b (w := w) (Nat.le_refl _) V D _ _ (by omega) hk rfl rfl), .inr ⟨q, a, cp, ?_, rfl, hIn2, by rw [HQL.out]; have := congrArg List.length hS; rw [List.length_map] at this; have h3 := prun_len s (s.size + 1); unfold pieces at this; omega⟩⟩
    rw [← hS, hq]
  case stop =>
    rintro D pre W hD hp ⟨hx, ⟨hr0, hr1, hlow⟩⟩ hK
    have k1 := hr0.cell
    have k2 : W.cell? ⟨w.heap.size + 1 + 1, 0, none⟩ = some (.bool false) := hr1.cell
    clear IT
    gi_wp2
    have p1 : (W.putObj D (.deferred none)).cell? ⟨w.heap.size + 1, 0, none⟩ = some (.slice none 0 0) := Go.Boxed.cell (t := 49) ((World.putObj_heap_other (by omega)).trans hr0)
    have p2 : (W.putObj D (.deferred none)).cell? ⟨w.heap.size + 1 + 1, 0, none⟩ = some (.bool false) := Go.Boxed.cell (t := 4) ((World.putObj_heap_other (by omega)).trans hr1)
    refine ⟨by simp, .inl ⟨_, _, rfl, run_takeDeferred hK, ?_⟩⟩
    refine ⟨.tuple #[.slice none 0 0, .bool false], by simp [results, Tryd.results86, go_sem, p1, p2], hlow.trans (belowK_b (w := w) (Nat.le_refl _) W D _ _ (by omega) hK rfl rfl), .inl ⟨numsL_pre most hp hx, rfl⟩⟩
end Go.Proofs.YtlpffgmfgkleiaaDoor
